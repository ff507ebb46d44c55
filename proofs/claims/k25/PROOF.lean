import PyProof.Rows.All
import Wide.All
import OpenK.AllK
import Wide.FinOn
import HandS.ForMost
import HandS.Conv
import HandS.More
import HandS.Wide
import HandS.Style
import HandS.Flow
import HandS.EndBits
import HandS.Walk
import HandS.Steps
import KE.GoesEnum
import KE.GoesMore
import PyProof.ReprRoads
import PyProof.ReprLen
import HandS.DictComp
import HandS.SortInts
import HandS.TupAny
import HandS.SortKw
import KE.KMinBuiltin
import HandS.IsInst
import HandS.TryOnly
import KE.DataCmp
import KE.SortData
import HandS.TupMul
import HandS.Lambda
import HandS.EndTab
import KE.KNestM
import HandS.ExcInit
import HandS.ExcField
import HandS.ExcIs
import HandS.WordsExc
import HandS.ExcValue
import KE.KExcInit
import KE.KExcIs
import PySem.Challenge.RW_slotfall_k25_nodes_compared
set_option Elab.async false
set_option linter.all false
set_option maxRecDepth 100000
set_option maxHeartbeats 4000000
set_option autoImplicit false
namespace SF
open PySem PySem.Spec PyProof.Rows L2

/-! ### promises that may lean on an empty list of guards -/
structure FnG (P : Program) (w : World) (K : PySem.W.Frag) (mg : Str → Option Value) (base : Heap) (k : Nat) (f : Addr) (fd : FuncData) (ps : List Str) (sp : Sp) : Prop where
  len : ∀ vs H Q E, sp vs H Q E → vs.length = ps.length
  run : ∀ (A : Around) (outer : List Env) (s : Shared) (H : Hp) (args : Args) (us : List Value) (vs : List V) (Q : VK) (E : XK),
    A.guards = some [] → Room k A → Env0 P w K mg base A outer s H → BindsTo s fd args (ps.zip us) → Vals vs us → sp vs H Q E →
    codeAny (model P w) A (.call (.ref f) args) (CR CX0 outer P w H s Q E) s

section
variable {P : Program} {w : World} {K : PySem.W.Frag} {mg : Str → Option Value} {base : Heap}
theorem FnG.of {k : Nat} {f : Addr} {fd : FuncData} {ps : List Str} {sp : Sp} (F : FnOk P w K mg base CX0 k f fd ps sp) : FnG P w K mg base k f fd ps sp :=
  ⟨F.len, fun A o s H a us vs Q E _ hr => F.run A o s H a us vs Q E hr⟩
theorem fnG_of {k : Nat} {f : Addr} {name qual : Str} {params : Arguments} {body : List Stmt} {scope : Scope} {kV doc pm cdv ct oc : Value} {an od : Option Addr}
    {osl : Array (Option Value)} {N ps : List Str} {sp : Sp}
    (lk : K.lookup f = some ⟨oc, od, .func (PySem.W.fnOf name qual params body scope .none kV doc pm an cdv ct), osl⟩)
    (hcd : PySem.W.codeIn K cdv qual = true) (S : FnScope N ps scope)
    (len : ∀ vs H Q E, sp vs H Q E → vs.length = ps.length)
    (hbody : ∀ (A : Around) (outer : List Env) (s : Shared) (H : Hp) (vs : List V) (Q : VK) (E : XK),
      (A.deeper (envOfC qual scope s.heap.objs.size f cdv)).guards = some [] →
      Room k (A.deeper (envOfC qual scope s.heap.objs.size f cdv)) → sp vs H Q E →
      ∃ t, PSs (cxOf CX0 P w K mg base N qual scope f cdv A outer s H E) body t ∧ t { nx := fun _ H' => Q .non H', rt := Q } (start N vs) H) :
    FnG P w K mg base (k + 1) f (PySem.W.fnOf name qual params body scope .none kV doc pm an cdv ct) ps sp := by
  constructor
  · exact len
  intro A outer s H args us vs Q E hgd hr e0 hb r hsp
  have hl := len _ _ _ _ hsp
  have inK : K.In s.heap := e0.mod.kin.keeps fun b o e => (e0.bs b o e).1
  have lim : s.heap.NoLimit := e0.mod.nolimit.keeps fun b o e => (e0.bs b o e).1
  have kinds : ∀ y ∈ ps.zip us, scope.names.lookup y.1 = some .local ∨
      (scope.names.lookup y.1 = some .cell ∧ ((cellsFrom (s.heap.objs.size + 1) scope.names []).lookup y.1).isSome = true) := by
    rintro ⟨n, v⟩ hy
    rcases S.par n (List.of_mem_zip hy).1 with q | q
    · exact Or.inl q
    · exact Or.inr ⟨q, PySem.W.cellsFrom_some _ _ _ (.inl q)⟩
  have code := PySem.W.codeRec_of inK hcd
  refine codeAny_call_function hr.depth (inK _ _ lk) rfl S.co S.gen rfl code (hb _ _ _ _ ?_)
  refine wpAny_newFunctionEnv_cells S.kind kinds fun env he s1 x => ?_
  subst he
  refine ⟨lim.keeps x.toInCall.keep, codeAny_func ?_⟩
  obtain ⟨t, ht, hq⟩ := hbody A outer s H vs Q E hgd (hr.deeper _) hsp
  have I := inv_start (CX := CX0) (E := E) (N := N) S hr.hd e0 hl r x
  refine wpAny_mono (ht.run [] s1 (start N vs) H _ I hq) (fun fl s' hs => ?_) fun e s' hs => hs
  cases fl with
  | ret u =>
    obtain ⟨v, σ', H', J, rv, q⟩ := hs
    exact ⟨v, H', J.os, J.bare, J.base, J.hok, rv, q⟩
  | next =>
    obtain ⟨σ', H', J, q⟩ := hs
    exact ⟨V.non, H', J.os, J.bare, J.base, J.hok, rfl, q⟩
  | brk =>
    obtain ⟨_, _, _, q⟩ := hs
    exact q.elim
  | cont =>
    obtain ⟨_, _, _, q⟩ := hs
    exact q.elim
theorem FnG.body {x qual : Str} {st : Stmt} {f : Addr} {fd : FuncData} {N ps : List Str} {k : Nat} {sp : Sp} (F : Fun K x qual st f fd) (S : FnScope N ps (defScope st))
    (len : ∀ vs H Q E, sp vs H Q E → vs.length = ps.length)
    (hbody : ∀ (cdv : Value) (A : Around) (outer : List Env) (s : Shared) (H : Hp) (vs : List V) (Q : VK) (E : XK),
      (A.deeper (envOfC qual (defScope st) s.heap.objs.size f cdv)).guards = some [] → Room k (A.deeper (envOfC qual (defScope st) s.heap.objs.size f cdv)) → sp vs H Q E →
      ∃ t, PSs (cxOf CX0 P w K mg base N qual (defScope st) f cdv A outer s H E).nox (defBody st) t ∧ t { nx := fun _ H' => Q .non H', rt := Q } (start N vs) H) :
    FnG P w K mg base (k + 1) f fd ps sp := by
  obtain ⟨oc, od, kV, doc, pm, an, cdv, ct, osl, rfl, lk, hcd⟩ := F.ex
  refine fnG_of lk hcd S len fun A outer s H vs Q E hgd hr hsp => ?_
  obtain ⟨t, h, q⟩ := hbody cdv A outer s H vs Q E hgd hr hsp
  exact ⟨t, h.nox, q⟩
end

/-! ### links to a callee: its promise, its place, its binding -/
structure Lk (P : Program) (w : World) (K : PySem.W.Frag) (mg : Str → Option Value) (base : Heap) (x : Str) (k : Nat) (ps : List Str) (sp : Sp) : Prop where
  ex : ∃ (f : Addr) (fd : FuncData), FnG P w K mg base k f fd ps sp ∧ mg x = some (.ref f) ∧ PySem.W.keepIn K (.ref f) = true ∧ Binds K fd ps []
/-- a callee that asks nothing of the guards -/
structure Lo (P : Program) (w : World) (K : PySem.W.Frag) (mg : Str → Option Value) (base : Heap) (x : Str) (k : Nat) (ps : List Str) (sp : Sp) : Prop where
  ex : ∃ (f : Addr) (fd : FuncData), FnOk P w K mg base CX0 k f fd ps sp ∧ mg x = some (.ref f) ∧ PySem.W.keepIn K (.ref f) = true ∧ Binds K fd ps []
theorem Lo.lk {P : Program} {w : World} {K : PySem.W.Frag} {mg : Str → Option Value} {base : Heap} {x : Str} {k : Nat} {ps : List Str} {sp : Sp} (L : Lo P w K mg base x k ps sp) : Lk P w K mg base x k ps sp := by
  obtain ⟨f, fd, a, b, c, d⟩ := L.ex
  exact ⟨f, fd, .of a, b, c, d⟩
section
variable {X : Cx} {k : Nat} {ps : List Str} {sp : Sp} {x : Str} {p pos : Pos} {e : Expr} {es : List Expr} {t tk : TA} {kws : List Keyword}
/-- what the callee's run is -/
theorem runG {pins : List (Addr × Obj)} {σ : L2.St} {H : Hp} {s : Shared} {Q : VK} {f : Addr} {fd : FuncData} {us : List Value} {kw : List (Str × Value)} {vs : List V} {ws : List Value}
    (F : FnG X.prog X.w X.K X.mg X.base k f fd ps sp) (hgd : X.A.guards = some []) (hr : Room k X.A) (hb : BindsTo s fd ⟨us, kw⟩ (ps.zip ws)) (I : Inv X pins σ H s) (r : Vals vs ws) (h : sp vs H Q E0) :
    wpAny (model X.prog X.w) X.A (call (.ref f) us kw) (EP X pins σ Q) X.xe s := by
  refine wpAny_call (codeAny_mono (F.run X.A X.stack s H ⟨us, kw⟩ ws vs Q E0 hgd hr I.env0 hb r h) fun r s' hq => ?_)
  match r, hq with
  | .ok (.ret u), hq => exact I.after hq
  | .ok .next, hq => exact hq.elim
  | .ok .brk, hq => exact hq.elim
  | .ok .cont, hq => exact hq.elim
  | .error e, hq => exact False.elim hq
theorem run0 {pins : List (Addr × Obj)} {σ : L2.St} {H : Hp} {s : Shared} {Q : VK} {f : Addr} {fd : FuncData} {us : List Value} {kw : List (Str × Value)} {vs : List V} {ws : List Value}
    (F : FnOk X.prog X.w X.K X.mg X.base CX0 k f fd ps sp) (hr : Room k X.A) (hb : BindsTo s fd ⟨us, kw⟩ (ps.zip ws)) (I : Inv X pins σ H s) (r : Vals vs ws) (h : sp vs H Q E0) :
    wpAny (model X.prog X.w) X.A (call (.ref f) us kw) (EP X pins σ Q) X.xe s := by
  refine wpAny_call (codeAny_mono (F.run X.A X.stack s H ⟨us, kw⟩ ws vs Q E0 hr I.env0 hb r h) fun r s' hq => ?_)
  match r, hq with
  | .ok (.ret u), hq => exact I.after hq
  | .ok .next, hq => exact hq.elim
  | .ok .brk, hq => exact hq.elim
  | .ok .cont, hq => exact hq.elim
  | .error e, hq => exact False.elim hq
/-- x(e, ..) -/
theorem pe_lo (L : Lo X.prog X.w X.K X.mg X.base x k ps sp) (hr : Room k X.A) (hg : Gl X x) (ha : PA X (e :: es) t)
    (hdb : (x == ("__debug__" : Str)) = false := by decide) (he : starEach (e :: es) X.env = (false, eval e X.env) :: starEach es X.env := by rfl) (hpl : (backTo pos (starEach es X.env)).any (·.1) = false := by rfl) :
    PE X (.Call (.Name x p) (e :: es) [] pos) (tCall sp [] E0 t) := by
  obtain ⟨f, fd, F, hm, hk, hb⟩ := L.ex
  exact pe_call F hr hg hm hk hb .nil pass0 ha hdb he hpl
theorem pe_lk (L : Lk X.prog X.w X.K X.mg X.base x k ps sp) (hgd : X.A.guards = some []) (hr : Room k X.A) (hg : Gl X x) (ha : PA X (e :: es) t)
    (hdb : (x == ("__debug__" : Str)) = false := by decide) (he : starEach (e :: es) X.env = (false, eval e X.env) :: starEach es X.env := by rfl) (hpl : (backTo pos (starEach es X.env)).any (·.1) = false := by rfl) :
    PE X (.Call (.Name x p) (e :: es) [] pos) (tCall sp [] E0 t) := by
  obtain ⟨f, fd, F, hm, hk, hb⟩ := L.ex
  constructor
  intro pins s σ H Q I h
  refine wpAny_Call_Name_kw (ld_glob I hg hm ?_ hdb)
  refine PySem.W.callWith_K (h₀ := X.base) I.ok.mod.kin hk (thn (ha.run pos pins s σ H _ I h) ?_) he hpl
  rintro us s1 ⟨vs, H1, I1, r, q⟩
  have q' : sp vs H1 Q E0 := by simpa using q
  have hl : us.length = ps.length := r.length ▸ F.len _ _ _ _ q'
  have hb1 := hb s1 us I1.kIn (by simpa using hl)
  simp only [List.append_nil] at hb1
  exact ⟨I1.kIn, runG F hgd hr hb1 I1 r q'⟩
/-- the promise at the keywords' values in the parameters' order: gV -/
def tCallKw (sp : Sp) (gV : List V → List V) (tk : TA) : TE := fun σ H Q => tk σ H fun zs H1 => sp (gV zs) H1 Q E0
structure KB (K : PySem.W.Frag) (fd : FuncData) (ps ks : List Str) (g : List Value → List Value) (gV : List V → List V) : Prop where
  to : ∀ (s : Shared) (ws : List Value), K.In s.heap → (g ws).length = ps.length → BindsTo s fd ⟨[], ks.zip ws⟩ (ps.zip (g ws))
  rel : ∀ {zs : List V} {ws : List Value}, Vals zs ws → Vals (gV zs) (g ws)
/-- x(k = v, ..) -/
theorem pe_kw0 {f : Addr} {fd : FuncData} {ks : List Str} {g : List Value → List Value} {gV : List V → List V} (F : FnOk X.prog X.w X.K X.mg X.base CX0 k f fd ps sp) (hr : Room k X.A) (hg : Gl X x) (hm : X.mg x = some (.ref f)) (hk : PySem.W.keepIn X.K (.ref f) = true)
    (hb : KB X.K fd ps ks g gV) (hkw : PK X kws tk)
    (hall : (backToKw pos (keywordEach kws X.env)).all (·.1.isSome) = true := by rfl) (hks : (backToKw pos (keywordEach kws X.env)).filterMap (·.1) = ks := by rfl)
    (hdb : (x == ("__debug__" : Str)) = false := by decide)
    (hpl : ((backTo pos (starEach [] X.env)).any (·.1) || (backToKw pos (keywordEach kws X.env)).any (·.1.isNone)) = false := by rfl) :
    PE X (.Call (.Name x p) [] kws pos) (tCallKw sp gV tk) := by
  constructor
  intro pins s σ H Q I h
  refine wpAny_Call_Name_kw (ld_glob I hg hm ?_ hdb)
  refine PySem.W.callWith_KW0 (h₀ := X.base) I.ok.mod.kin hk hall ?_ hpl
  refine thn (hkw.run pos pins s σ H _ I h) ?_
  rintro ws s2 ⟨zs, H2, I2, rz, q2⟩
  refine ⟨I2.kIn, ?_⟩
  rw [hks]
  have r2 := hb.rel rz
  have hl : (g ws).length = ps.length := r2.length ▸ F.len _ _ _ _ q2
  exact run0 F hr (hb.to s2 ws I2.kIn hl) I2 r2 q2
end

/-! ### repr of data -/
section
variable {X : Cx}
def rRepr (K : PySem.W.Frag) : List V → Hp → VK → Prop := fun xs H Q => ∃ a d, xs = [.ref a] ∧ Dp K H (.ref a) d ∧ d.showable = true ∧ d.hasDict = false ∧ d.depth ≤ 60 ∧ d.shown.length ≤ sizeLine ∧ Q (.str d.shown) H
theorem call_repr (hgd : X.A.guards = some []) (hu : X.A.units + 64 < cLine) : CallR X (.builtin "repr") (rRepr X.K) := by
  intro pins s σ H xs us Q I r h
  obtain ⟨a, d, rfl, hd, h1, h2, h3, h4, q⟩ := h
  rw [Vals.ref1 r]
  obtain ⟨as, hr⟩ := Dp.reads I d _ (.ref a) hd rfl
  refine repr_of_reads' hr h1 (PyData.noDict_hsm h2) hgd (by omega) (fun _ _ e => e) (fun h' u tk hk => ?_) h4
  exact ⟨.str d.shown, H, I.kept hk, ⟨u, rfl⟩, q⟩
end


/-! ### enumerate(tuple) -/
theorem meets_enum_newT (l : Addr) (items : Array Value) :
    Meets (Builtin.«enumerate.__new__» ⟨[.type "enumerate", .ref l], []⟩) (fun _ R s => s.heap.IsTuple l items ∧
      R (.ok (.ret (.ref (s.heap.push { cls := .type "tuple_iterator", data := .fields #[.ref l, .int 0 0] }).objs.size)))
        { s with heap := (s.heap.push { cls := .type "tuple_iterator", data := .fields #[.ref l, .int 0 0] }).push { cls := .type "enumerate", data := .fields #[.none, .bool false, .ref s.heap.objs.size, rawInt 0, .none, .none] } }) :=
  .of_wp fun prog w A R s h => by
    obtain ⟨hp, g, d, tk, os⟩ := s
    obtain ⟨hl, h⟩ := h
    have hsub := sub_enumerate
    have hT : Heap.IsTuple (Shared.heap ⟨hp, g, d, tk, os⟩) l items := hl
    obtain ⟨⟨c, dct, dt, sl⟩, ho, hc, n, hd⟩ := id hl
    replace hc : c = .type "tuple" := hc
    replace hd : dt = .seq items n := hd
    subst hc hd
    wp_walk using AutoSeq1.wpAny_loadPart' ho
    refine wpAny_stack_any fun st => wpAny_pure ?_
    split
    · rename_i c _ _ _ _ _
      cases (c == Value.type "enumerate")
      · wp_walk using AutoSeq1.wpAny_loadPart' ho, wpAny_pyIter_tuple hT
        exact ⟨_, rfl, h⟩
      · wp_walk using AutoSeq1.wpAny_loadPart' ho, wpAny_pyIter_tuple hT
        exact ⟨_, rfl, h⟩
    · wp_walk using AutoSeq1.wpAny_loadPart' ho, wpAny_pyIter_tuple hT
      exact ⟨_, rfl, h⟩
theorem call_enum_tup {prog : Program} {w : World} {A : Around} {E : Value → Shared → Prop} {s : Shared} {l : Addr} {items : Array Value} {Q : Value → Shared → Prop} (hL : s.heap.IsTuple l items)
    (h : ∀ h', IsEnum h' (s.heap.objs.size + 1) s.heap.objs.size 0 .none → h'.IsTupleIter s.heap.objs.size l 0 → h'.objs.size = s.heap.objs.size + 2 →
      (∀ b o, s.heap.get? b = some o → h'.get? b = some o) → Q (.ref (s.heap.objs.size + 1)) { s with heap := h' }) :
    wpAny (model prog w) A (call (.type "enumerate") [.ref l]) Q E s := by
  refine callType_new F.called_enumerate (by decide) (F.typeCall_enumerate_1 _) (F.newCall_enumerate_1 _) (fun obj => F.args_object_init_2 obj _) F.entry_enumerate_new (meets_enum_newT l items) ⟨hL, ?_⟩
  have hz : (s.heap.push { cls := .type "tuple_iterator", data := .fields #[.ref l, .int 0 0] }).objs.size = s.heap.objs.size + 1 := Heap.size_push ..
  show _ ∧ _
  rw [hz]
  have he := Heap.get?_push_size (s.heap.push { cls := .type "tuple_iterator", data := .fields #[.ref l, .int 0 0] })
      (o := { cls := .type "enumerate", data := .fields #[.none, .bool false, .ref s.heap.objs.size, rawInt 0, .none, .none] }) rfl
  rw [hz] at he
  refine ⟨⟨_, he, rfl⟩, h _ he ⟨_, Heap.get?_push_of_some _ (Heap.get?_push_size _ rfl), rfl, rfl⟩ (by rw [Heap.size_push, hz]) ?_⟩
  exact fun b o x => Heap.get?_push_of_some _ (Heap.get?_push_of_some _ x)
def IteT (K : PySem.W.Frag) (a : Addr) : It where
  go := fun i H => ∃ (xs : List V) (x : V), SqT K H a xs ∧ xs[i]? = some x
  yld := fun i H v H' => ∃ T x, v = .ref T ∧ H T = none ∧ H' = upd H T (.tup [.int (i : Nat), x]) ∧ ∀ xs, SqT K H a xs → xs[i]? = some x
  stop := fun i H => ∃ xs : List V, SqT K H a xs ∧ xs.length ≤ i
theorem turn_enumT {P : Program} {w : World} {K : PySem.W.Frag} {elts : List Expr} {kk : Nat} {tpos : Pos} (a e it : Addr) :
    Turn P w K (.Tuple elts kk tpos) (IteT K a) [e, it] e (fun i h => (∃ old, IsEnum h e it ((i : Nat) : Int) old) ∧ h.IsTupleIter it a i ∧ e ≠ it) where
  mem := List.mem_cons_self
  obj := by
    rintro i h ⟨⟨old, he⟩, ⟨o, ho, hc, hd⟩, _⟩ b hb
    have cs : b = e ∨ b = it := by simpa using hb
    rcases cs with rfl | rfl
    · exact ⟨_, he, fun v q => nomatch q⟩
    · exact ⟨o, ho, fun v q => by rw [hd] at q; cases q⟩
  keep := by
    rintro i h h' ⟨⟨old, he⟩, hi, hne⟩ k
    exact ⟨⟨old, k e (by simp) _ he⟩, hi.at fun o q => k it (by simp) o q, hne⟩
  item := by
    intro X hP hw hK hc i pins s σ H E I hf st hg
    subst hP hw hK
    obtain ⟨⟨old, he⟩, hit, hne⟩ := st
    obtain ⟨xs, x, hq, hx⟩ := hg
    obtain ⟨its, rv, p, hz⟩ := I.tuple hq
    obtain ⟨u, hu, ru⟩ := rv.get hx
    have hel : e < s.heap.objs.size := Heap.lt_size he
    have hil : it < s.heap.objs.size := by
      obtain ⟨_, q, _⟩ := hit
      exact Heap.lt_size q
    have hha : X.A.in1.handled = none := I.ok.hd hc
    have pa : s.heap.IsTuple a its.toArray := p
    have nai : a ≠ it := by
      rintro rfl
      obtain ⟨o, q1, q2, q3⟩ := hit
      obtain ⟨o', q1', q2', n', q3'⟩ := pa
      rw [q1] at q1'
      cases q1'
      rw [q3] at q3'
      cases q3'
    have nae : a ≠ e := by
      rintro rfl
      obtain ⟨o', q1', q2', n', q3'⟩ := pa
      rw [show s.heap.get? a = _ from he] at q1'
      cases q1'
      cases q3'
    refine wpAny_pyNext_enum_itemD (n := its.toArray.size) (Draws.tuple hha it a nai its.toArray) he ⟨hit, pa⟩ (by have := List.getElem?_eq_some_iff.mp hu; obtain ⟨q, _⟩ := this; simpa using q) hne (by simp [hne, Ne.symm nae]) fun y h' tk hy ho hst hT hsz hk => ?_
    have ey : y = u := by
      have hy' : its.toArray[i]? = some y := hy
      have : its[i]? = some y := by simpa using hy'
      rw [hu] at this
      exact (Option.some.inj this).symm
    subst ey
    refine ⟨_, rfl, wpAny_letOwnedTupleGo_enum (s := { s with heap := h', toks := tk + 1 }) ho fun h'' he' sb => ?_⟩
    have hT2 : h''.get? s.heap.objs.size = some { cls := .type "tuple", data := .seq #[.int i tk, y] } := (sb.2 _ (Nat.ne_of_gt hel)).trans hT
    have new : ObjOk X.prog X.w (upd H s.heap.objs.size (.tup [.int (i : Nat), x])) h'' s.heap.objs.size (.tup [.int (i : Nat), x]) :=
      ⟨by show 2 ≤ sizeLine; decide, [.int i tk, y], .cons ⟨_, rfl⟩ (.cons ru .nil), ⟨_, hT2, rfl, _, rfl⟩⟩
    have I1 : Inv X pins σ (upd H s.heap.objs.size (.tup [.int (i : Nat), x])) { s with heap := h'', toks := tk + 1 } :=
      I.turnedNew (ch := [e, it]) (fun b ob hb q => (sb.2 b (fun z => hb (by simp [z]))).trans (hk b ob (fun z => hb (by simp [z])) (fun z => hb (by simp [z])) q)) hf (Nat.le_refl _) new
    refine ⟨.ref s.heap.objs.size, _, I1, rfl, ⟨_, x, rfl, I.hok.fresh (Nat.le_refl _), rfl, fun ys hy => by rw [I.tuple_inj hy hq]; exact hx⟩, ⟨⟨y, ?_⟩, hst.1.at fun o q => (sb.2 it (Ne.symm hne)).trans q, hne⟩, fun b hb => ?_⟩
    · have e1 : ((i + 1 : Nat) : Int) = (i : Int) + 1 := by omega
      rw [e1]
      exact he'
    · have cs : b = e ∨ b = it := by simpa using hb
      have hb' : b < s.heap.objs.size := by
        rcases cs with rfl | rfl
        · exact hel
        · exact hil
      rw [upd_ne (Nat.ne_of_lt hb')]
      exact (hf b hb).1
  done := by
    intro X hP hw hK hc i pins s σ H E I hf st hg
    subst hP hw hK
    obtain ⟨⟨old, he⟩, hit, hne⟩ := st
    obtain ⟨xs, hq, hx⟩ := hg
    obtain ⟨its, rv, p, hz⟩ := I.tuple hq
    obtain ⟨f0, f1, f2, f3, f4, f5⟩ := hf it (by simp)
    have pa : s.heap.IsTuple a its.toArray := p
    have hha : X.A.in1.handled = none := I.ok.hd hc
    have nai : a ≠ it := by
      rintro rfl
      obtain ⟨o, q1, q2, q3⟩ := hit
      obtain ⟨o', q1', q2', n', q3'⟩ := pa
      rw [q1] at q1'
      cases q1'
      rw [q3] at q3'
      cases q3'
    -- an iterator behind the end stands like one at the end: the next of it is told apart
    unfold pyNext
    have hT : s.TypeIs (.ref e) "enumerate" := ⟨_, he, rfl⟩
    refine wpAny_bind (wpAny_attempt (wpAny_callSpecial?_slot (name := Str.ofString "__next__") hT F.slot_enumerate_next
      (wpAny_call_entry F.slot_enumerate_next hT F.entry_enumerate_next ?_ (F.args_enumerate_next_1 _))))
    show wpAny _ _ (field (.ref e) 2 >>= _) _ _ _
    refine wpAny_bind (wpAny_field he rfl (x := .ref it) rfl ?_)
    refine wpAny_bind (wpAny_nextOf_tuple_end hha hit pa (by simp; have := rv.length; omega) fun h' x he' hx' => ?_)
    obtain ⟨o, ho, hc⟩ := hx'
    refine wpAny_bind (wpAny_isInstance (T := "StopIteration") (b := true) ⟨o, ho, hc⟩ isSubtype_stop ?_)
    exact wpAny_pure ⟨rfl, I.turned (t' := s.toks) (fun b o hb q => he' b o hb q) f0 f1 f3 f4 f5⟩
  self := fun A i s Q E st h => let ⟨⟨_, he⟩, _⟩ := st; wpAny_pyIter_enum he h
def iEnumT (K : PySem.W.Frag) (ta : TA) : TI := fun σ H R => ta σ H fun vs H1 => ∃ a xs, vs = [.ref a] ∧ SqT K H1 a xs ∧ R (IteT K a) H1
theorem pi_enumT {X : Cx} {e : Expr} {ta : TA} {p pos tpos : Pos} {elts : List Expr} {kk : Nat} (hg : Gl X "enumerate") (hm : X.mg "enumerate" = none) (ha : PA X [e] ta)
    (hs : starEach [e] X.env = [(false, eval e X.env)] := by rfl) : PI X (.Tuple elts kk tpos) (.Call (.Name "enumerate" p) [e] [] pos) (iEnumT X.K ta) := by
  constructor
  intro pins s σ H R I h
  refine Call_ (ld_blt I hg hm boot_enumerate (PyProof.Rows.callWith_type1 (thn (ha.run pos pins s σ H _ I h) ?_) hs rfl))
  rintro us s1 ⟨vs, H1, I1, r1, a, xs, ex, hq, q⟩
  subst ex
  rw [Vals.ref1 r1]
  obtain ⟨its, rv, p', hz⟩ := I1.tuple hq
  refine call_enum_tup p' fun h' he hit hsz hk => wpAny_pyIter_enum he ?_
  have I2 : Inv X pins σ H1 { s1 with heap := h' } := I1.kept (t' := s1.toks) hk
  refine ⟨s1.heap.objs.size + 1, [s1.heap.objs.size + 1, s1.heap.objs.size], _, _, H1, rfl, I2, turn_enumT a (s1.heap.objs.size + 1) s1.heap.objs.size, ⟨⟨.none, he⟩, hit, Nat.succ_ne_self _⟩, fun b hb => ?_, q⟩
  have cs : b = s1.heap.objs.size + 1 ∨ b = s1.heap.objs.size := by simpa using hb
  have hle : s1.heap.objs.size ≤ b := by
    rcases cs with z | z
    · rw [z]
      exact Nat.le_succ _
    · rw [z]
      exact Nat.le_refl _
  exact I1.fpOk hle (I1.hok.fresh hle)
theorem walk_enumT {K : PySem.W.Frag} {a : Addr} {xs : List V} : Walk (IteT K a) xs.length (fun H => SqT K H a xs) (YPair (fun i => some (.int (i : Nat))) (fun i => xs[i]?)) := by
  refine ⟨fun i _ hi q => ⟨xs, xs[i], q, by simp [hi]⟩, fun _ q => ⟨xs, q, Nat.le_refl _⟩, ?_⟩
  rintro i H v H' _ q ⟨T, x, h1, h2, h3, h4⟩
  exact ⟨T, .int (i : Nat), x, h1, h2, h3, rfl, h4 xs q⟩

/-! ### tuple.count of flat items -/
section
variable {X : Cx}
def rCountT (K : PySem.W.Frag) : V → List V → Hp → VK → Prop := fun x vs H Q => ∃ (a : Addr) (ys : List V) (y : V), x = V.ref a ∧ vs = [y] ∧ SqT K H a ys ∧ flatV y = true ∧ ys.all flatV = true ∧ Q (.int ((ys.countP fun z => eqV z y : Nat) : Int)) H
theorem countP_vals {y : V} : ∀ {xs : List V} {us : List Value}, Vals xs us → xs.all flatV = true → us.countP (eqU y) = xs.countP fun z => eqV z y
  | _, _, .nil, _ => rfl
  | x :: xs, u :: us, .cons r t, f => by
    rw [List.all_cons, Bool.and_eq_true] at f
    rw [List.countP_cons, List.countP_cons, countP_vals t f.2, eqU_of r f.1]
theorem mt_countT : MtR X "tuple.count" (rCountT X.K) := by
  intro pins s σ H x xs v us Q I rx rxs h
  obtain ⟨a, ys, y, rfl, rfl, hs, fy, fys, q⟩ := h
  cases rx
  cases rxs with
  | cons ry rt =>
    rename_i uy ut
    cases rt
    obtain ⟨its, rv, ⟨o, ho, hc, n, hd⟩, hlen⟩ := I.tuple hs
    obtain ⟨cls, dd, data, sl⟩ := o
    replace hc : cls = _ := hc
    replace hd : data = _ := hd
    subst hc hd
    refine call_meets PySem.F.slot_tuple_count ⟨_, ho, rfl⟩ PySem.F.entry_tuple_count (PySem.F.args_tuple_count_2 _ _)
      (SeqAt.tuple_countAt a its.toArray n dd sl uy (eqU y)) ⟨ho, fun u' hu' => mem_eqAt ry fy rv fys u' (by simpa using hu'), ?_⟩
    have e1 : its.toArray.toList.countP (eqU y) = ys.countP fun z => eqV z y := by
      rw [List.toList_toArray]
      exact countP_vals rv fys
    rw [e1]
    exact ⟨.int ((ys.countP fun z => eqV z y : Nat) : Int), H, I.tok _, ⟨_, rfl⟩, q⟩
end


/-- the law's own run from an abstract heap that knows the script alone, where the promise may lean on the empty list of guards -/
theorem lawG {P : Program} {w : World} {K : PySem.W.Frag} {mg mb : Str → Option Value} {k : Nat} {fa a : Addr} {fd : FuncData} {x : Str} {sp : Sp} {s₁ : Shared} {vs : List Value} {ns : List Int}
    (KX : K.In s₁.heap) (hns : s₁.heap.Ns mainGlobals mg) (hb : s₁.heap.Ns builtinsNs mb) (hbb : ∀ x : Str, x ≠ "__name__" → mb x = bootBuiltins x) (hlim : s₁.heap.NoLimit) (hg : s₁.gens = #[])
    (ha : s₁.heap.get? a = some { cls := .type "list", data := .seq vs.toArray }) (hi : IntsAre vs ns) (hl : ns.length ≤ sizeLine) (hr : Room k callerA)
    (F : ∀ base : Heap, K.In base → base.Ns mainGlobals mg → FnG P w K mg base k fa fd [x] sp) (hbind : ∀ (s : Shared) (u : Value), BindsTo s fd ⟨[u], []⟩ [(x, u)])
    (hsp : ∀ H : Hp, Only H → SqL K H a (ns.map V.int) → sp [.ref a] H (fun v _ => v = .bl true) E0) :
    codeAny (model P w) callerA (.call (.ref fa) ⟨[.ref a], []⟩)
      (fun r s' => r = .ok (.ret (.bool true)) ∧ OldK s₁.heap s'.heap ∧ s'.os = s₁.os ∧ AllBare s'.gens) s₁ := by
  have rv := vals_ints hi
  have lenV := hi.length
  have core : ∀ H : Hp, Only H → SqL K H a (ns.map V.int) → HOk P w H s₁.heap → (∀ b, H b ≠ none → b = a) → (H a ≠ none → K.lookup a = none) →
      codeAny (model P w) callerA (.call (.ref fa) ⟨[.ref a], []⟩)
        (fun r s' => r = .ok (.ret (.bool true)) ∧ OldK s₁.heap s'.heap ∧ s'.os = s₁.os ∧ AllBare s'.gens) s₁ := by
    intro H hO hS hok hA hK
    have dicts : ∀ {b : Addr} {o : Obj} {es : Array DictEntry} {ep : Nat}, s₁.heap.get? b = some o → o.data = .dict es ep → H b = none := by
      intro b o es ep e d
      match q : H b with
      | none => rfl
      | some u =>
        have eb : b = a := hA b (by rw [q]; simp)
        rw [eb, ha] at e
        rw [← Option.some.inj e] at d
        cases (show Data.seq vs.toArray _ = Data.dict es ep from d)
    have ns' : ∀ {b : Addr} {m : Str → Option Value}, s₁.heap.Ns b m → (hidT s₁.heap H).Ns b m := by
      rintro b m ⟨o, es, ep, e, d, r⟩
      exact ⟨o, es, ep, hidT_get e (dicts e d), d, r⟩
    have inK : K.In (hidT s₁.heap H) := by
      intro b o e
      refine hidT_get (KX b o e) ?_
      match q : H b with
      | none => rfl
      | some u =>
        have eb : b = a := hA b (by rw [q]; simp)
        rw [eb, hK (by rw [← eb, q]; simp)] at e
        cases e
    have md : Mod K mg (hidT s₁.heap H) := by
      obtain ⟨mc, h1, h2⟩ := hlim
      exact ⟨inK, ns' hns, ⟨mb, ns' hb, hbb⟩, ⟨mc, ns' h1, h2⟩⟩
    have e0 : Env0 P w K mg (hidT s₁.heap H) callerA [] s₁ H := by
      refine ⟨rfl, md, fun b o e => of_hidT e, ?_, trivial, ?_, hok, .of_eq hg⟩
      · exact Nat.le_of_eq (hidT_size _ _)
      · exact fun b hb => absurd (show b ∈ ([] : List Addr) from hb) (by simp)
    have run := (F _ inK (ns' hns)).run callerA [] s₁ H ⟨[.ref a], []⟩ [.ref a] [.ref a] _ _ rfl hr e0 (hbind s₁ (.ref a)) (.cons rfl .nil) (hsp H hO hS)
    refine codeAny_mono run fun r s' h => ?_
    match r, h with
    | .error e, h => exact False.elim h
    | .ok .next, h => exact False.elim h
    | .ok .brk, h => exact False.elim h
    | .ok .cont, h => exact False.elim h
    | .ok (.ret u), h =>
      obtain ⟨v, H', os, bare, un, hok', r', q⟩ := h
      replace q : v = .bl true := q
      subst q
      obtain rfl : u = Value.bool true := r'
      refine ⟨rfl, OldK.of_keep ?_, os, bare⟩
      intro b o e
      match q : H b with
      | none => exact un.keep b o e q (fun z => absurd (show b ∈ ([] : List Addr) from z) (by simp)) (by simp)
      | some u =>
        rcases hO b with z | ⟨ob, xs, z⟩
        · rw [q] at z
          cases z
        · obtain ⟨e1, _⟩ := hok b _ z
          obtain ⟨e2, _⟩ := hok' b _ (un.frzs b ob _ z)
          rw [e] at e1
          rw [Option.some.inj e1]
          exact e2
  match hk : K.lookup a with
  | some o =>
    have e := KX a o hk
    rw [ha] at e
    have eo := Option.some.inj e
    subst eo
    refine core (fun _ => none) (fun _ => .inl rfl) (.inr ⟨_, vs.toArray, _, hk, rfl, rfl, rfl, ?_, by simpa using rv⟩) (fun b u z => ?_) (fun b z => absurd rfl z) fun z => absurd rfl z
    · rw [List.size_toArray, lenV]
      exact hl
    · cases (show (none : Option HO) = some u from z)
  | none =>
    let Hs : Hp := fun b => if b = a then some (.frz { cls := .type "list", data := .seq vs.toArray } (.lst (ns.map V.int))) else none
    have hs1 : Hs a = some (.frz { cls := .type "list", data := .seq vs.toArray } (.lst (ns.map V.int))) := if_pos rfl
    have hs2 : ∀ b, b ≠ a → Hs b = none := fun b hb => if_neg hb
    have hs3 : ∀ b, Hs b ≠ none → b = a := fun b z => Classical.byContradiction fun hb => z (hs2 b hb)
    refine core Hs (fun b => ?_) (.inl (.inr ⟨{ cls := .type "list", data := .seq vs.toArray }, hs1⟩)) (fun b u z => ?_) hs3 fun _ => hk
    · by_cases hb : b = a
      · exact .inr ⟨_, _, hb ▸ hs1⟩
      · exact .inl (hs2 b hb)
    · have eb : b = a := hs3 b (by rw [z]; simp)
      rw [eb, hs1] at z
      rw [← Option.some.inj z, eb]
      exact ⟨ha, by rw [List.length_map]; exact hl, vs, _, rv, ha⟩
/-- the goal that k_head leaves, from such a promise of the law -/
theorem walkG {l : PySem.W.OpenLaw} {n k : Nat} {q : Program} {loose : List Str} {XP : (Str → Option Value) → Heap → Prop} {YP : World → Heap → Prop} {d : DefRec} {K : Params → PySem.W.Frag} {sp : PySem.W.Frag → Sp} {x : Str}
    (hn : l.most = some n) (hn2 : n ≤ sizeLine) (hdf : d.params.defaults = []) (hr : Room k callerA)
    (hY : ∀ (w : World) (h : Heap), YP w h → (K w.params).In h)
    (F : ∀ (w : World) (mg : Str → Option Value) (fa : Addr) (h : Heap), (K w.params).In h → h.Ns mainGlobals mg → mg d.name = some (.ref fa) →
      ∃ fd : FuncData, (∀ (s : Shared) (u : Value), BindsTo s fd ⟨[u], []⟩ [(x, u)]) ∧
        ∀ base : Heap, (K w.params).In base → base.Ns mainGlobals mg → FnG l.prog w (K w.params) mg base k fa fd [x] (sp (K w.params)))
    (hsp : ∀ (K : PySem.W.Frag) (H : Hp) (a : Addr) (ns : List Int), ns.length ≤ n → (∀ z ∈ ns, Builtin.Int.intBits z ≤ 1048576) → Only H → SqL K H a (ns.map V.int) → sp K [.ref a] H (fun v _ => v = .bl true) E0) :
    PySem.W.WalkO q loose XP YP l.row.toRowW d [] (fun f vs => PySem.call f vs) := by
  refine Att.attach_callB hn hdf ?_
  intro w s₀ s₁ mg mb fa o pm cd doc a vs ns G Y ho hd hcd hmg hobj hints hlen hbits hg
  have KX := hY w _ Y
  obtain ⟨fd, hb, hF⟩ := F w mg fa _ KX G.T.g hmg
  exact lawG KX G.T.g G.T.b G.T.builtins G.T.nolimit hg hobj hints (Nat.le_trans hlen hn2) hr hF hb fun H hO hS => hsp (K w.params) H a ns hlen hbits hO hS


/-! ### tuples whose very object is known: they have no dict, so their methods may be called -/
def tyF (T : String) (x : V) (H : Hp) : Prop := ∃ p o u, x = .ref p ∧ H p = some (.frz o u) ∧ o.cls = .type T ∧ o.dict = none
def FT (H : Hp) (a : Addr) (xs : List V) : Prop := ∃ o, H a = some (.frz o (.tup xs)) ∧ o.cls = .type "tuple" ∧ o.dict = none
theorem FT.seq {K : PySem.W.Frag} {H : Hp} {a : Addr} {xs : List V} (h : FT H a xs) : SqT K H a xs := by
  obtain ⟨o, h, _⟩ := h
  exact .inl (.inr ⟨o, h⟩)
theorem FT.ty {H : Hp} {a : Addr} {xs : List V} (h : FT H a xs) : tyF "tuple" (.ref a) H := by
  obtain ⟨o, h, c, d⟩ := h
  exact ⟨a, o, _, rfl, h, c, d⟩
def tBMF (T : String) (r : V → List V → Hp → VK → Prop) (to : TE) (t : TA) : TE := fun σ H Q => to σ H fun x H1 => tyF T x H1 ∧ t σ H1 fun xs H2 => r x xs H2 Q
section
variable {X : Cx} {o e : Expr} {es : List Expr} {to : TE} {t : TA} {name : Str} {apos cpos pos : Pos} {T id : String} {r : V → List V → Hp → VK → Prop}
theorem pe_bmF (pa : PlainAttrs T) (slot : Slot T name id) (hty : typeOf (.builtin id) = pure (.type "method_descriptor")) (hm : MtR X id r) (ho : PE X o to) (ha : PA X (e :: es) t)
    (hbase : attributeBase o name X.env (eval o X.env) = eval o X.env := by rfl)
    (hfew : ((backTo cpos (starEach (e :: es) X.env)).all (fun x => !x.1) && (backToKw cpos (keywordEach [] X.env)).all (fun x => x.1.isSome)
      && decide ((e :: es).length + ([] : List Keyword).length + (if ([] : List Keyword).isEmpty then 0 else 1) < 30)) = true := by rfl)
    (hline : (apos.endLine == cpos.line) = true := by rfl) (hs : starEach (e :: es) X.env = (false, eval e X.env) :: starEach es X.env := by rfl) (hplain : (backTo cpos (starEach es X.env)).any (·.1) = false := by rfl) :
    PE X (.Call (.Attribute o name apos) (e :: es) [] cpos) (tBMF T r to t) := by
  constructor
  intro pins s σ H Q I h
  refine wpAny_Call_method_late hbase hfew hline rfl (thn (ho.run pins s σ H _ I h) ?_)
  rintro v s1 ⟨x, H1, I1, r1, ⟨p, ob, u, rfl, hp, hc, hd⟩, q1⟩
  cases r1
  have hob := (I1.hok p _ hp).1
  refine ⟨T, id, pa, slot, hty, ⟨ob, hob, hc⟩, ?_, ?_⟩
  · intro a ea
    cases ea
    exact ⟨ob, hob, hd⟩
  have hA := ha.run cpos pins s1 σ H1 _ I1 q1
  rw [hs] at hA ⊢
  refine Calls.callWith_builtin ?_ (Calls.evalArgs_plain (thn hA fun us s2 ⟨vs, H2, I2, r2, q2⟩ => hm pins s2 σ H2 (.ref p) vs (.ref p) us Q I2 (show RelV (.ref p) (.ref p) from rfl) r2 q2))
  show (false || (backTo cpos (starEach es X.env)).any (·.1)) = false
  rw [hplain, Bool.false_or]
theorem call_tupF : CallR X (.type "tuple") (fun xs H Q => ∃ p ys, xs = [.ref p] ∧ SqL X.K H p ys ∧ ∀ l o, H l = none → o.cls = .type "tuple" → o.dict = none → Q (.ref l) (upd H l (.frz o (.tup ys)))) := by
  intro pins s σ H xs us Q I r h
  obtain ⟨p, ys, rfl, hq, q⟩ := h
  rw [Vals.ref1 r]
  obtain ⟨its, r', pl, hz⟩ := I.list hq
  have hlen := r'.length
  refine call_tuple_list pl.isList (fun h' kp => ?_) (by simp only [List.size_toArray] <;> omega)
  have I1 : Inv X pins σ H { s with heap := h' } := I.kept (t' := s.toks) kp
  let ob : Obj := { cls := .type "tuple", data := .seq its.toArray }
  have I2 : Inv X pins σ (upd H h'.objs.size (.frz ob (.tup ys))) { s with heap := h'.push ob } :=
    I1.laid (t' := s.toks) (fun b o e => Heap.get?_push_of_some _ e) (Nat.le_refl _) ⟨Heap.get?_push_size _ rfl, hz, its, r', IsTup.new _ _⟩
  exact ⟨.ref h'.objs.size, _, I2, rfl, q _ ob (I1.hok.fresh (Nat.le_refl _)) rfl rfl⟩
def tTupF (t : TA) : TE := fun σ H Q => t σ H fun xs H1 => xs.length ≤ sizeLine ∧ ∀ p o, H1 p = none → o.cls = .type "tuple" → o.dict = none → Q (.ref p) (upd H1 p (.frz o (.tup xs)))
theorem pe_tupF {x1} (h : PA X es t) : PE X (.Tuple es x1 pos) (tTupF t) := by
  constructor
  intro pins s σ H Q I hq
  refine wpAny_Tuple_spliced (thn (h.run pos pins s σ H _ I hq) ?_)
  rintro us s1 ⟨xs, H1, I1, r, z, q⟩
  refine ⟨by rw [← r.length]; exact z, ?_⟩
  have hf : H1 s1.heap.objs.size = none := I1.hok.fresh (Nat.le_refl _)
  refine ⟨.ref s1.heap.objs.size, upd H1 s1.heap.objs.size (.frz { cls := .type "tuple", data := .seq us.toArray } (.tup xs)), I1.laid (t' := s1.toks) (fun b u e => Heap.get?_push_of_some _ e) (Nat.le_refl _) ?_, rfl, q _ _ hf rfl rfl⟩
  exact ⟨Heap.get?_push_size _ rfl, z, us, r, ⟨_, Heap.get?_push_size _ rfl, rfl, _, rfl⟩⟩
end

/-! ### what an update of the list at a place leaves, for the reading of o[i] op= e -/
def rGetL (K : PySem.W.Frag) : V → V → Hp → VK → Prop := fun o i H Q => ∃ p xs k v, o = .ref p ∧ i = .int k ∧ SqL K H p xs ∧ atI xs k = some v ∧ Q v H

/-! ### steps of a reading -/
abbrev SS := L2.St
section
variable {K : PySem.W.Frag} {σ : SS} {H H' : Hp} {Q : VK} {QB : Bool → Hp → Prop} {QA : List V → Hp → Prop} {QS : SS → Hp → Prop} {x y v : V} {ta tb te : TE} {tt tu : TT} {t : TA} {xs : List V} {p : Addr} {i j : Int} {n : Nat}
theorem x_var (h : σ[n]? = some (some v)) (q : Q v H) : tVar n σ H Q := ⟨v, h, q⟩
theorem x_c (q : Q v H) : tC v σ H Q := q
theorem x_op {r : R2} (q : ta σ H fun x H1 => tb σ H1 fun y H2 => r x y H2 Q) : tOp r ta tb σ H Q := q
theorem x_un {r : V → Hp → VK → Prop} (q : ta σ H fun x H1 => r x H1 Q) : tUn r ta σ H Q := q
theorem x_I0 {g : Int → Int → V} (q : Q (g i j) H) : rI0 g (.int i) (.int j) H Q := ⟨i, j, rfl, rfl, q⟩
theorem x_I {C : Int → Int → Prop} {g : Int → Int → V} (c : C i j) (q : Q (g i j) H) : rI C g (.int i) (.int j) H Q := ⟨i, j, rfl, rfl, c, q⟩
theorem x_U {g : Int → V} (q : Q (g i) H) : rU g (.int i) H Q := ⟨i, rfl, q⟩
theorem x_eq (s : scal x y = true) (q : Q (.bl (decide (x = y))) H) : rEq x y H Q := ⟨s, q⟩
theorem x_ne (s : scal x y = true) (q : Q (.bl (!decide (x = y))) H) : rNe x y H Q := ⟨s, q⟩
theorem x_isN (q : Q (.bl (decide (x = .non))) H) : rIsN x .non H Q := ⟨rfl, q⟩
theorem x_notN (q : Q (.bl (!decide (x = .non))) H) : rNotN x .non H Q := ⟨rfl, q⟩
theorem x_ixL (h : SqL K H p xs) (a : atI xs i = some v) (q : Q v H) : rIxL K (.ref p) (.int i) H Q := ⟨p, xs, i, v, rfl, rfl, h, a, q⟩
theorem x_ixT (h : SqT K H p xs) (a : atI xs i = some v) (q : Q v H) : rIxT K (.ref p) (.int i) H Q := ⟨p, xs, i, v, rfl, rfl, h, a, q⟩
theorem x_nil (q : QA [] H) : tNil σ H QA := q
theorem x_cons {tr : TA} (q : ta σ H fun x H1 => tr σ H1 fun xs H2 => QA (x :: xs) H2) : tCons ta tr σ H QA := q
theorem x_lst (q : t σ H fun xs H1 => xs.length ≤ sizeLine ∧ ∀ p, H1 p = none → Q (.ref p) (upd H1 p (.lst xs))) : tLst t σ H Q := q
theorem x_tup (q : t σ H fun xs H1 => xs.length ≤ sizeLine ∧ ∀ p, H1 p = none → Q (.ref p) (upd H1 p (.tup xs))) : tTup t σ H Q := q
theorem x_tupF (q : t σ H fun xs H1 => xs.length ≤ sizeLine ∧ ∀ p o, H1 p = none → o.cls = .type "tuple" → o.dict = none → Q (.ref p) (upd H1 p (.frz o (.tup xs)))) : tTupF t σ H Q := q
theorem x_CB {r : List V → Hp → VK → Prop} (q : t σ H fun vs H1 => r vs H1 Q) : tCB r t σ H Q := q
theorem x_call {sp : Sp} {E : XK} (q : t σ H fun vs H1 => sp (vs ++ []) H1 Q E) : tCall sp [] E t σ H Q := q
theorem x_test (q : te σ H fun x H' => ∃ k, x = .bl k ∧ QB k H') : tTest te σ H QB := q
theorem x_bl {b : Bool} {R : Bool → Prop} (q : R b) : ∃ k, V.bl b = .bl k ∧ R k := ⟨b, rfl, q⟩
theorem x_B (q : te σ H fun x H1 => ∃ c, x = .bl c ∧ QB c H1) : tB te σ H QB := q
theorem x_andV (q : ta σ H fun x H1 => ∃ c, x = .bl c ∧ if c = true then tb σ H1 Q else Q (.bl false) H1) : tAndV ta tb σ H Q := q
theorem x_orV (q : ta σ H fun x H1 => ∃ c, x = .bl c ∧ if c = true then Q (.bl true) H1 else tb σ H1 Q) : tOrV ta tb σ H Q := q
theorem x_notV (q : ta σ H fun x H1 => ∃ c, x = .bl c ∧ Q (.bl (!c)) H1) : tNotV ta σ H Q := q
theorem x_and (q : tt σ H fun c H1 => if c = true then tu σ H1 QB else QB false H1) : tAnd tt tu σ H QB := q
theorem x_or (q : tt σ H fun c H1 => if c = true then QB true H1 else tu σ H1 QB) : tOr tt tu σ H QB := q
theorem x_not (q : tt σ H fun c H1 => QB (!c) H1) : tNot tt σ H QB := q
theorem x_if (q : tt σ H fun c H1 => if c = true then ta σ H1 Q else tb σ H1 Q) : tIf tt ta tb σ H Q := q
theorem x_sl {r : V → Option Int → Option Int → Hp → VK → Prop} {tl th : TO} (q : te σ H fun x H1 => tl σ H1 fun l H2 => th σ H2 fun u H3 => r x l u H3 Q) : tSl r te tl th σ H Q := q
theorem x_no {QO : Option Int → Hp → Prop} (q : QO none H) : tNoPart σ H QO := q
theorem x_part {QO : Option Int → Hp → Prop} (q : te σ H fun x H1 => ∃ i, x = .int i ∧ QO (some i) H1) : tPart te σ H QO := q
theorem x_int {R : Int → Prop} (q : R i) : ∃ k, V.int i = .int k ∧ R k := ⟨i, rfl, q⟩
theorem x_slL {lo hi : Option Int} (h : SqL K H p xs) (q : ∀ a, H a = none → Q (.ref a) (upd H a (.lst (cutV xs lo hi)))) : rSlL K (.ref p) lo hi H Q := ⟨p, xs, rfl, h, q⟩
/- statements: the ends written out -/
variable {nx bk ct : SS → Hp → Prop} {rt : VK} {s1 s2 : TS} {g : TG}
theorem x_seq (q : s1 ⟨s2 ⟨nx, rt, bk, ct⟩, rt, bk, ct⟩ σ H) : tSeq s1 s2 ⟨nx, rt, bk, ct⟩ σ H := q
theorem x_next (q : nx σ H) : tNext ⟨nx, rt, bk, ct⟩ σ H := q
theorem x_brk (q : bk σ H) : tBreak ⟨nx, rt, bk, ct⟩ σ H := q
theorem x_cont (q : ct σ H) : tCont ⟨nx, rt, bk, ct⟩ σ H := q
theorem x_drop (q : te σ H fun _ H1 => nx σ H1) : tDrop te ⟨nx, rt, bk, ct⟩ σ H := q
theorem x_ret (q : te σ H rt) : tRet te ⟨nx, rt, bk, ct⟩ σ H := q
theorem x_retN (q : rt .non H) : tRetN ⟨nx, rt, bk, ct⟩ σ H := q
theorem x_asg (q : te σ H fun x H1 => g x σ H1 nx) : tAsg te g ⟨nx, rt, bk, ct⟩ σ H := q
theorem x_name (q : QS (σ.set n (some v)) H) : gName n v σ H QS := q
theorem x_gtup {m : Nat} {u : TGs} (h : SqT K H p xs) (l : xs.length = m) (q : u xs σ H QS) : gTup K m u (.ref p) σ H QS := ⟨p, xs, rfl, h, l, q⟩
theorem x_gnil (q : QS σ H) : gNil [] σ H QS := ⟨rfl, q⟩
theorem x_gcons {u : TGs} (q : g v σ H fun σ' H' => u xs σ' H' QS) : gCons g u (v :: xs) σ H QS := ⟨v, xs, rfl, q⟩
theorem x_gsub {to ti : TE} {s : TSet} (q : to σ H fun o H1 => ti σ H1 fun i H2 => s o i v H2 fun H3 => QS σ H3) : gSub to ti s v σ H QS := q
theorem x_setL {QH : Hp → Prop} {k : Nat} (h : H p = some (.lst xs)) (a : ixN xs.length i = some k) (q : QH (upd H p (.lst (xs.set k v)))) : rSetL (.ref p) (.int i) v H QH := ⟨p, xs, i, k, rfl, rfl, h, a, q⟩
theorem x_par {k m : Nat} (q : t σ H fun vs H1 => ∃ v w, vs = [v, w] ∧ nx ((σ.set k (some v)).set m (some w)) H1) : tPar k m t ⟨nx, rt, bk, ct⟩ σ H := q
theorem x_two {R : V → V → Prop} (q : R x y) : ∃ v w, [x, y] = [v, w] ∧ R v w := ⟨x, y, rfl, q⟩
theorem x_ifS {c : TT} (q : c σ H fun b H1 => if b = true then s1 ⟨nx, rt, bk, ct⟩ σ H1 else s2 ⟨nx, rt, bk, ct⟩ σ H1) : tIfS c s1 s2 ⟨nx, rt, bk, ct⟩ σ H := q
theorem x_aug {ti : TIp} (h : σ[n]? = some (some x)) (q : te σ H fun y H1 => ti x y H1 fun z H2 => nx (σ.set n (some z)) H2) : tAug n te ti ⟨nx, rt, bk, ct⟩ σ H := ⟨x, h, q⟩
theorem x_ipI {f : Int → Int → Int} (q : Q (.int (f i j)) H) : ipI f (.int i) (.int j) H Q := ⟨i, j, rfl, rfl, q⟩
theorem x_augS {to ti : TE} {tget : V → V → Hp → VK → Prop} {tip : TIp} {tset : TSet} (q : to σ H fun o H1 => ti σ H1 fun i H2 => tget o i H2 fun x H3 => te σ H3 fun y H4 => tip x y H4 fun z H5 => tset o i z H5 fun H6 => nx σ H6) : tAugS to ti te tget tip tset ⟨nx, rt, bk, ct⟩ σ H := q
/- built-ins -/
theorem x_lenS {R : List V → Prop} (h : SqL K H p xs) (q : R xs) : ∃ p' ys, [V.ref p] = [.ref p'] ∧ (SqL K H p' ys ∨ SqT K H p' ys) ∧ R ys := ⟨p, xs, rfl, .inl h, q⟩
theorem x_lenT {R : List V → Prop} (h : SqT K H p xs) (q : R xs) : ∃ p' ys, [V.ref p] = [.ref p'] ∧ (SqL K H p' ys ∨ SqT K H p' ys) ∧ R ys := ⟨p, xs, rfl, .inr h, q⟩
theorem x_abs {R : Int → Prop} (q : R i) : ∃ k, [V.int i] = [.int k] ∧ R k := ⟨i, rfl, q⟩
theorem x_toI {R : Int → Prop} {R' : Bool → Prop} (q : R i) : (∃ k, [V.int i] = [.int k] ∧ R k) ∨ ∃ k, [V.int i] = [.bl k] ∧ R' k := .inl ⟨i, rfl, q⟩
theorem x_toIb {R : Int → Prop} {R' : Bool → Prop} {b : Bool} (q : R' b) : (∃ k, [V.bl b] = [.int k] ∧ R k) ∨ ∃ k, [V.bl b] = [.bl k] ∧ R' k := .inr ⟨b, rfl, q⟩
theorem x_min2 {R : Int → Int → Prop} (q : R i j) : ∃ a b, [V.int i, V.int j] = [.int a, .int b] ∧ R a b := ⟨i, j, rfl, q⟩
theorem x_tupS {Q1 Q2 : Addr → List V → Prop} (h : SqL K H p xs) (q : Q1 p xs) : ∃ p' ys, [V.ref p] = [.ref p'] ∧ ((SqL K H p' ys ∧ Q1 p' ys) ∨ (SqT K H p' ys ∧ Q2 p' ys)) := ⟨p, xs, rfl, .inl ⟨h, q⟩⟩
theorem x_tupF1 {R : List V → Prop} (h : SqL K H p xs) (q : R xs) : ∃ p' ys, [V.ref p] = [.ref p'] ∧ SqL K H p' ys ∧ R ys := ⟨p, xs, rfl, h, q⟩
theorem x_insert {R : Addr → List V → Int → V → Prop} (h : H p = some (.lst xs)) (l : xs.length < sizeLine) (h0 : 0 ≤ i) (h1 : i < 2 ^ 63) (q : R p xs i v) :
    ∃ (l : Addr) (ys : List V) (k : Int) (y : V), V.ref p = .ref l ∧ [V.int i, v] = [.int k, y] ∧ H l = some (.lst ys) ∧ ys.length < sizeLine ∧ 0 ≤ k ∧ k < 2 ^ 63 ∧ R l ys k y := ⟨p, xs, i, v, rfl, rfl, h, l, h0, h1, q⟩
theorem x_bm {r : V → List V → Hp → VK → Prop} {T : String} (q : ta σ H fun x H1 => tyV K T x H1 ∧ t σ H1 fun xs H2 => r x xs H2 Q) : tBM K T r ta t σ H Q := q
theorem x_bm0 {r : V → List V → Hp → VK → Prop} {T : String} (q : ta σ H fun x H1 => tyV K T x H1 ∧ r x [] H1 Q) : tBM0 K T r ta σ H Q := q
theorem x_bmF {r : V → List V → Hp → VK → Prop} {T : String} (q : ta σ H fun x H1 => tyF T x H1 ∧ t σ H1 fun xs H2 => r x xs H2 Q) : tBMF T r ta t σ H Q := q
theorem ty_list (h : SqL K H p xs) : tyV K "list" (.ref p) H := .inl ⟨rfl, xs, h⟩
theorem x_append {Q : VK} (h : H p = some (.lst xs)) (l : xs.length < sizeLine) (q : Q .non (upd H p (.lst (xs ++ [v])))) : rAppend (.ref p) [v] H Q := ⟨p, xs, v, rfl, rfl, h, l, q⟩
theorem x_reverse {Q : VK} (h : H p = some (.lst xs)) (q : Q .non (upd H p (.lst xs.reverse))) : rReverse (.ref p) [] H Q := ⟨p, xs, rfl, rfl, h, q⟩
theorem x_lrg {Q : VK} {te : SS → Hp → (Int → Int → Hp → Prop) → Prop} (q : te σ H fun a b H1 => RgOk a b ∧ ∀ q, H1 q = none → Q (.ref q) (upd H1 q (.lst (rgV a b)))) : tLstRg te σ H Q := q
theorem x_rg1 {QR : Int → Int → Hp → Prop} (q : ta σ H fun x H1 => ∃ n, x = .int n ∧ QR 0 n H1) : tRg1 ta σ H QR := q
end
section
variable {K : PySem.W.Frag} {H : Hp} {Q : VK} {n : Nat}
theorem x_new {R : Addr → Prop} (z : n ≤ sizeLine) (q : ∀ p, H p = none → R p) : n ≤ sizeLine ∧ ∀ p, H p = none → R p := ⟨z, q⟩
theorem x_newF {R : Addr → Obj → Prop} (z : n ≤ sizeLine) (q : ∀ p (o : Obj), H p = none → o.cls = .type "tuple" → o.dict = none → R p o) : n ≤ sizeLine ∧ ∀ p (o : Obj), H p = none → o.cls = .type "tuple" → o.dict = none → R p o := ⟨z, q⟩
theorem x_iteT {A B : Prop} (q : A) : if true = true then A else B := iteT q
theorem x_iteF {A B : Prop} (q : B) : if false = true then A else B := iteF q
theorem dp_ints {a : Addr} : ∀ cs : List Int, DpAll K H (cs.map V.int) (cs.map PyData.int)
  | [] => .nil
  | z :: r => .cons (.int z) (dp_ints (a := a) r)
theorem lay_ints : ∀ cs : List Int, PyData.canLayAll0 (cs.map PyData.int) = true
  | [] => by simp only [List.map_nil, PyData.canLayAll0]
  | z :: r => by simp only [List.map_cons, PyData.canLayAll0, PyData.canLay0, lay_ints r, Bool.and_self]
theorem deep_ints : ∀ cs : List Int, PyData.depthAll (cs.map PyData.int) = 0
  | [] => by simp only [List.map_nil, PyData.depthAll]
  | z :: r => by simp [List.map_cons, PyData.depthAll, PyData.depth, deep_ints r]
theorem shaped_ints (cs : List Int) : SeqAt.shaped (.list (cs.map PyData.int)) = true := by
  unfold SeqAt.shaped
  simp [PyData.canLay0, PyData.depth, lay_ints, deep_ints]
theorem x_neNil {a b : Addr} {cs : List Int} (h : SqL K H a (cs.map V.int)) (hb : SqL K H b []) (q : Q (.bl (!cs.isEmpty)) H) : rNeD K (.ref a) (.ref b) H Q := by
  refine ⟨.list (cs.map PyData.int), .list [], .lst h (dp_ints (a := a) cs), .lst hb .nil, shaped_ints cs, shaped_ints [], ?_⟩
  have e : PyData.eqv (.list (cs.map PyData.int)) (.list []) = cs.isEmpty := by
    cases cs <;> simp [PyData.eqv, PyData.eqvAll]
  rw [e]
  exact q
end
theorem natAbs_lt {i : Int} {n : Nat} (h : -(n : Int) < i) (h2 : i < n) : i.natAbs < n := by omega
/- looking up -/
theorem boot'_len : bootBuiltins "len" = some (.builtin "len") := by decide +kernel
theorem boot'_abs : bootBuiltins "abs" = some (.builtin "abs") := by decide +kernel
theorem boot'_int : bootBuiltins "int" = some (.type "int") := by decide +kernel
theorem boot'_bool : bootBuiltins "bool" = some (.type "bool") := by decide +kernel
theorem boot'_list : bootBuiltins "list" = some (.type "list") := by decide +kernel
theorem boot'_tuple : bootBuiltins "tuple" = some (.type "tuple") := by decide +kernel
theorem boot'_str : bootBuiltins "str" = some (.type "str") := by decide +kernel
theorem boot'_min : bootBuiltins "min" = some (.builtin "min") := by decide +kernel
theorem boot'_max : bootBuiltins "max" = some (.builtin "max") := by decide +kernel
theorem boot'_sum : bootBuiltins "sum" = some (.builtin "sum") := by decide +kernel
theorem boot'_any : bootBuiltins "any" = some (.builtin "any") := by decide +kernel
theorem boot'_all : bootBuiltins "all" = some (.builtin "all") := by decide +kernel
theorem boot'_repr : bootBuiltins "repr" = some (.builtin "repr") := by decide +kernel
theorem boot'_sorted : bootBuiltins "sorted" = some (.builtin "sorted") := by decide +kernel
theorem boot'_isinstance : bootBuiltins "isinstance" = some (.builtin "isinstance") := by decide +kernel
theorem boot'_range : bootBuiltins "range" = some (.type "range") := by decide +kernel
theorem boot'_enumerate : bootBuiltins "enumerate" = some (.type "enumerate") := by decide +kernel
theorem boot'_set : bootBuiltins "set" = some (.type "set") := by decide +kernel
theorem x_start {t : TS} {D : Ends} {σ σ' : SS} {H : Hp} (e : σ = σ') (q : t D σ' H) : t D σ H := e ▸ q

theorem lk_ne {H : Hp} {p q : Addr} {o u : HO} (h : H q = some u) (n : H p = none) : upd H p o q = some u := (upd_ne (ne_of_none h n)).trans h
theorem lk_ne2 {H : Hp} {p q : Addr} {o u : HO} (hne : q ≠ p) (h : H q = some u) : upd H p o q = some u := (upd_ne hne).trans h
/-- all but what stands in S is kept -/
def Kx (S : List Addr) (H H' : Hp) : Prop := ∀ b o, b ∉ S → H b = some o → H' b = some o
theorem Kx.refl (S : List Addr) (H : Hp) : Kx S H H := fun _ _ _ h => h
theorem Kx.trans {S : List Addr} {H H1 H2 : Hp} (a : Kx S H H1) (b : Kx S H1 H2) : Kx S H H2 := fun c o n h => b c o n (a c o n h)
theorem Kx.new {S : List Addr} {H H1 : Hp} {p : Addr} {o : HO} (a : Kx S H H1) (n : H1 p = none) : Kx S H (upd H1 p o) := fun b u hb h => lk_ne (a b u hb h) n
theorem Kx.fresh {S : List Addr} {H H1 : Hp} {p : Addr} (a : Kx S H H1) (hp : p ∉ S) (n : H1 p = none) : H p = none := by
  cases q : H p with
  | none => rfl
  | some o => rw [a p o hp q] at n; cases n
/-- a write at a thing that H did not know, or that S bears -/
theorem Kx.wr {S : List Addr} {H H1 : Hp} {p : Addr} {o : HO} (a : Kx S H H1) (n : H p = none ∨ p ∈ S) : Kx S H (upd H1 p o) := fun b u hb h => by
  have nb : b ≠ p := by
    rcases n with n | n
    · exact ne_of_none h n
    · exact fun e => hb (e ▸ n)
  rw [upd_ne nb]
  exact a b u hb h
theorem Kx.mono {S T : List Addr} {H H' : Hp} (a : Kx S H H') (h : ∀ b ∈ S, b ∈ T) : Kx T H H' := fun b o n e => a b o (fun z => n (h b z)) e
theorem lk_keep {S : List Addr} {H H' : Hp} {q : Addr} {u : HO} (k : Kx S H H') (hq : q ∉ S) (h : H q = some u) : H' q = some u := k q u hq h
theorem Kx.sqT {S : List Addr} {K : PySem.W.Frag} {H H' : Hp} {a : Addr} {xs : List V} (k : Kx S H H') (n : a ∉ S) (h : SqT K H a xs) : SqT K H' a xs := by
  rcases h with (h | ⟨o, h⟩) | h
  · exact .inl (.inl (k _ _ n h))
  · exact .inl (.inr ⟨o, k _ _ n h⟩)
  · exact .inr h
theorem Kx.sqL {S : List Addr} {K : PySem.W.Frag} {H H' : Hp} {a : Addr} {xs : List V} (k : Kx S H H') (n : a ∉ S) (h : SqL K H a xs) : SqL K H' a xs := by
  rcases h with (h | ⟨o, h⟩) | h
  · exact .inl (.inl (k _ _ n h))
  · exact .inl (.inr ⟨o, k _ _ n h⟩)
  · exact .inr h
theorem Kx.same {H H' : Hp} (h : Same H H') (S : List Addr) : Kx S H H' := fun b o _ e => h b o e


/-! ### loops and comprehensions: what each asks, by a word Pv of the turn -/
section
variable {K : PySem.W.Frag} {σ : SS} {H : Hp} {Q : VK} {nx bk ct : SS → Hp → Prop} {rt : VK} {g : TG} {tb : TS} {tl te : TE} {ta : TA} {tt : TT} {vs : List Nat}
/-- the asking of a for over n turns that give what Y tells while G holds -/
def AskF (n : Nat) (G : Hp → Prop) (Y : Nat → Hp → V → Hp → Prop) (g : TG) (tb : TS) (nx : SS → Hp → Prop) (rt : VK) (σ : SS) (H : Hp) : Prop :=
  ∃ Pv : Nat → SS → Hp → Prop, Pv 0 σ H ∧ (∀ i σ H, i ≤ n → Pv i σ H → G H) ∧
    (∀ i x σ H H', i < n → Pv i σ H → Y i H x H' → g x σ H' fun σ2 H2 => tb ⟨Pv (i + 1), rt, nx, Pv (i + 1)⟩ σ2 H2) ∧ ∀ σ H, Pv n σ H → nx σ H
def AskC (n : Nat) (G : Hp → Prop) (Y : Nat → Hp → V → Hp → Prop) (g : TG) (tt : TT) (te : TE) (vs : List Nat) (σ : SS) (H : Hp) (Q : VK) : Prop :=
  ∀ D, H D = none → ∃ Pv : Nat → Hp → Prop, Pv 0 (upd H D (.lst [])) ∧ (∀ i H, i ≤ n → Pv i H → G H) ∧
    (∀ i x H H', i < n → Pv i H → Y i H x H' → g x (wipe σ vs) H' fun σ2 H2 => wipe σ2 vs = wipe σ vs ∧ tt σ2 H2 fun b H3 =>
      if b = true then te σ2 H3 fun y H4 => ∃ acc, H4 D = some (.lst acc) ∧ acc.length < sizeLine ∧ Pv (i + 1) (upd H4 D (.lst (acc ++ [y]))) else Pv (i + 1) H3) ∧ ∀ H, Pv n H → Q (.ref D) H
theorem askF {J : It} {n : Nat} {G : Hp → Prop} {Y : Nat → Hp → V → Hp → Prop} (w : Walk J n G Y) (q : AskF n G Y g tb nx rt σ H) :
    ∃ W : Nat → Nat → SS → Hp → Prop, (∃ m, W 0 m σ H) ∧ ∀ i m σ H, W i m σ H → (J.stop i H ∧ nx σ H) ∨
      (J.go i H ∧ ∃ N : SS → Hp → Prop, (∀ σ' H', N σ' H' → ∃ m', m' < m ∧ W (i + 1) m' σ' H') ∧ ∀ x H', J.yld i H x H' → g x σ H' fun σ2 H2 => tb ⟨N, rt, nx, N⟩ σ2 H2) := by
  obtain ⟨Pv, h0, h1, h2, h3⟩ := q
  exact for_it (D := ⟨nx, rt, fun _ _ => False, fun _ _ => False⟩) w Pv h0 h1 h2 h3
theorem askC {J : It} {n : Nat} {G : Hp → Prop} {Y : Nat → Hp → V → Hp → Prop} (w : Walk J n G Y) (q : AskC n G Y g tt te vs σ H Q) :
    ∀ D, H D = none → ∃ W : Nat → Nat → Hp → Prop, (∃ m, W 0 m (upd H D (.lst []))) ∧ ∀ i m H, W i m H → (J.stop i H ∧ Q (.ref D) H) ∨
      (J.go i H ∧ ∃ Nx : Hp → Prop, (∀ H', Nx H' → ∃ m', m' < m ∧ W (i + 1) m' H') ∧ ∀ x H', J.yld i H x H' → g x (wipe σ vs) H' fun σ2 H2 => wipe σ2 vs = wipe σ vs ∧ tt σ2 H2 fun b H3 =>
        if b = true then te σ2 H3 fun y H4 => ∃ acc, H4 D = some (.lst acc) ∧ acc.length < sizeLine ∧ Nx (upd H4 D (.lst (acc ++ [y]))) else Nx H3) := by
  intro D hD
  obtain ⟨Pv, h0, h1, h2, h3⟩ := q D hD
  exact lc_it w Pv h0 h1 h2 h3
abbrev YA (xs : List V) := YAt xs
abbrev YE (xs : List V) := YPair (fun i => some (.int (i : Nat))) (fun i => xs[i]?)
def WF (J : It) (g : TG) (tb : TS) (nx : SS → Hp → Prop) (rt : VK) (σ : SS) (H : Hp) : Prop := ∃ W : Nat → Nat → SS → Hp → Prop, (∃ m, W 0 m σ H) ∧ ∀ i m σ H, W i m σ H → (J.stop i H ∧ nx σ H) ∨
      (J.go i H ∧ ∃ N : SS → Hp → Prop, (∀ σ' H', N σ' H' → ∃ m', m' < m ∧ W (i + 1) m' σ' H') ∧ ∀ x H', J.yld i H x H' → g x σ H' fun σ2 H2 => tb ⟨N, rt, nx, N⟩ σ2 H2)
def WC (J : It) (g : TG) (tt : TT) (te : TE) (vs : List Nat) (σ : SS) (H : Hp) (Q : VK) : Prop := ∀ D, H D = none → ∃ W : Nat → Nat → Hp → Prop, (∃ m, W 0 m (upd H D (.lst []))) ∧ ∀ i m H, W i m H → (J.stop i H ∧ Q (.ref D) H) ∨
      (J.go i H ∧ ∃ Nx : Hp → Prop, (∀ H', Nx H' → ∃ m', m' < m ∧ W (i + 1) m' H') ∧ ∀ x H', J.yld i H x H' → g x (wipe σ vs) H' fun σ2 H2 => wipe σ2 vs = wipe σ vs ∧ tt σ2 H2 fun b H3 =>
        if b = true then te σ2 H3 fun y H4 => ∃ acc, H4 D = some (.lst acc) ∧ acc.length < sizeLine ∧ Nx (upd H4 D (.lst (acc ++ [y]))) else Nx H3)
theorem x_for {wi : TI} (q : wi σ H fun J H1 => WF J g tb nx rt σ H1) : tFor wi g tb ⟨nx, rt, bk, ct⟩ σ H := q
theorem x_lc {wi : TI} (q : wi σ H fun J H1 => WC J g tt te vs σ H1 Q) : tLc wi g tt te vs σ H Q := q
theorem x_yes {QB : Bool → Hp → Prop} (q : QB true H) : tYes σ H QB := q
theorem x_iL {R : It → Hp → Prop} (q : tl σ H fun x H1 => ∃ a, x = .ref a ∧ (∃ xs, SqL K H1 a xs) ∧ R (Itl K a) H1) : iList K tl σ H R := q
theorem x_iT {R : It → Hp → Prop} (q : tl σ H fun x H1 => ∃ a, x = .ref a ∧ (∃ xs, SqT K H1 a xs) ∧ R (Itt K a) H1) : iTup K tl σ H R := q
theorem x_iR1 {R : It → Hp → Prop} (q : ta σ H fun vs H1 => ∃ j : Int, vs = [.int j] ∧ -(2 ^ 62) ≤ j ∧ j < 2 ^ 62 ∧ R (Itr 0 j.toNat) H1) : iRng1 ta σ H R := q
theorem x_iR2 {R : It → Hp → Prop} (q : ta σ H fun vs H1 => ∃ i j : Int, vs = [.int i, .int j] ∧ (-(2 ^ 62) ≤ i ∧ i < 2 ^ 62 ∧ -(2 ^ 62) ≤ j ∧ j < 2 ^ 62) ∧ R (Itr i (j - i).toNat) H1) : iRng2 ta σ H R := q
theorem x_iE {R : It → Hp → Prop} (q : ta σ H fun vs H1 => ∃ a xs, vs = [.ref a] ∧ SqL K H1 a xs ∧ R (Ite K a) H1) : iEnum K ta σ H R := q
theorem x_iET {R : It → Hp → Prop} (q : ta σ H fun vs H1 => ∃ a xs, vs = [.ref a] ∧ SqT K H1 a xs ∧ R (IteT K a) H1) : iEnumT K ta σ H R := q
/- the asking, at the end of the walked thing's value -/
variable {a : Addr} {xs : List V}
theorem y_forL (h : SqL K H a xs) (q : AskF xs.length (fun H => SqL K H a xs) (YA xs) g tb nx rt σ H) : ∃ b, V.ref a = .ref b ∧ (∃ xs, SqL K H b xs) ∧ WF (Itl K b) g tb nx rt σ H := ⟨a, rfl, ⟨xs, h⟩, askF walk_list q⟩
theorem y_forT (h : SqT K H a xs) (q : AskF xs.length (fun H => SqT K H a xs) (YA xs) g tb nx rt σ H) : ∃ b, V.ref a = .ref b ∧ (∃ xs, SqT K H b xs) ∧ WF (Itt K b) g tb nx rt σ H := ⟨a, rfl, ⟨xs, h⟩, askF walk_tup q⟩
theorem y_forR1 {j : Int} (h0 : 0 ≤ j) (h1 : j < 1000000) (q : AskF j.toNat (fun _ => True) (YFn fun i => .int (0 + i)) g tb nx rt σ H) : -(2 ^ 62) ≤ j ∧ j < 2 ^ 62 ∧ WF (Itr 0 j.toNat) g tb nx rt σ H :=
  ⟨by omega, by omega, askF walk_range q⟩
theorem y_forR2 {i j : Int} (h0 : -1000000 < i) (h1 : i < 1000000) (h2 : -1000000 < j) (h3 : j < 1000000) (q : AskF (j - i).toNat (fun _ => True) (YFn fun k => .int (i + k)) g tb nx rt σ H) : (-(2 ^ 62) ≤ i ∧ i < 2 ^ 62 ∧ -(2 ^ 62) ≤ j ∧ j < 2 ^ 62) ∧ WF (Itr i (j - i).toNat) g tb nx rt σ H :=
  ⟨⟨by omega, by omega, by omega, by omega⟩, askF walk_range q⟩
theorem y_forE (h : SqL K H a xs) (q : AskF xs.length (fun H => SqL K H a xs) (YE xs) g tb nx rt σ H) : ∃ b ys, [V.ref a] = [.ref b] ∧ SqL K H b ys ∧ WF (Ite K b) g tb nx rt σ H := ⟨a, xs, rfl, h, askF walk_enum q⟩
theorem y_forET (h : SqT K H a xs) (q : AskF xs.length (fun H => SqT K H a xs) (YE xs) g tb nx rt σ H) : ∃ b ys, [V.ref a] = [.ref b] ∧ SqT K H b ys ∧ WF (IteT K b) g tb nx rt σ H := ⟨a, xs, rfl, h, askF walk_enumT q⟩
theorem y_lcL (h : SqL K H a xs) (q : AskC xs.length (fun H => SqL K H a xs) (YA xs) g tt te vs σ H Q) : ∃ b, V.ref a = .ref b ∧ (∃ xs, SqL K H b xs) ∧ WC (Itl K b) g tt te vs σ H Q := ⟨a, rfl, ⟨xs, h⟩, askC walk_list q⟩
theorem y_lcT (h : SqT K H a xs) (q : AskC xs.length (fun H => SqT K H a xs) (YA xs) g tt te vs σ H Q) : ∃ b, V.ref a = .ref b ∧ (∃ xs, SqT K H b xs) ∧ WC (Itt K b) g tt te vs σ H Q := ⟨a, rfl, ⟨xs, h⟩, askC walk_tup q⟩
theorem y_lcR1 {j : Int} (h0 : 0 ≤ j) (h1 : j < 1000000) (q : AskC j.toNat (fun _ => True) (YFn fun i => .int (0 + i)) g tt te vs σ H Q) : -(2 ^ 62) ≤ j ∧ j < 2 ^ 62 ∧ WC (Itr 0 j.toNat) g tt te vs σ H Q :=
  ⟨by omega, by omega, askC walk_range q⟩
theorem y_lcE (h : SqL K H a xs) (q : AskC xs.length (fun H => SqL K H a xs) (YE xs) g tt te vs σ H Q) : ∃ b ys, [V.ref a] = [.ref b] ∧ SqL K H b ys ∧ WC (Ite K b) g tt te vs σ H Q := ⟨a, xs, rfl, h, askC walk_enum q⟩
theorem y_lcET (h : SqT K H a xs) (q : AskC xs.length (fun H => SqT K H a xs) (YE xs) g tt te vs σ H Q) : ∃ b ys, [V.ref a] = [.ref b] ∧ SqT K H b ys ∧ WC (IteT K b) g tt te vs σ H Q := ⟨a, xs, rfl, h, askC walk_enumT q⟩
end

/-! ### the same rules where the block's own K is told from outside -/
section
variable {X : Cx} {K : PySem.W.Frag}
theorem ix_listK (e : X.K = K := by rfl) : IxR X (rIxL K) := e ▸ ix_list
theorem ix_tupK (e : X.K = K := by rfl) : IxR X (rIxT K) := e ▸ ix_tup
theorem sl_listK (e : X.K = K := by rfl) : SlR X (rSlL K) := e ▸ sl_list
theorem call_lenK (e : X.K = K := by rfl) : CallR X (.builtin "len") (fun xs H Q => ∃ p ys, xs = [.ref p] ∧ (SqL K H p ys ∨ SqT K H p ys) ∧ Q (.int ys.length) H) := e ▸ call_len_seq
theorem call_tupFK (e : X.K = K := by rfl) : CallR X (.type "tuple") (fun xs H Q => ∃ p ys, xs = [.ref p] ∧ SqL K H p ys ∧ ∀ l o, H l = none → o.cls = .type "tuple" → o.dict = none → Q (.ref l) (upd H l (.frz o (.tup ys)))) := e ▸ call_tupF
theorem call_tuple_ofK (e : X.K = K := by rfl) : CallR X (.type "tuple") (fun xs H Q => ∃ p ys, xs = [.ref p] ∧ ((SqL K H p ys ∧ ∀ l, H l = none → Q (.ref l) (upd H l (.tup ys))) ∨ (SqT K H p ys ∧ Q (.ref p) H))) := e ▸ call_tuple_of
theorem call_list_ofK (e : X.K = K := by rfl) : CallR X (.type "list") (fun xs H Q => ∃ p ys, xs = [.ref p] ∧ (SqL K H p ys ∨ SqT K H p ys) ∧ ∀ l, H l = none → Q (.ref l) (upd H l (.lst ys))) := e ▸ call_list_of
theorem mt_countTK (e : X.K = K := by rfl) : MtR X "tuple.count" (rCountT K) := e ▸ mt_countT
theorem op_in_seqK (e : X.K = K := by rfl) : OpR X (compareOp .In) (rIn K false) := e ▸ op_in_seq
theorem op_notIn_seqK (e : X.K = K := by rfl) : OpR X (compareOp .NotIn) (rIn K true) := e ▸ op_notIn_seq
theorem pg_tupK {es : List Expr} {k : Nat} {pos : Pos} {t : TGs} {n : Nat} (e : X.K = K) (hc : X.calm = true) (h : PGs X es t)
    (hn : (assignEach es X.env).length = n := by rfl) (hst : (assignEach es X.env).findIdx? (·.1) = none := by rfl) : PG X (.Tuple es k pos) (gTup K n t) := e ▸ pg_tup hc h hn hst
end

/-! ### comprehensions whose turn gives one value f i, the heap but for what is new as it was -/
theorem cut63 (xs : List V) : cutV xs none (some 63) = xs.take 63 := by
  unfold cutV
  rw [HT.sIx_none, show HT.sIx xs.length xs.length (some 63) = min 63 xs.length from HT.sIx_nat xs.length xs.length 63]
  show List.take (min 63 xs.length - 0) (List.drop 0 xs) = _
  rw [Nat.sub_zero, List.drop_zero]
  rcases Nat.le_total 63 xs.length with h | h
  · rw [Nat.min_eq_left h]
  · rw [Nat.min_eq_right h, List.take_length, List.take_of_length_le h]


section
variable {X : Cx}
theorem get_list : PGet X (rGetL X.K) := by
  intro pins s σ H o i ov iv Q I ro ri h
  obtain ⟨p, xs, k, v, rfl, rfl, hq, he, q⟩ := h
  cases ro
  obtain ⟨t, rfl⟩ := ri
  obtain ⟨its, r, pl, hz⟩ := I.list hq
  obtain ⟨j, h1, h2, h3, h4, h5⟩ := atI_get he
  obtain ⟨w, ew, rw'⟩ := r.get h2
  have hl := r.length
  have hn := line63
  by_cases h0 : 0 ≤ k
  · have hj : k.toNat = j := by
      rw [seqIndex_of h0 h5] at h1
      exact Option.some.inj h1
    exact wpAny_getItem_list pl.isList h0 (by omega) (by rw [hj]; simpa using ew) ⟨v, H, I, rw', q⟩
  · have hj : (k + (its.toArray.size : Int)).toNat = j := by
      rw [seqIndex_neg (by omega) h4] at h1
      rw [List.size_toArray, ← hl]
      exact Option.some.inj h1
    exact wpAny_getItem_list_neg pl.isList (by omega) (by rw [List.size_toArray] <;> omega) (by omega) (by rw [hj]; simpa using ew) ⟨v, H, I, rw', q⟩
end
section
variable {K : PySem.W.Frag} {σ : SS} {H : Hp} {Q : VK} {v : V} {p : Addr} {xs : List V} {i : Int}
theorem x_getL (h : SqL K H p xs) (a : atI xs i = some v) (q : Q v H) : rGetL K (.ref p) (.int i) H Q := ⟨p, xs, i, v, rfl, rfl, h, a, q⟩
theorem x_rep {k : Int} {l : Addr} (h : H l = some (.lst xs)) (h0 : 0 ≤ k) (h1 : k < 1000000) (z : xs.length * k.toNat ≤ sizeLine) (q : ∀ p, H p = none → Q (.ref p) (upd H p (.lst (List.replicate k.toNat xs).flatten))) : rRep (.ref l) (.int k) H Q :=
  ⟨l, k, xs, rfl, rfl, h, by omega, by omega, z, q⟩
theorem x_sum {a : Addr} {ns : List Int} (h : SqL K H a (ns.map V.int)) (q : Q (.int ns.sum) H) : rSum K [.ref a] H Q := ⟨a, ns, rfl, h, q⟩
theorem x_countT {a : Addr} {ys : List V} {y : V} (h : SqT K H a ys) (f : flatV y = true) (fs : ys.all flatV = true) (q : Q (.int ((ys.countP fun z => eqV z y : Nat) : Int)) H) : rCountT K (.ref a) [y] H Q := ⟨a, ys, y, rfl, rfl, h, f, fs, q⟩
end

/-! ### data whose repr is told -/
structure Good (d : PyData) (dep w : Nat) : Prop where
  sh : d.showable = true
  nd : d.hasDict = false
  dp : d.depth ≤ dep
  sl : d.leavesShort 13 = true
  wt : d.weight ≤ w
theorem Good.mono {d : PyData} {a b w v : Nat} (g : Good d a w) (h : a ≤ b) (h2 : w ≤ v) : Good d b v := ⟨g.sh, g.nd, Nat.le_trans g.dp h, g.sl, Nat.le_trans g.wt h2⟩
theorem Good.none : Good .none 0 0 := ⟨rfl, rfl, Nat.le_refl _, rfl, Nat.le_refl _⟩
theorem Good.bool (b : Bool) : Good (.bool b) 0 0 := ⟨rfl, rfl, Nat.le_refl _, rfl, Nat.le_refl _⟩
theorem Good.int {z : Int} (h : z.natAbs < 10 ^ 9) : Good (.int z) 0 31 := by
  have hl : z.natAbs.log2 < 30 := PySem.Flt.log2_lt_of (by decide) (Nat.lt_of_lt_of_le h (by decide))
  refine ⟨?_, rfl, Nat.le_refl _, ?_, ?_⟩
  · simp only [PyData.showable, decide_eq_true_eq]
    omega
  · simp only [PyData.leavesShort, PyData.shown]
    have := int_text_length_le10 (k := 9) (by decide) h
    refine decide_eq_true ?_
    show (Str.ofString (toString z)).length ≤ 13
    rw [PySem.ofString_length]
    omega
  · simp only [PyData.weight]
    split <;> omega
theorem good_all {k w : Nat} : ∀ {ds : List PyData}, (∀ d ∈ ds, Good d k w) → PyData.showableAll ds = true ∧ PyData.hasDictAll ds = false ∧ PyData.depthAll ds ≤ k ∧ PyData.leavesShortAll 13 ds = true ∧ PyData.weightAll ds ≤ ds.length * (w + 1)
  | [], _ => ⟨rfl, rfl, Nat.zero_le _, rfl, Nat.zero_le _⟩
  | d :: ds, h => by
    obtain ⟨a1, a2, a3, a4, a5⟩ := good_all (ds := ds) fun x hx => h x (List.mem_cons_of_mem _ hx)
    have g := h d List.mem_cons_self
    refine ⟨?_, ?_, ?_, ?_, ?_⟩
    · simp only [PyData.showableAll, g.sh, a1, Bool.and_self]
    · simp only [PyData.hasDictAll, g.nd, a2, Bool.or_self]
    · simp only [PyData.depthAll]
      exact Nat.max_le.mpr ⟨g.dp, a3⟩
    · simp only [PyData.leavesShortAll, g.sl, a4, Bool.and_self]
    · simp only [PyData.weightAll, List.length_cons, Nat.add_mul]
      have := g.wt
      omega
theorem Good.list {ds : List PyData} {k w n : Nat} (h : ∀ d ∈ ds, Good d k w) (hn : ds.length ≤ n) : Good (.list ds) (k + 1) (n * (w + 1)) := by
  obtain ⟨a1, a2, a3, a4, a5⟩ := good_all h
  exact ⟨by simpa only [PyData.showable] using a1, by simpa only [PyData.hasDict] using a2, by simp only [PyData.depth]; omega, by simpa only [PyData.leavesShort] using a4, by simp only [PyData.weight]; exact Nat.le_trans a5 (Nat.mul_le_mul_right _ hn)⟩
theorem Good.tuple {ds : List PyData} {k w n : Nat} (h : ∀ d ∈ ds, Good d k w) (hn : ds.length ≤ n) : Good (.tuple ds) (k + 1) (n * (w + 1)) := by
  obtain ⟨a1, a2, a3, a4, a5⟩ := good_all h
  exact ⟨by simpa only [PyData.showable] using a1, by simpa only [PyData.hasDict] using a2, by simp only [PyData.depth]; omega, by simpa only [PyData.leavesShort] using a4, by simp only [PyData.weight]; exact Nat.le_trans a5 (Nat.mul_le_mul_right _ hn)⟩
theorem x_repr {K : PySem.W.Frag} {H : Hp} {Q : VK} {a : Addr} {d : PyData} {k w : Nat} (h : Dp K H (.ref a) d) (g : Good d k w) (hk : k ≤ 60) (hw : w ≤ 2 ^ 20) (q : Q (.str d.shown) H) : rRepr K [.ref a] H Q :=
  ⟨a, d, rfl, h, g.sh, g.nd, Nat.le_trans g.dp hk, PyData.shown_fits (by decide) (by decide) g.sl (Nat.le_trans g.wt hw), q⟩
/- what stands at an address as data is kept -/
theorem Kx.rd {S : List Addr} {H H' : Hp} {a : Addr} {u : HO} (k : Kx S H H') (n : a ∉ S) (h : Rd H a u) : Rd H' a u := by
  rcases h with h | ⟨o, h⟩
  · exact .inl (k _ _ n h)
  · exact .inr ⟨o, k _ _ n h⟩
mutual
theorem dp_keep {K : PySem.W.Frag} {H H' : Hp} (k : Kx [] H H') : ∀ (d : PyData) (v : V), Dp K H v d → Dp K H' v d
  | .none, _, h => by cases h; exact .non
  | .bool b, _, h => by cases h; exact .bl b
  | .int i, _, h => by cases h; exact .int i
  | .str x, _, h => by cases h; exact .str x
  | .list ds, _, h => by
    cases h with
    | lst h1 h2 => exact .lst (k.sqL (by simp) h1) (dp_keepAll k ds _ h2)
  | .tuple ds, _, h => by
    cases h with
    | tup h1 h2 => exact .tup (k.sqT (by simp) h1) (dp_keepAll k ds _ h2)
  | .dict _, _, h => by cases h
theorem dp_keepAll {K : PySem.W.Frag} {H H' : Hp} (k : Kx [] H H') : ∀ (ds : List PyData) (vs : List V), DpAll K H vs ds → DpAll K H' vs ds
  | [], _, h => by cases h; exact .nil
  | d :: ds, _, h => by
    cases h with
    | cons h1 h2 => exact .cons (dp_keep k d _ h1) (dp_keepAll k ds _ h2)
end

section
variable {X : Cx}
/-- sorted(d) of a dict whose keys are ints -/
def rSortedD : List V → Hp → VK → Prop := fun xs H Q => ∃ (a : Addr) (kvs : List (Key × V)) (ks : List Int), xs = [.ref a] ∧ H a = some (.dK kvs) ∧ kvs.map (·.1) = ks.map Sum.inl ∧
    ∀ (ns : List Int) (p : Addr), ns.Perm ks → ns.Pairwise (· ≤ ·) → H p = none → Q (.ref p) (upd H p (.lst (ns.map V.int)))
theorem cr_sortedDI (hcalm : X.calm = true) : CallR X (.builtin "sorted") rSortedD := by
  intro pins s σ H xs us Q I r q
  obtain ⟨a, kvs, ks, ex, hd, hks, q⟩ := q
  subst ex
  obtain ⟨u, eu, rx⟩ := vals1 r
  subst eu
  cases rx
  obtain ⟨z, lo, vs, rel, dd⟩ := dk_of I.hok hd
  obtain ⟨ep, hat⟩ := dd.dictAt
  have hkeys : vs.map (·.1) = ks.map Sum.inl := rel.keys.symm.trans hks
  have hl : vs.length = ks.length := by
    have e := congrArg List.length hkeys
    rw [List.length_map, List.length_map] at e
    exact e
  have h16 : vs.length ≤ sizeLine := by rw [← rel.length]; exact z
  refine Calls.call_function_entry PyProof.Rows.kind_sorted PyProof.Rows.plain_sorted PyProof.Rows.entry_sorted (PyProof.Rows.args_sorted1 _) ?_
  unfold Builtin.«sorted»
  refine wpAny_bind (m := checkCount "sorted" 1 1 _) (wpAny_pure ?_)
  refine wpAny_bind (PySem.W.kdu_collect (A := X.A.in1) (PySem.W.kdl_dict (knd := mixKind X.prog X.w) (kvs := vs) (ep := ep) lo) (I.ok.hd hcalm) hat h16 fun h' tk acc hk hacc => ?_)
  have hal : acc.toList.length = ks.length := by rw [Array.length_toList, hacc.1, hl]
  have hv : Vals (ks.map V.int) acc.toList := vals_of_at (by rw [List.length_map, hal]) fun j x w h1 h2 => by
    obtain ⟨k, y, e1, e2⟩ := hacc.2 j w (by rw [← Array.getElem?_toList]; exact h2)
    have e3 : (vs.map (·.1))[j]? = some k := by rw [List.getElem?_map, e1]; all_goals rfl
    rw [hkeys, List.getElem?_map] at e3
    rw [List.getElem?_map] at h1
    cases e4 : ks[j]? with
    | none => rw [e4] at e3; cases e3
    | some i =>
      rw [e4] at e3 h1
      have e5 : Sum.inl i = k := Option.some.inj e3
      subst e5
      have e6 : V.int i = x := Option.some.inj h1
      subst e6
      exact keyIs_rel (k := .inl i) e2
  have hi := hv.ints
  have I1 : Inv X pins σ H { s with heap := h', toks := tk } := I.kept hk
  have hz : acc.toList.length ≤ sizeLine := by rw [hal, ← hl]; exact h16
  refine wpAny_bind (wpAny_newList ?_ hz)
  have hoL : (h'.push (PyProof.Rows.seqObj "list" acc.toList.toArray 0)).get? h'.objs.size = some (PyProof.Rows.seqObj "list" acc.toList.toArray 0) := Heap.get?_push_size _ rfl
  show wpAny _ _ _ _ _ { s with heap := h'.push (PyProof.Rows.seqObj "list" acc.toList.toArray 0), toks := tk }
  refine wpAny_bind (wpAny_holding (wpAny_call_entry PyProof.Rows.slot_list_sort ⟨_, hoL, rfl⟩ PyProof.Rows.entry_list_sort
    (SrtO.list_sort_ord SrtO.swo_int hoL hz (fun h2 => SrtO.ints_sortable hi h2) fun out h1 h2 => ⟨_, rfl, ?_⟩) (PyProof.Rows.args_list_sort _)))
  obtain ⟨k1, k2, k3⟩ := SrtO.ints_out hi h1 h2
  obtain ⟨e', he'⟩ := PyProof.Rows.sortedHeap_at (vs := acc.toList) (out := out.toArray) hoL
  have hlen : ((out.map SrtO.iv).map V.int).length ≤ sizeLine := by
    rw [List.length_map, k2.length_eq, ← hal]
    exact hz
  refine wpAny_pure ⟨_, rfl, .ref h'.objs.size, upd H h'.objs.size (.lst ((out.map SrtO.iv).map V.int)), I1.laid (t' := tk) (fun b u e => ?_) (Nat.le_refl _)
    (show ObjOk X.prog X.w _ _ _ (.lst ((out.map SrtO.iv).map V.int)) from ⟨hlen, out, e', vals_of_ints k1, he'⟩), rfl, q _ _ k2 k3 (I1.hok.fresh (Nat.le_refl _))⟩
  have hb : b < h'.objs.size := Heap.lt_size e
  rw [PyProof.Rows.sortedHeap_old (Nat.ne_of_lt hb) (by rw [size_push']; exact Nat.lt_succ_of_lt hb)]
  exact Heap.get?_push_of_some _ e
end

section
variable {X : Cx}
theorem sw_trueD {kx vx : Expr} {gs : List Comprehension} {scope : Scope} {pos py : Pos} {y : Str} {l : Nat} {env : Env} (hk : env.scope.kind = .function) (hy : env.scope.names.lookup y = some .local) (hl : (py.line == pos.line) = true)
    (ha : (scope.names.any fun (n, k) => n == y && (k == .local || k == .cell)) = false) : swapsWith (.DictComp kx vx gs scope pos) (some (.Name y py)) l env = pure true := by
  have ky : env.kindOf y = some .local := hy
  have hb : env.blockKind = .function := by unfold Env.blockKind; rw [hk]; rfl
  unfold swapsWith
  simp only [hb, ky, ha, Expr.pos, hl]
  rfl
theorem ps_setDc {i : Nat} {y : Str} {py : Pos} {kx vx tg iter : Expr} {ifs : List Expr} {scope : Scope} {own : List (Str × Nat)} {pos spos : Pos} {wi : TI} {g : TG} {tt : TT} {tk tv : TE} (hc : X.calm = true) (hN : X.N.Nodup) (hy : X.N[i]? = some y) (hyl : X.env.scope.names.lookup y = some .local)
    (hsw : swapsWith (.DictComp kx vx [⟨tg, iter, ifs, 0⟩] scope pos) (some (.Name y py)) spos.line X.env = pure true) (hi : PI X tg iter wi) (ok : BlkOk X.N X.env.scope scope own)
    (hg : ∀ (s : Shared) (H : Hp) (C : Addr) (cl : List (Str × Addr)) (fp : List Addr), PG (X.blk s H scope (compEnvC scope cl C X.env) fp) tg g) (ht : ∀ (s : Shared) (H : Hp) (C : Addr) (cl : List (Str × Addr)) (fp : List Addr), PTs (X.blk s H scope (compEnvC scope cl C X.env) fp) ifs tt)
    (hk : ∀ (s : Shared) (H : Hp) (C : Addr) (cl : List (Str × Addr)) (fp : List Addr), PE (X.blk s H scope (compEnvC scope cl C X.env) fp) kx tk)
    (he : ∀ (s : Shared) (H : Hp) (C : Addr) (cl : List (Str × Addr)) (fp : List Addr), PE (X.blk s H scope (compEnvC scope cl C X.env) fp) vx tv) (hs : ∀ x, foldedSetIterable iter X.env x = pure x := by intro _; rfl) :
    PS X (.Assign [.Name y py] (.DictComp kx vx [⟨tg, iter, ifs, 0⟩] scope pos) spos) (tAsg (tDc wi g tt tk tv (own.map (·.2))) (gName i)) := by
  refine ⟨fun pins s σ H D I h => ?_⟩
  rw [exec_Assign_Name_used _ _ _ _ hsw]
  refine wpAny_bind (wpAny_standAt (wpAny_bind ?_))
  show wpAny _ X.A (do let _ ← comprehension (.DictComp kx vx [⟨tg, iter, ifs, 0⟩] scope pos) scope X.env (firstIterPos [⟨tg, iter, ifs, 0⟩] pos) newDict false (eval iter X.env) (some (assign (.Name y py) X.env))) _ _ s
  have h : tDc wi g tt tk tv (own.map (·.2)) σ H (fun x H1 => gName i x σ H1 D.nx) := h
  refine wpAny_bind (thn (dc_core (Qf := fun _ s' => SP X pins D .next s') hc hN I hi ok hg ht hk he hs h fun L C s' m H' I' q hn f => ?_) fun _ s' hq => wpAny_pure (wpAny_pure hq))
  show wpAny _ _ (assign (.Name y py) X.env (.ref L)) _ _ _
  refine wpAny_assign_Name (store_ok2 (v := V.ref L) I' hN hy (.inl hyl) rfl (fun s2 I2 ⟨a, sb, ha⟩ => ?_) (.inr hyl))
  obtain ⟨f0, f1, f2, f3, f4, f5⟩ := f
  have haC : C ≠ a := by
    rcases ha with z | z
    · rw [z]; exact f1
    · exact fun e => f4 y a z e.symm
  refine ⟨m, hn.sameBut sb haC, fun h3 sb3 => ?_⟩
  exact ⟨_, H', I2.turned (t' := s2.toks) (fun b o hb e => (sb3.2 b hb).trans e) f0 f1 f3 f4 f5, q⟩
end
section
variable {K : PySem.W.Frag} {σ : SS} {H : Hp} {Q : VK} {QB : Bool → Hp → Prop} {nx bk ct : SS → Hp → Prop} {rt : VK} {g : TG} {tb : TS} {tl te tk tv td ty ta : TE} {tA : TA} {tt : TT} {vs : List Nat} {v : V} {a : Addr} {xs ys : List V}
def AskD (n : Nat) (G : Hp → Prop) (Y : Nat → Hp → V → Hp → Prop) (g : TG) (tt : TT) (tk tv : TE) (vs : List Nat) (σ : SS) (H : Hp) (Q : VK) : Prop :=
  ∀ D, H D = none → ∃ Pv : Nat → Hp → Prop, Pv 0 (upd H D (.dK [])) ∧ (∀ i H, i ≤ n → Pv i H → G H) ∧
    (∀ i x H H', i < n → Pv i H → Y i H x H' → g x (wipe σ vs) H' fun σ2 H2 => wipe σ2 vs = wipe σ vs ∧ tt σ2 H2 fun b H3 =>
      if b = true then tk σ2 H3 fun y H4 => tv σ2 H4 fun z H5 => ∃ kvs k, y = kV k ∧ H5 D = some (.dK kvs) ∧ kvs.length < sizeLine ∧ Pv (i + 1) (upd H5 D (.dK (putK kvs k z))) else Pv (i + 1) H3) ∧ ∀ H, Pv n H → Q (.ref D) H
def WD (J : It) (g : TG) (tt : TT) (tk tv : TE) (vs : List Nat) (σ : SS) (H : Hp) (Q : VK) : Prop := ∀ D, H D = none → ∃ W : Nat → Nat → Hp → Prop, (∃ m, W 0 m (upd H D (.dK []))) ∧ ∀ i m H, W i m H →
  (J.stop i H ∧ Q (.ref D) H) ∨ (J.go i H ∧ ∃ Nx : Hp → Prop, (∀ H', Nx H' → ∃ m', m' < m ∧ W (i + 1) m' H') ∧ ∀ x H', J.yld i H x H' → g x (wipe σ vs) H' fun σ2 H2 => wipe σ2 vs = wipe σ vs ∧ tt σ2 H2 fun b H3 =>
    if b = true then tk σ2 H3 fun y H4 => tv σ2 H4 fun z H5 => ∃ kvs k, y = kV k ∧ H5 D = some (.dK kvs) ∧ kvs.length < sizeLine ∧ Nx (upd H5 D (.dK (putK kvs k z))) else Nx H3)
theorem askD {J : It} {n : Nat} {G : Hp → Prop} {Y : Nat → Hp → V → Hp → Prop} (w : Walk J n G Y) (q : AskD n G Y g tt tk tv vs σ H Q) : WD J g tt tk tv vs σ H Q := by
  intro D hD
  obtain ⟨Pv, h0, hG, hs, hd⟩ := q D hD
  refine ⟨fun i m H => m = n - i ∧ i ≤ n ∧ Pv i H, ⟨n, by simp, Nat.zero_le _, h0⟩, ?_⟩
  rintro i m H ⟨rfl, hi, p⟩
  have qG := hG i H hi p
  by_cases hlt : i < n
  · exact .inr ⟨w.goes i H hlt qG, Pv (i + 1), fun H' p' => ⟨n - (i + 1), by omega, rfl, hlt, p'⟩, fun x H' y => hs i x H H' hlt p (w.yields i H x H' hlt qG y)⟩
  · have e : i = n := by omega
    subst e
    exact .inl ⟨w.stops H qG, hd H p⟩
theorem x_dc {wi : TI} (q : wi σ H fun J H1 => WD J g tt tk tv vs σ H1 Q) : tDc wi g tt tk tv vs σ H Q := q
theorem y_dcL (h : SqL K H a xs) (q : AskD xs.length (fun H => SqL K H a xs) (YA xs) g tt tk tv vs σ H Q) : ∃ b, V.ref a = .ref b ∧ (∃ xs, SqL K H b xs) ∧ WD (Itl K b) g tt tk tv vs σ H Q := ⟨a, rfl, ⟨xs, h⟩, askD walk_list q⟩
/-- a while, by a word of the names and the heap, and a measure -/
theorem x_while {c : TT} (q : ∃ W : Nat → SS → Hp → Prop, (∃ m, W m σ H) ∧ ∀ m σ H, W m σ H → c σ H fun b H1 => if b = true then ∃ N : SS → Hp → Prop, (∀ σ' H', N σ' H' → ∃ m', m' < m ∧ W m' σ' H') ∧ tb ⟨N, rt, nx, N⟩ σ H1 else nx σ H1) : tWhile c tb ⟨nx, rt, bk, ct⟩ σ H := q
theorem x_turn {m : Nat} {W : Nat → SS → Hp → Prop} (q : tb ⟨fun σ' H' => ∃ m', m' < m ∧ W m' σ' H', rt, nx, fun σ' H' => ∃ m', m' < m ∧ W m' σ' H'⟩ σ H) : ∃ N : SS → Hp → Prop, (∀ σ' H', N σ' H' → ∃ m', m' < m ∧ W m' σ' H') ∧ tb ⟨N, rt, nx, N⟩ σ H := ⟨_, fun _ _ h => h, q⟩
theorem x_truthL {R : Bool → Prop} (h : SqL K H a xs) (q : R (!xs.isEmpty)) : ∃ k, TruV K (.ref a) H k ∧ R k := ⟨_, .inl ⟨xs, h, rfl⟩, q⟩
theorem x_pop {Q : VK} {y : V} (h : H a = some (.lst xs)) (e : xs[xs.length - 1]? = some y) (q : Q y (upd H a (.lst xs.dropLast))) : rPop (.ref a) [] H Q := ⟨a, xs, y, rfl, rfl, h, e, q⟩
theorem x_din (q : ty σ H fun y H1 => td σ H1 fun x H2 => ∃ a o, x = .ref a ∧ DGet H2 a y o ∧ Q (.bl o.isSome) H2) : tDIn ty td σ H Q := q
theorem x_dnotin (q : ty σ H fun y H1 => td σ H1 fun x H2 => ∃ a o, x = .ref a ∧ DGet H2 a y o ∧ Q (.bl (!o.isSome)) H2) : tDNotIn ty td σ H Q := q
theorem x_dput (q : tv σ H fun v H1 => td σ H1 fun x H2 => ty σ H2 fun y H3 => ∃ a H4, x = .ref a ∧ DPut H3 a y v H4 ∧ nx σ H4) : sDPut td ty tv ⟨nx, rt, bk, ct⟩ σ H := q
theorem x_dget (q : td σ H fun x H1 => ty σ H1 fun y H2 => ∃ a v, x = .ref a ∧ DGet H2 a y (some v) ∧ Q v H2) : tDGet td ty σ H Q := q
theorem x_dgI {kvs : List (Key × V)} {i : Int} {R : Option V → Prop} (h : H a = some (.dK kvs)) (q : R (valV kvs (.inl i))) : ∃ b o, V.ref a = .ref b ∧ DGet H b (.int i) o ∧ R o := ⟨a, _, rfl, DGet.k (k := .inl i) h, q⟩
theorem x_dpI {kvs : List (Key × V)} {i : Int} {R : Hp → Prop} (h : H a = some (.dK kvs)) (l : kvs.length < sizeLine) (q : R (upd H a (.dK (putK kvs (.inl i) v)))) : ∃ b H', V.ref a = .ref b ∧ DPut H b (.int i) v H' ∧ R H' := ⟨a, _, rfl, DPut.k (k := .inl i) h l, q⟩
theorem x_listD {kvs : List (Key × V)} {Q : VK} (h : H a = some (.dK kvs)) (q : ∀ p, H p = none → Q (.ref p) (upd H p (.lst (kvs.map fun kv => kV kv.1)))) : rListD [.ref a] H Q := ⟨a, kvs, rfl, h, q⟩
theorem x_sortedD {kvs : List (Key × V)} {ks : List Int} {Q : VK} (h : H a = some (.dK kvs)) (e : kvs.map (·.1) = ks.map Sum.inl)
    (q : ∀ (ns : List Int) (p : Addr), ns.Perm ks → ns.Pairwise (· ≤ ·) → H p = none → Q (.ref p) (upd H p (.lst (ns.map V.int)))) : rSortedD [.ref a] H Q := ⟨a, kvs, ks, rfl, h, e, q⟩
theorem x_sortedL {ks : List Int} {Q : VK} (h : SqL K H a (ks.map V.int))
    (q : ∀ (ns : List Int) (p : Addr), ns.Perm ks → ns.Pairwise (· ≤ ·) → H p = none → Q (.ref p) (upd H p (.lst (ns.map V.int)))) : rSortedI K [.ref a] H Q := ⟨a, ks, rfl, h, q⟩
theorem x_inL {x : V} (h : SqL K H a xs) (f : flatV x = true) (fs : xs.all flatV = true) (q : Q (.bl (inV x xs)) H) : rIn K false x (.ref a) H Q := ⟨a, xs, rfl, .inl h, f, fs, q⟩
theorem x_notInL {x : V} (h : SqL K H a xs) (f : flatV x = true) (fs : xs.all flatV = true) (q : Q (.bl (!inV x xs)) H) : rIn K true x (.ref a) H Q := ⟨a, xs, rfl, .inl h, f, fs, q⟩
theorem x_inT {x : V} (h : SqT K H a xs) (f : flatV x = true) (fs : xs.all flatV = true) (q : Q (.bl (inV x xs)) H) : rIn K false x (.ref a) H Q := ⟨a, xs, rfl, .inr h, f, fs, q⟩
theorem x_listL {Q : VK} (h : SqL K H a xs) (q : ∀ l, H l = none → Q (.ref l) (upd H l (.lst xs))) : ∃ p ys, [V.ref a] = [.ref p] ∧ (SqL K H p ys ∨ SqT K H p ys) ∧ ∀ l, H l = none → Q (.ref l) (upd H l (.lst ys)) := ⟨a, xs, rfl, .inl h, q⟩
theorem x_listT {Q : VK} (h : SqT K H a xs) (q : ∀ l, H l = none → Q (.ref l) (upd H l (.lst xs))) : ∃ p ys, [V.ref a] = [.ref p] ∧ (SqL K H p ys ∨ SqT K H p ys) ∧ ∀ l, H l = none → Q (.ref l) (upd H l (.lst ys)) := ⟨a, xs, rfl, .inr h, q⟩
/-- t + u: some tuple of both -/
theorem x_cat {b : Addr} {Q : VK} (h : SqT K H a xs) (h2 : SqT K H b ys) (z : xs.length + ys.length ≤ sizeLine) (q : ∀ (p : Addr) (H' : Hp), SqT K H' p (xs ++ ys) → Kx [] H H' → Q (.ref p) H') : rCatA K (.ref a) (.ref b) H Q := by
  refine ⟨a, b, xs, ys, rfl, rfl, h, h2, z, fun e => ?_, fun _ e => ?_, fun _ _ p hp => ?_⟩
  · subst e
    exact q b H h2 (Kx.refl _ _)
  · subst e
    exact q a H (by rwa [List.append_nil]) (Kx.refl _ _)
  · exact q p _ (SqT.of upd_same) ((Kx.refl _ _).new hp)
theorem in_int {n : Int} : ∀ ns : List Int, inV (.int n) (ns.map V.int) = decide (n ∈ ns)
  | [] => rfl
  | m :: r => by
    have ih := in_int (n := n) r
    unfold inV at ih ⊢
    rw [List.map_cons, List.any_cons, ih]
    by_cases e : m = n
    · subst e
      simp [eqV]
    · have e2 : ¬ n = m := fun z => e z.symm
      simp [eqV, e, e2]
theorem flat_ints : ∀ ns : List Int, (ns.map V.int).all flatV = true
  | [] => rfl
  | _ :: r => flat_ints r
theorem pt_truth' {X : Cx} {a : Expr} {t : TE} (ha : PE X a t) (he : ∀ whole, isTrue a X.env whole = (do let v ← whole; standAt a.pos; holding [v] (truthy v)) := by intro _; rfl) :
    PT X a (fun σ H QB => t σ H fun x H' => ∃ k, TruV X.K x H' k ∧ QB k H') := pt_truth ha he
end
structure Lkw (P : Program) (w : World) (K : PySem.W.Frag) (mg : Str → Option Value) (base : Heap) (x : Str) (k : Nat) (ps ks : List Str) (gV : List V → List V) (sp : Sp) : Prop where
  ex : ∃ (f : Addr) (fd : FuncData) (g : List Value → List Value), FnOk P w K mg base CX0 k f fd ps sp ∧ mg x = some (.ref f) ∧ PySem.W.keepIn K (.ref f) = true ∧ KB K fd ps ks g gV
theorem pe_lkw {X : Cx} {k : Nat} {ps ks : List Str} {sp : Sp} {x : Str} {p pos : Pos} {tk : TA} {kws : List Keyword} {gV : List V → List V} (L : Lkw X.prog X.w X.K X.mg X.base x k ps ks gV sp) (hr : Room k X.A) (hg : Gl X x) (hkw : PK X kws tk)
    (hall : (backToKw pos (keywordEach kws X.env)).all (·.1.isSome) = true := by rfl) (hks : (backToKw pos (keywordEach kws X.env)).filterMap (·.1) = ks := by rfl)
    (hdb : (x == ("__debug__" : Str)) = false := by decide)
    (hpl : ((backTo pos (starEach [] X.env)).any (·.1) || (backToKw pos (keywordEach kws X.env)).any (·.1.isNone)) = false := by rfl) :
    PE X (.Call (.Name x p) [] kws pos) (tCallKw sp gV tk) := by
  obtain ⟨f, fd, g, F, hm, hk, hb⟩ := L.ex
  exact pe_kw0 F hr hg hm hk hb hkw hall hks hdb hpl
theorem x_kw {σ : SS} {H : Hp} {Q : VK} {sp : Sp} {gV : List V → List V} {tk : TA} (q : tk σ H fun zs H1 => sp (gV zs) H1 Q E0) : tCallKw sp gV tk σ H Q := q
theorem op_catAK {X : Cx} {K : PySem.W.Frag} (e : X.K = K := by rfl) : OpR X (binaryOp .Add) (rCatA K) := e ▸ op_catA
theorem op_isN1K : True := trivial

/-! ### max(ints, default=d) -/
section
variable {prog : Program} {w : World} {A : Around} {E : Value → Shared → Prop} {R : Result → Shared → Prop} {I : Addr} {fp wr : List Addr} {G : Array GenState → Array GenState → Prop} {n : Nat} {P : Nat → Value → Prop} {St : Nat → Shared → Prop}
theorem maxkw_turns (kw : List (Str × Value)) (W : WalksS prog w A.in1 I fp wr G n P St) (bt : Nat → Nat → Bool) (hcmp : CmpOf prog w A.in1 .Gt P bt) (S : Addr) (hSf : S ∉ fp) :
    ∀ (k j : Nat) (s : Shared) (vb : Value) (c : Nat), n - (j + 1) = k → j + 1 ≤ n → St (j + 1) s → P (argBest bt j) vb → s.heap.get? S = some { cls := .type "list", dict := none, data := .seq #[vb, vb] c, slots := #[] } →
      (∀ v s', P (argBest bt (n - 1)) v → Moved (S :: wr) G s s' → R (.ok (.ret v)) s') → codeAny (model prog w) A (.builtin "max.loop" ⟨[.ref I, .none, .ref S], kw⟩) R s := by
  have nm : (toString "max" ++ toString ".loop" : String) = "max.loop" := by decide
  have w1 : S ∉ wr := fun h => hSf (W.sub _ h)
  have w2 : ∀ b ∈ wr, b ∈ S :: wr := fun b hb => List.mem_cons_of_mem _ hb
  have w3 : ∀ {b : Addr}, b ∉ S :: wr → S ≠ b := fun hb h => hb (h ▸ List.mem_cons_self)
  intro k
  induction k with
  | zero =>
    intro j s vb c hk hj hst hPb hS hR
    obtain rfl : j + 1 = n := by omega
    refine codeAny_builtin PySem.F.entry_max_loop ?_
    rw [Around.under_plainId PySem.F.plain_max_loop _]; show wpAny _ A.in1 (seqItems? (.ref S) >>= _) _ _ s
    refine wpAny_bind (wpAny_seqItems hS rfl ?_); show wpAny _ A.in1 (tryCatch (pyNext (.ref I)) _ >>= _) _ _ s
    refine wpAny_bind (wpAny_tryCatch (W.done s _ _ hst fun s' hm => ?_))
    have hS' := hm.heap S _ w1 hS
    show wpAny _ A.in1 (updateSeq S (fun _ => (#[] : Array Value)) >>= _) _ _ _
    refine wpAny_bind (wpAny_updateSeq hS' rfl (wpAny_bind (wpAny_letGo (wpAny_pure (hR vb _ hPb ?_)))))
    exact (hm.mono w2).then_heap (tk := s'.toks) (Nat.le_refl _) fun b o hb e => (Heap.get?_update_other _ _ (w3 hb)).trans e
  | succ k ih =>
    intro j s vb c hk hj hst hPb hS hR
    have hlt : j + 1 < n := by omega
    refine codeAny_builtin PySem.F.entry_max_loop ?_
    rw [Around.under_plainId PySem.F.plain_max_loop _]; show wpAny _ A.in1 (seqItems? (.ref S) >>= _) _ _ s
    refine wpAny_bind (wpAny_seqItems hS rfl ?_); show wpAny _ A.in1 (tryCatch (pyNext (.ref I)) _ >>= _) _ _ s
    refine wpAny_bind (wpAny_tryCatch (W.item (j + 1) s _ _ hlt hst fun v s' hP hst' hm => ?_))
    have hS' := hm.heap S _ w1 hS
    show wpAny _ A.in1 (tryCatch (holding [v, v] (richCompare .Gt v vb >>= _)) _ >>= _) _ _ _
    refine wpAny_bind (wpAny_tryCatch (wpAny_holding (wpAny_bind (hcmp (j + 1) (argBest bt j) v vb _ _ _ hP hPb ?_)))); refine wpAny_bind (wpAny_holding (wpAny_truthy_bool ?_))
    refine wpAny_bind (wpAny_letGo (wpAny_pure ?_))
    cases hb : bt (j + 1) (argBest bt j) with
    | true =>
      simp only [if_true]
      refine wpAny_bind (wpAny_updateSeq hS' rfl (wpAny_bind (wpAny_letGo ?_))); rw [nm]
      have far : ∀ {b : Addr}, b ∉ fp → True := fun _ => trivial
      refine wpAny_pure ⟨plainId_quiet PySem.F.plain_max_loop _, ih (j + 1) _ v _ (by omega) hlt (W.frame _ s' _ s'.toks hst' (Nat.le_refl _) fun b hbf o e => (Heap.get?_update_other _ _ (fun h : S = b => hSf (h ▸ hbf))).trans e) (by simp only [argBest, hb, if_true]; exact hP) (Heap.get?_update_self _ hS' rfl) fun v' s'' hP' hm'' => hR v' s'' hP' (Moved.trans W.gtrans ((hm.mono w2).then_heap (Nat.le_refl _) fun b o hb e => (Heap.get?_update_other _ _ (w3 hb)).trans e) hm'')⟩
    | false =>
      simp only [Bool.false_eq_true, if_false]
      refine wpAny_bind (wpAny_letGo ?_); rw [nm]
      exact wpAny_pure ⟨plainId_quiet PySem.F.plain_max_loop _, ih (j + 1) _ vb c (by omega) hlt hst' (by simp only [argBest, hb, Bool.false_eq_true, if_false]; exact hPb) hS' fun v' s'' hP' hm'' => hR v' s'' hP' (Moved.trans W.gtrans (hm.mono w2) hm'')⟩
/-- the first turn, none or one -/
theorem maxkw_first {d : Value} (W : WalksS prog w A.in1 I fp wr G n P St) (bt : Nat → Nat → Bool) (hcmp : CmpOf prog w A.in1 .Gt P bt) (S : Addr) (hSf : S ∉ fp) {s : Shared} {c : Nat} (hst : St 0 s) (hS : s.heap.get? S = some { cls := .type "list", dict := none, data := .seq #[] c, slots := #[] })
    (h0 : n = 0 → ∀ s', Moved (S :: wr) G s s' → R (.ok (.ret d)) s') (h1 : 0 < n → ∀ v s', P (argBest bt (n - 1)) v → Moved (S :: wr) G s s' → R (.ok (.ret v)) s') :
    codeAny (model prog w) A (.builtin "max.loop" ⟨[.ref I, .none, .ref S], [("default", d)]⟩) R s := by
  have nm : (toString "max" ++ toString ".loop" : String) = "max.loop" := by decide
  have w1 : S ∉ wr := fun h => hSf (W.sub _ h)
  have w2 : ∀ b ∈ wr, b ∈ S :: wr := fun b hb => List.mem_cons_of_mem _ hb
  have w3 : ∀ {b : Addr}, b ∉ S :: wr → S ≠ b := fun hb h => hb (h ▸ List.mem_cons_self)
  refine codeAny_builtin PySem.F.entry_max_loop ?_
  rw [Around.under_plainId PySem.F.plain_max_loop _]; show wpAny _ A.in1 (seqItems? (.ref S) >>= _) _ _ s
  refine wpAny_bind (wpAny_seqItems hS rfl ?_); show wpAny _ A.in1 (tryCatch (pyNext (.ref I)) _ >>= _) _ _ s
  by_cases hn : 0 < n
  · refine wpAny_bind (wpAny_tryCatch (W.item 0 s _ _ hn hst fun v s' hP hst' hm => ?_))
    have hS' := hm.heap S _ w1 hS
    show wpAny _ A.in1 (updateSeq S (fun _ => #[v, v]) >>= _) _ _ _
    refine wpAny_bind (wpAny_updateSeq hS' rfl ?_); rw [nm]
    refine wpAny_pure ⟨plainId_quiet PySem.F.plain_max_loop _, maxkw_turns _ W bt hcmp S hSf _ 0 _ v _ rfl hn (W.frame _ s' _ s'.toks hst' (Nat.le_refl _) fun b hbf o e => (Heap.get?_update_other _ _ (fun h : S = b => hSf (h ▸ hbf))).trans e) hP (Heap.get?_update_self _ hS' rfl) fun v' s'' hP' hm'' => h1 hn v' s'' hP' ?_⟩
    exact Moved.trans W.gtrans ((hm.mono w2).then_heap (Nat.le_refl _) fun b o hb e => (Heap.get?_update_other _ _ (w3 hb)).trans e) hm''
  · obtain rfl : n = 0 := by omega
    refine wpAny_bind (wpAny_tryCatch (W.done s _ _ hst fun s' hm => ?_))
    refine wpAny_bind (wpAny_rule ?_)
    exact wpAny_pure (h0 rfl s' (hm.mono w2))
theorem maxd_args (a v : Value) : argsOk "max" ⟨[a], [(Str.ofString "default", v)]⟩ := by unfold argsOk; kernel_rfl
theorem max_dflt {l : Addr} {its : List Value} {ns : List Int} {d : Value} {s : Shared} {Q : Value → Shared → Prop} (hh : A.handled = none) (hl : s.heap.IsList l its.toArray) (hi : IntsAre its ns)
    (h0 : ns = [] → ∀ h' tk, (∀ b o, s.heap.get? b = some o → h'.get? b = some o) → Q d { s with heap := h', toks := tk })
    (h1 : ∀ h' tk m t', (∀ b o, s.heap.get? b = some o → h'.get? b = some o) → m ∈ ns → (∀ a, a ∈ ns → a ≤ m) → Q (.int m t') { s with heap := h', toks := tk }) :
    wpAny (model prog w) A (call (.builtin "max") [.ref l] [(Str.ofString "default", d)]) Q E s := by
  obtain ⟨xs, e⟩ := hi.allInts.items
  have hn : numsOf (intItems xs).toList = ns := e ▸ hi.numsOf
  rw [nums_intItems] at hn
  subst hn
  rw [e] at hl
  have nm : (toString "max" ++ toString ".loop" : String) = "max.loop" := by decide
  refine kmb_tree PySem.F.kind_max PySem.F.plain_max PySem.F.entry_max (maxd_args _ _) ?_
  show wpAny _ A.in1 (Builtin.Builtins.bindParams "max" ["key", "default"] 0 ⟨[], [(Str.ofString "default", d)]⟩ >>= _) _ _ s
  refine wpAny_bind (wpAny_of_eq (show Builtin.Builtins.bindParams "max" ["key", "default"] 0 ⟨[], [(Str.ofString "default", d)]⟩ = pure [none, some d] from rfl) ?_)
  refine wpAny_bind (wpAny_pure (wpAny_bind ?_))
  refine PySem.iter_intList hl fun s2 e2 st hfp hlI => ?_
  subst e2
  refine wpAny_bind (wpAny_newObj_type ?_); rw [nm]
  have W := Walks.list (prog := prog) (w := w) (A := A.in1) hh s.heap.objs.size l hlI (intItems xs)
  have hsz : (s.heap.push { cls := .type "list_iterator", data := .fields #[.ref l, .int 0 0] }).objs.size = s.heap.objs.size + 1 := Heap.size_push ..
  have hSf : (s.heap.push { cls := .type "list_iterator", data := .fields #[.ref l, .int 0 0] }).objs.size ∉ [s.heap.objs.size, l] := fun hm => Nat.lt_irrefl _ (hfp _ hm)
  have hlen : (intItems xs).size = xs.size := by simp [intItems]
  have off : ∀ {b : Addr} {o : Obj}, s.heap.get? b = some o → b ∉ [(s.heap.push { cls := .type "list_iterator", data := .fields #[.ref l, .int 0 0] }).objs.size, s.heap.objs.size] := fun {b o} q hm => by
    have hlt : b < s.heap.objs.size := Heap.lt_size q
    rw [hsz] at hm
    rcases List.mem_cons.mp hm with z | z
    · exact absurd hlt (by rw [z]; exact Nat.not_lt.mpr (Nat.le_succ _))
    · exact absurd hlt (by rw [List.mem_singleton.mp z]; exact Nat.lt_irrefl _)
  refine wpAny_pure ⟨plainId_quiet PySem.F.plain_max_loop _, maxkw_first W.toS _ (CmpOf.ints_gt (numAt xs) (fun _ _ => intItems_at)) _ hSf (W.toS.frame 0 _ _ s.toks st (Nat.le_refl _) fun b _ o q => Heap.get?_push_of_some _ q) (Heap.get?_push_size _ rfl) (fun hz s' hm => ?_) (fun hz v s' hP hm => ?_)⟩
  · rw [Moved.eq_with hm]
    exact h0 (by rw [hlen] at hz; rw [Array.eq_empty_of_size_eq_zero hz]; rfl) s'.heap s'.toks fun b o q => hm.heap b o (off q) (Heap.get?_push_of_some _ (Heap.get?_push_of_some _ q))
  · rw [Moved.eq_with hm]
    have hne : 0 < xs.size := by rwa [hlen] at hz
    have hP : (intItems xs)[argBest (fun i j => decide (numAt xs i > numAt xs j)) (xs.size - 1)]? = some v := by simpa [intItems] using hP
    obtain ⟨t, rfl⟩ := intItems_at hP
    obtain ⟨g1, g2⟩ := argBest_gt (numAt xs) (xs.size - 1)
    refine h1 s'.heap s'.toks _ t (fun b o q => hm.heap b o (off q) (Heap.get?_push_of_some _ (Heap.get?_push_of_some _ q))) ?_ fun a ha => ?_
    · rw [numAt_eq]
      exact PySem.getD_mem (by rw [List.length_map, Array.length_toList]; omega)
    · obtain ⟨j, hj, rfl⟩ := mem_getD ha
      rw [List.length_map, Array.length_toList] at hj
      exact numAt_eq xs j ▸ g2 j (by omega)
end
section
variable {X : Cx}
def rMaxD (K : PySem.W.Frag) : List V → List V → Hp → VK → Prop := fun xs zs H Q => ∃ (a : Addr) (ns : List Int) (d : Int), xs = [.ref a] ∧ zs = [.int d] ∧ SqL K H a (ns.map V.int) ∧ (ns = [] → Q (.int d) H) ∧ ∀ m, m ∈ ns → (∀ b, b ∈ ns → b ≤ m) → Q (.int m) H
theorem cr_maxD (hc : X.calm = true) : CallRK X (.builtin "max") [Str.ofString "default"] (rMaxD X.K) := by
  intro pins s σ H xs zs us ws Q I r rz h
  obtain ⟨a, ns, d, rfl, rfl, hs, q0, q1⟩ := h
  obtain ⟨its, rv, hl, _⟩ := I.list hs
  obtain ⟨u, rfl, ru⟩ := vals1 rz
  rw [Vals.ref1 r]
  exact max_dflt (I.ok.hd hc) hl.isList rv.ints (fun e h' tk hk => ⟨.int d, H, I.kept hk, ru, q0 e⟩) fun h' tk m t' hk h1 h2 => ⟨.int m, H, I.kept hk, ⟨_, rfl⟩, q1 m h1 h2⟩
end

/-! ### own classes -/
/-- a method, by its promise (self first) -/
structure Lm (P : Program) (w : World) (K : PySem.W.Frag) (mg : Str → Option Value) (base : Heap) (C : Addr) (m : Str) (k : Nat) (ps : List Str) (sp : Sp) : Prop where
  ex : ∃ (f : Addr) (fd : FuncData), FnOk P w K mg base CX0 k f fd ps sp ∧ Meth K C m f ∧ Binds K fd ps []
/-- a class that is made, by its __init__'s promise -/
structure Ln (P : Program) (w : World) (K : PySem.W.Frag) (mg : Str → Option Value) (base : Heap) (C : Addr) (x : Str) (k : Nat) (ps : List Str) (sp : Sp) : Prop where
  ex : ∃ (f : Addr) (fd : FuncData), FnOk P w K mg base CX0 k f fd ps sp ∧ Mk K C f ∧ mg x = some (.ref C) ∧ Binds K fd ps []
section
variable {X : Cx} {k : Nat} {C : Addr} {m x : Str} {ps : List Str} {sp : Sp} {o e : Expr} {es : List Expr} {apos p pos : Pos} {ta : TE} {t : TA}
theorem pe_lm {pl : Sem Bool} (L : Lm X.prog X.w X.K X.mg X.base C m k ps sp) (c : Cls X.K C) (hr : Room k X.A) (ho : PE X o ta) (ha : PA X (e :: es) t)
    (hst : starEach (e :: es) X.env = (false, eval e X.env) :: starEach es X.env := by rfl) (hpl : (backTo pos (starEach es X.env)).any (·.1) = false := by rfl)
    (ht : eval (.Call (.Attribute o m apos) (e :: es) [] pos) X.env = (do let ov ← eval o X.env; standAt apos.atName; let (f, first) ← holding [ov] (getMethod ov m pl); callWith pos f first (backTo pos (starEach (e :: es) X.env)) (backToKw pos (keywordEach [] X.env))) := by rfl) :
    PE X (.Call (.Attribute o m apos) (e :: es) [] pos) (tMeth C m sp [] E0 ta t) := by
  obtain ⟨f, fd, F, hm, hb⟩ := L.ex
  exact pe_meth (pl := pl) ho c hm F hr hb .nil pass0 ha hst hpl ht
theorem pe_lm0 {pl : Sem Bool} (L : Lm X.prog X.w X.K X.mg X.base C m k ps sp) (c : Cls X.K C) (hr : Room k X.A) (ho : PE X o ta)
    (ht : eval (.Call (.Attribute o m apos) [] [] pos) X.env = (do let ov ← eval o X.env; standAt apos.atName; let (f, first) ← holding [ov] (getMethod ov m pl); callWith pos f first (backTo pos (starEach [] X.env)) (backToKw pos (keywordEach [] X.env))) := by rfl) :
    PE X (.Call (.Attribute o m apos) [] [] pos) (tMeth C m sp [] E0 ta tNil) := by
  obtain ⟨f, fd, F, hm, hb⟩ := L.ex
  exact pe_meth0 (pl := pl) ho c hm F hr hb .nil pass0 ht
theorem pe_ln (L : Ln X.prog X.w X.K X.mg X.base C x k ps sp) (hr : Room (k + 1) X.A) (hg : Gl X x) (ha : PA X (e :: es) t) (hdb : (x == ("__debug__" : Str)) = false := by decide)
    (he : starEach (e :: es) X.env = (false, eval e X.env) :: starEach es X.env := by rfl) (hpl : (backTo pos (starEach es X.env)).any (·.1) = false := by rfl) : PE X (.Call (.Name x p) (e :: es) [] pos) (tMake C sp [] E0 t) := by
  obtain ⟨f, fd, F, hm, hg2, hb⟩ := L.ex
  exact pe_make hm F hr hg hg2 hb .nil pass0 ha hdb he hpl
end
section
variable {K : PySem.W.Frag} {σ : SS} {H : Hp} {Q : VK} {nx bk ct : SS → Hp → Prop} {rt : VK} {C a dx : Addr} {fs : List (Str × V)} {f m : Str} {v : V} {ta te : TE} {t tk : TA} {sp : Sp}
theorem x_meth (q : ta σ H fun x H1 => ∃ a dx fs, x = .ref a ∧ H1 a = some (.ins C dx fs) ∧ fs.lookup m = none ∧ t σ H1 fun vs H2 => sp (x :: (vs ++ [])) H2 Q E0) : tMeth C m sp [] E0 ta t σ H Q := q
theorem x_insM {R : Prop} (h : H a = some (.ins C dx fs)) (l : fs.lookup m = none) (q : R) : ∃ a' dx' fs', V.ref a = .ref a' ∧ H a' = some (.ins C dx' fs') ∧ List.lookup m fs' = none ∧ R := ⟨a, dx, fs, rfl, h, l, q⟩
theorem x_fld (q : ta σ H fun x H1 => ∃ a C dx fs v, x = .ref a ∧ H1 a = some (.ins C dx fs) ∧ Cls K C ∧ NoAttr K C f ∧ fs.lookup f = some v ∧ Q v H1) : tFld K ta f σ H Q := q
theorem x_insF {R : V → Prop} (h : H a = some (.ins C dx fs)) (c : Cls K C) (n : NoAttr K C f) (l : fs.lookup f = some v) (q : R v) : ∃ a' C' dx' fs' v', V.ref a = .ref a' ∧ H a' = some (.ins C' dx' fs') ∧ Cls K C' ∧ NoAttr K C' f ∧ List.lookup f fs' = some v' ∧ R v' :=
  ⟨a, C, dx, fs, v, rfl, h, c, n, l, q⟩
theorem x_sfld (q : te σ H fun y H1 => ta σ H1 fun x H2 => ∃ a C dx fs, x = .ref a ∧ H2 a = some (.ins C dx fs) ∧ Cls K C ∧ NoAttr K C f ∧ fs.length < 1000 ∧ nx σ (upd H2 a (.ins C dx (putF f y fs)))) : sFld K ta te f ⟨nx, rt, bk, ct⟩ σ H := q
theorem x_make (q : t σ H fun vs H1 => ∀ x dx, H1 x = none → H1 dx = none → dx ≠ x → sp (.ref x :: (vs ++ [])) (upd (upd H1 dx (.own x)) x (.ins C dx [])) (fun v H2 => v = .non ∧ Q (.ref x) H2) E0) : tMake C sp [] E0 t σ H Q := q
theorem x_ckw {r : List V → List V → Hp → VK → Prop} (q : t σ H fun vs H1 => tk σ H1 fun zs H2 => r vs zs H2 Q) : tCKw r t tk σ H Q := q
theorem x_maxD {ns : List Int} {d : Int} (h : SqL K H a (ns.map V.int)) (q0 : ns = [] → Q (.int d) H) (q1 : ∀ m, m ∈ ns → (∀ b, b ∈ ns → b ≤ m) → Q (.int m) H) : rMaxD K [.ref a] [.int d] H Q := ⟨a, ns, d, rfl, rfl, h, q0, q1⟩
/-- a range with a step -/
theorem x_iR3 {R : It → Hp → Prop} (q : t σ H fun vs H1 => ∃ (i j c : Int) (n : Nat), vs = [.int i, .int j, .int c] ∧ RgC i j c n ∧ R (Itc i c n) H1) : iRng3 t σ H R := q
theorem y_forDown {g : TG} {tb : TS} {i : Int} (h0 : -1 ≤ i) (h1 : i < 1000000) (q : AskF (i + 1).toNat (fun _ => True) (YFn fun k => .int (i + (k : Nat) * (-1))) g tb nx rt σ H) :
    ∃ (i' j c : Int) (n : Nat), [V.int i, V.int (-1), V.int (-1)] = [.int i', .int j, .int c] ∧ RgC i' j c n ∧ WF (Itc i' c n) g tb nx rt σ H := by
  refine ⟨i, -1, -1, (i + 1).toNat, rfl, ?_, askF walk_rangeC q⟩
  have := RgC.neg (i := i) (j := -1) (by omega) (by omega) (by decide) (by decide)
  rwa [show (i - -1) = i + 1 by omega] at this
end
theorem iteP {c : Bool} {A B : Prop} (h : c = true) (q : A) : if c = true then A else B := by rw [if_pos h]; exact q
theorem iteN {c : Bool} {A B : Prop} (h : c = false) (q : B) : if c = true then A else B := by rw [h]; exact q
section
variable {K : PySem.W.Frag} {σ : SS} {H : Hp} {Q : VK} {x y : V} {ta tb tc : TE} {r r' : R2} {QB : Bool → Hp → Prop}
theorem x_chain (q : ta σ H fun x H1 => tb σ H1 fun y H2 => r x y H2 fun z H3 => ∃ k, z = .bl k ∧ (if k = true then tc σ H3 fun w' H4 => r' y w' H4 Q else Q (.bl false) H3)) : tChain r r' ta tb tc σ H Q := q
theorem x_isi {n : String} {t : Value} {b : Bool} (ty : TyX K H x t) (k : PySem.W.kitOne K t (.type n) = some b) (q : Q (.bl b) H) : rIsi K [x, .ty n] H Q := ⟨x, .ty n, t, .type n, b, rfl, .ty n, ty, k, q⟩
theorem x_isiII {i : Int} (q : Q (.bl true) H) : rIsi K [.int i, .ty "int"] H Q := x_isi (.base (.int i)) (kit_ty (by decide +kernel)) q
theorem x_isiIB {i : Int} (q : Q (.bl false) H) : rIsi K [.int i, .ty "bool"] H Q := x_isi (.base (.int i)) (kit_ty (by decide +kernel)) q
end
section
variable {K : PySem.W.Frag} {σ : SS} {H : Hp} {Q : VK} {QS : SS → Hp → Prop} {nx bk ct : SS → Hp → Prop} {rt : VK} {s1 s2 : TS} {ta tb : TE} {tA : TA} {a b : Addr} {xs : List V} {ds : List PyData}
theorem x_par3 {i j l : Nat} (q : tA σ H fun vs H1 => ∃ u v w, vs = [u, v, w] ∧ nx (((σ.set i (some u)).set j (some v)).set l (some w)) H1) : tPar3 i j l tA ⟨nx, rt, bk, ct⟩ σ H := q
theorem x_three {R : V → V → V → Prop} {x y z : V} (q : R x y z) : ∃ u v w, [x, y, z] = [u, v, w] ∧ R u v w := ⟨x, y, z, rfl, q⟩
theorem x_orT (q : ta σ H fun x H1 => ∃ k, TruV K x H1 k ∧ if k = true then Q x H1 else tb σ H1 Q) : tOrT K ta tb σ H Q := q
theorem x_truN {R : Bool → Prop} (q : R false) : ∃ k, TruV K .non H k ∧ R k := ⟨false, rfl, q⟩
theorem x_truT {R : Bool → Prop} (h : SqT K H a xs) (q : R (!xs.isEmpty)) : ∃ k, TruV K (.ref a) H k ∧ R k := ⟨_, .inr (.inl ⟨xs, h, rfl⟩), q⟩
theorem x_glst {m : Nat} {u : TGs} (h : SqL K H a xs) (l : xs.length = m) (q : u xs σ H QS) : gLst K m u (.ref a) σ H QS := ⟨a, xs, rfl, h, l, q⟩
/-- a part of a block that may end in more than one way: what comes behind it, once -/
theorem x_seqG (P : SS → Hp → Prop) (q : ∀ G : SS → Hp → Prop, (∀ σ H, P σ H → G σ H) → s1 ⟨G, rt, bk, ct⟩ σ H) (r : ∀ σ H, P σ H → s2 ⟨nx, rt, bk, ct⟩ σ H) : tSeq s1 s2 ⟨nx, rt, bk, ct⟩ σ H := q _ r
theorem eqv_nil (ds : List PyData) : PyData.eqv (.list ds) (.list []) = ds.isEmpty := by
  cases ds <;> rfl
theorem x_neNilD (h : SqL K H a xs) (hd : DpAll K H xs ds) (sh : SeqAt.shaped (.list ds) = true) (hb : SqL K H b []) (q : Q (.bl (!ds.isEmpty)) H) : rNeD K (.ref a) (.ref b) H Q := ⟨.list ds, .list [], .lst h hd, .lst hb .nil, sh, by decide, by rw [eqv_nil]; exact q⟩
theorem x_eqNilD (h : SqL K H a xs) (hd : DpAll K H xs ds) (sh : SeqAt.shaped (.list ds) = true) (hb : SqL K H b []) (q : Q (.bl ds.isEmpty) H) : rEqD K (.ref a) (.ref b) H Q := ⟨.list ds, .list [], .lst h hd, .lst hb .nil, sh, by decide, by rw [eqv_nil]; exact q⟩
theorem x_catL {ys : List V} (h : H a = some (.lst xs)) (h2 : H b = some (.lst ys)) (z : xs.length + ys.length ≤ sizeLine) (q : ∀ p, H p = none → Q (.ref p) (upd H p (.lst (xs ++ ys)))) : rCat (.ref a) (.ref b) H Q := ⟨a, b, xs, ys, rfl, rfl, h, h2, z, q⟩
end

/-! ### the rules that speak of X.K, with K told from outside -/
section
variable {X : Cx} {K : PySem.W.Frag}
theorem op_eqDK (hu : X.A.units + 64 < cLine) (e : X.K = K := by rfl) : OpR X (compareOp .Eq) (rEqD K) := e ▸ op_eqD hu
theorem op_neDK (hu : X.A.units + 64 < cLine) (e : X.K = K := by rfl) : OpR X (compareOp .NotEq) (rNeD K) := e ▸ op_neD hu
end
section
variable {X : Cx} {K : PySem.W.Frag} {o e : Expr} {es : List Expr} {to : TE} {t : TA} {name : Str} {apos cpos : Pos} {T id : String} {r : V → List V → Hp → VK → Prop}
theorem pe_bmK (pa : PlainAttrs T) (slot : Slot T name id) (hty : typeOf (.builtin id) = pure (.type "method_descriptor")) (hm : MtR X id r) (ho : PE X o to) (ha : PA X (e :: es) t) (eK : X.K = K := by rfl)
    (hbase : attributeBase o name X.env (eval o X.env) = eval o X.env := by rfl)
    (hfew : ((backTo cpos (starEach (e :: es) X.env)).all (fun x => !x.1) && (backToKw cpos (keywordEach [] X.env)).all (fun x => x.1.isSome)
      && decide ((e :: es).length + ([] : List Keyword).length + (if ([] : List Keyword).isEmpty then 0 else 1) < 30)) = true := by rfl)
    (hline : (apos.endLine == cpos.line) = true := by rfl) (hs : starEach (e :: es) X.env = (false, eval e X.env) :: starEach es X.env := by rfl) (hplain : (backTo cpos (starEach es X.env)).any (·.1) = false := by rfl) :
    PE X (.Call (.Attribute o name apos) (e :: es) [] cpos) (tBM K T r to t) := eK ▸ pe_bm pa slot hty hm ho ha hbase hfew hline hs hplain
theorem pe_bm0K (pa : PlainAttrs T) (slot : Slot T name id) (hty : typeOf (.builtin id) = pure (.type "method_descriptor")) (hm : MtR X id r) (ho : PE X o to) (eK : X.K = K := by rfl)
    (hbase : attributeBase o name X.env (eval o X.env) = eval o X.env := by rfl) (hline : (apos.endLine == cpos.line) = true := by rfl) : PE X (.Call (.Attribute o name apos) [] [] cpos) (tBM0 K T r to) := eK ▸ pe_bm0 pa slot hty hm ho hbase hline
end
/-! ### all that is no list is kept -/
def Kt (H H' : Hp) : Prop := ∀ b o, H b = some o → (∀ xs, o ≠ .lst xs) → H' b = some o
theorem Kt.refl (H : Hp) : Kt H H := fun _ _ h _ => h
theorem Kt.trans {H H1 H2 : Hp} (a : Kt H H1) (b : Kt H1 H2) : Kt H H2 := fun c o h n => b c o (a c o h n) n
theorem Kt.of {S : List Addr} {H H' : Hp} (k : Kx S H H') (h : ∀ q ∈ S, ∃ xs, H q = some (.lst xs)) : Kt H H' := fun b o e n => by
  refine k b o (fun z => ?_) e
  obtain ⟨xs, hq⟩ := h b z
  rw [e] at hq
  exact n xs (Option.some.inj hq)
theorem Kt.of0 {H H' : Hp} (k : Kx [] H H') : Kt H H' := fun b o e _ => k b o (by simp) e
theorem Kt.of1 {H H' : Hp} {p : Addr} (k : Kx [p] H H') {xs : List V} (h : H p = some (.lst xs)) : Kt H H' := Kt.of k fun q hq => by rw [List.mem_singleton.mp hq]; exact ⟨xs, h⟩
theorem Kt.wr {H H' : Hp} {q : Addr} {o : HO} (k : Kt H H') {xs : List V} (h : H' q = some (.lst xs)) : Kt H (upd H' q o) := fun b u e n => by
  have e2 := k b u e n
  by_cases hb : b = q
  · subst hb
    rw [h] at e2
    exact absurd (Option.some.inj e2).symm (n xs)
  · rw [upd_ne hb]
    exact e2
theorem Kt.new {H H' : Hp} {q : Addr} {o : HO} (k : Kt H H') (h : H' q = none) : Kt H (upd H' q o) := fun b u e n => lk_ne (k b u e n) h
theorem Kt.sqT {K : PySem.W.Frag} {H H' : Hp} {a : Addr} {xs : List V} (k : Kt H H') (h : SqT K H a xs) : SqT K H' a xs := by
  rcases h with (h | ⟨o, h⟩) | h
  · exact .inl (.inl (k _ _ h (by intro ys z; cases z)))
  · exact .inl (.inr ⟨o, k _ _ h (by intro ys z; cases z)⟩)
  · exact .inr h
theorem Kx.cmb {S : List Addr} {H H1 H2 : Hp} {Z : Addr} (a : Kx S H H1) (b : Kx [Z] H1 H2) (n : H Z = none) : Kx S H H2 := fun q o hq h =>
  b q o (fun z => by rw [List.mem_singleton.mp z, n] at h; cases h) (a q o hq h)
/-! ### numbers -/
def oV : Option Nat → V
  | none => .non
  | some n => .int (n : Int)
def oD : Option Nat → PyData
  | none => .none
  | some n => .int (n : Int)
theorem dp_o {K : PySem.W.Frag} {H : Hp} : ∀ o : Option Nat, Dp K H (oV o) (oD o)
  | none => .non
  | some n => .int n
theorem dp_os {K : PySem.W.Frag} {H : Hp} : ∀ l : List (Option Nat), DpAll K H (l.map oV) (l.map oD)
  | [] => .nil
  | o :: r => .cons (dp_o o) (dp_os r)
theorem good_os {l : List (Option Nat)} (h : ∀ o ∈ l, ∀ n, o = some n → n < 10 ^ 9) (hl : l.length ≤ 40) : Good (.tuple (l.map oD)) 1 (40 * 32) := by
  refine Good.tuple (k := 0) (w := 31) (n := 40) ?_ (by rw [List.length_map]; exact hl)
  intro d hd
  obtain ⟨o, ho, rfl⟩ := List.mem_map.mp hd
  cases o with
  | none => exact Good.none.mono (Nat.le_refl _) (by decide)
  | some n =>
    have := h _ ho n rfl
    exact Good.int (by omega)
abbrev natV (l : List Nat) : List V := l.map fun (n : Nat) => V.int (n : Int)
theorem natV_get {l : List Nat} {i n : Nat} (h : l[i]? = some n) : (natV l)[i]? = some (V.int (n : Int)) := by
  unfold natV
  rw [List.getElem?_map, h]
  rfl
theorem natV_at {l : List Nat} {i n : Nat} (h : l[i]? = some n) : atI (natV l) (i : Int) = some (.int (n : Int)) := atI_nat (natV_get h)
theorem natV_int (l : List Nat) : natV l = (l.map fun (n : Nat) => (n : Int)).map V.int := by
  unfold natV
  rw [List.map_map]
  rfl
theorem natV_len (l : List Nat) : (natV l).length = l.length := List.length_map ..
theorem cast_back {N : Nat} : ∀ {zs : List Int}, (∀ z ∈ zs, z ∈ (List.range N).map fun (i : Nat) => (i : Int)) → natV (zs.map Int.toNat) = zs.map V.int
  | [], _ => rfl
  | z :: r, h => by
    obtain ⟨m, _, e⟩ := List.mem_map.mp (h z List.mem_cons_self)
    have ih := cast_back (zs := r) fun y hy => h y (List.mem_cons_of_mem _ hy)
    unfold natV at ih ⊢
    rw [List.map_cons, List.map_cons, List.map_cons, ih, ← e]
    rfl
theorem perm_nat {zs : List Int} {N : Nat} (h : zs.Perm ((List.range N).map fun (i : Nat) => (i : Int))) : ∃ ns : List Nat, zs.map V.int = natV ns ∧ ns.Perm (List.range N) := by
  refine ⟨zs.map Int.toNat, (cast_back fun z hz => h.mem_iff.mp hz).symm, ?_⟩
  have e := h.map Int.toNat
  rw [List.map_map] at e
  have e2 : (List.range N).map (Int.toNat ∘ fun (i : Nat) => (i : Int)) = List.range N := by
    rw [show (Int.toNat ∘ fun (i : Nat) => (i : Int)) = id from funext fun n => Int.toNat_natCast n, List.map_id]
  rwa [e2] at e
theorem rg_nat (N : Nat) : rgV 0 (N : Int) = natV (List.range N) := by
  unfold rgV natV
  rw [show ((N : Int) - 0).toNat = N by omega]
  refine List.map_congr_left fun i _ => ?_
  show V.int (0 + (i : Int)) = V.int i
  rw [Int.zero_add]
theorem erase_nat : ∀ (zs : List Nat) (i : Nat), (natV zs).eraseIdx i = natV (zs.eraseIdx i)
  | [], _ => rfl
  | _ :: _, 0 => rfl
  | z :: r, i + 1 => congrArg (V.int (z : Int) :: ·) (erase_nat r i)
theorem at_i {zs : List Int} {w : Int} (h0 : 0 ≤ w) (h1 : w < zs.length) : ∃ z ∈ zs, zs[w.toNat]? = some z ∧ atI (zs.map V.int) w = some (.int z) := by
  obtain ⟨i, rfl⟩ : ∃ i : Nat, w = i := ⟨w.toNat, by omega⟩
  have hi : i < zs.length := by omega
  have e1 := List.getElem?_eq_getElem hi
  refine ⟨zs[i], List.getElem_mem hi, by simpa using e1, atI_nat ?_⟩
  rw [List.getElem?_map, e1]
  rfl
theorem ix_n {n j : Nat} (hj : j < n) : ixN n (j : Int) = some j := by
  unfold ixN
  rw [if_pos (by omega), if_pos (by omega), Int.toNat_natCast]
theorem erase_perm0 {z : Nat} : ∀ {zs : List Nat} {i : Nat}, zs[i]? = some z → (z :: zs.eraseIdx i).Perm zs
  | [], _, h => by cases h
  | y :: r, 0, h => by
    cases Option.some.inj h
    exact .refl _
  | y :: r, i + 1, h => (List.Perm.swap y z _).trans ((erase_perm0 (zs := r) (i := i) h).cons y)
theorem erase_perm {zs : List Nat} {i : Nat} {z : Nat} (h : zs[i]? = some z) (as : List Nat) : (as ++ [z] ++ zs.eraseIdx i).Perm (as ++ zs) := by
  rw [List.append_assoc]
  exact List.Perm.append_left as (erase_perm0 h)
section
variable {K : PySem.W.Frag} {σ : SS} {H : Hp} {Q : VK} {te : TE} {a : Addr} {xs : List V} {y : V} {i : Nat} {j : Int}
theorem x_revL (q : te σ H fun x H1 => ∃ a xs, x = .ref a ∧ SqL K H1 a xs ∧ ∀ p, H1 p = none → Q (.ref p) (upd H1 p (.lst xs.reverse))) : tRevL K te σ H Q := q
theorem x_revR {R : Addr → List V → Prop} (h : SqL K H a xs) (q : ∀ p, H p = none → R p xs) : ∃ a' ys, V.ref a = .ref a' ∧ SqL K H a' ys ∧ ∀ p, H p = none → R p ys := ⟨a, xs, rfl, h, q⟩
theorem x_popAt (h : H a = some (.lst xs)) (e : j = (i : Int)) (b : i < 1000000) (s : xs[i]? = some y) (q : Q y (upd H a (.lst (xs.eraseIdx i)))) : rPopAt (.ref a) [.int j] H Q := by
  subst e
  have hi := (List.getElem?_eq_some_iff.mp s).1
  exact ⟨a, xs, i, i, y, rfl, rfl, h, by omega, by omega, seqIndex_of (by omega) (by omega), s, q⟩
theorem dp_nats : ∀ l : List Nat, DpAll K H (natV l) (l.map fun (n : Nat) => PyData.int (n : Int))
  | [] => .nil
  | n :: r => .cons (.int n) (dp_nats r)
end
theorem shaped_int2 (p s : Int) : SeqAt.shaped (.tuple [.int p, .int s]) = true := by
  unfold SeqAt.shaped
  simp [PyData.canLay0, PyData.canLayAll0, PyData.depth, PyData.depthAll]
theorem dpAll_i {K : PySem.W.Frag} {H : Hp} : ∀ {vs : List V} {ds : List PyData}, vs.length = ds.length → (∀ (i : Nat) (d : PyData), ds[i]? = some d → ∃ v, vs[i]? = some v ∧ Dp K H v d) → DpAll K H vs ds
  | [], [], _, _ => .nil
  | [], _ :: _, h, _ => by cases h
  | _ :: _, [], h, _ => by cases h
  | v :: vs, d :: ds, h, q => by
    obtain ⟨v', e, hd⟩ := q 0 d rfl
    cases Option.some.inj e
    exact .cons hd (dpAll_i (Nat.succ.inj h) fun i d' hi => q (i + 1) d' hi)

theorem in_nat {n : Nat} (ns : List Nat) : inV (.int (n : Int)) (natV ns) = decide (n ∈ ns) := by
  rw [natV_int, in_int]
  congr 1
  rw [List.mem_map]
  refine propext ⟨?_, fun h => ⟨n, h, rfl⟩⟩
  rintro ⟨m, hm, e⟩
  rwa [← Int.ofNat.inj e]
theorem flat_nats (ns : List Nat) : (natV ns).all flatV = true := by rw [natV_int]; exact flat_ints _
theorem x_neNilN {K : PySem.W.Frag} {H : Hp} {Q : VK} {a b : Addr} {l : List Nat} (h : SqL K H a (natV l)) (hb : SqL K H b []) (q : Q (.bl (!l.isEmpty)) H) : rNeD K (.ref a) (.ref b) H Q := by
  rw [natV_int] at h
  refine x_neNil h hb ?_
  cases l with
  | nil => exact q
  | cons _ _ => exact q
theorem set_range {α : Type} {n j : Nat} {f g : Nat → α} (hj : j < n) (h1 : ∀ i, i ≠ j → g i = f i) : ((List.range n).map f).set j (g j) = (List.range n).map g := by
  refine List.ext_getElem? fun i => ?_
  by_cases e : i = j
  · subst e
    rw [List.getElem?_set_self (by rw [List.length_map, List.length_range]; exact hj), List.getElem?_map, List.getElem?_range hj]
    rfl
  · rw [List.getElem?_set_ne (Ne.symm e), List.getElem?_map, List.getElem?_map]
    cases h : (List.range n)[i]? with
    | none => rfl
    | some k =>
      obtain ⟨h2, h3⟩ := List.getElem?_eq_some_iff.mp h
      rw [List.getElem_range] at h3
      show some (f k) = some (g k)
      rw [h1 k (by omega)]

/-! ### d < e for data that are alike -/
section
variable {X : Cx}
def rLtD (K : PySem.W.Frag) : R2 := fun x y H Q => ∃ d e, Dp K H x d ∧ Dp K H y e ∧ PySem.W.alike d e = true ∧ d ≠ .none ∧ d.depth ≤ 60 ∧ Q (.bl (PySem.W.dataLt d e)) H
theorem op_ltD (hu : X.A.units + 64 < cLine) : OpR X (compareOp .Lt) (rLtD X.K) := by
  intro pins s σ H x y v u Q I rx ry h
  obtain ⟨d, e, hd, he, ha, hn, hdp, q⟩ := h
  obtain ⟨as, r1⟩ := Dp.reads I d x v hd rx
  obtain ⟨bs, r2⟩ := Dp.reads I e y u he ry
  exact PySem.W.lt_data r1 r2 ha hn (by have := Nat.min_le_left d.depth e.depth; omega) ⟨.bl _, H, I, rfl, q⟩
theorem op_ltDK {K : PySem.W.Frag} (hu : X.A.units + 64 < cLine) (e : X.K = K := by rfl) : OpR X (compareOp .Lt) (rLtD K) := e ▸ op_ltD hu
end
section
variable {K : PySem.W.Frag} {H : Hp} {Q : VK} {a b : Addr} {ns ms : List Int}
theorem dataLt_li (ns ms : List Int) : PySem.W.dataLt (.list (ns.map .int)) (.list (ms.map .int)) = decide (ns < ms) := by
  rw [PySem.W.dataLt_list]
  exact PySem.W.dataLt_ints ns ms
theorem dp_li : ∀ cs : List Int, DpAll K H (cs.map V.int) (cs.map PyData.int)
  | [] => .nil
  | z :: r => .cons (.int z) (dp_li r)
theorem depth_li (ns : List Int) : (PyData.list (ns.map PyData.int)).depth = 1 := by
  simp only [PyData.depth, PySem.W.depth_ints]
theorem x_ltI (h : SqL K H a (ns.map V.int)) (h2 : SqL K H b (ms.map V.int)) (q : Q (.bl (decide (ns < ms))) H) : rLtD K (.ref a) (.ref b) H Q :=
  ⟨.list (ns.map .int), .list (ms.map .int), .lst h (dp_li _), .lst h2 (dp_li _), by show PySem.W.alikeAll _ _ = true; exact PySem.W.alike_ints _ _, by simp, by rw [depth_li]; decide, by rw [dataLt_li]; exact q⟩
end
/-! ### sorted(list of data) -/
section
variable {X : Cx}
def sortD (xs : List V) (ds : List PyData) : List V := ((xs.zip ds).mergeSort (PySem.W.dataLe false Prod.snd)).map Prod.fst
def rSortD (K : PySem.W.Frag) : List V → Hp → VK → Prop := fun vs H Q => ∃ (a : Addr) (xs : List V) (ds : List PyData), vs = [.ref a] ∧ SqL K H a xs ∧ DpAll K H xs ds ∧ PySem.W.AllAlike ds ∧ PySem.W.Sortable ds ∧ (∀ d ∈ ds, d.depth ≤ 60) ∧
  ∀ p, H p = none → Q (.ref p) (upd H p (.lst (sortD xs ds)))
theorem dpAll_len {K : PySem.W.Frag} {H : Hp} : ∀ {xs : List V} {ds : List PyData}, DpAll K H xs ds → xs.length = ds.length
  | _, _, .nil => rfl
  | _, _, .cons _ t => congrArg (· + 1) (dpAll_len t)
theorem zip_snd : ∀ {xs : List V} {ds : List PyData}, xs.length = ds.length → (xs.zip ds).map Prod.snd = ds
  | [], [], _ => rfl
  | [], _ :: _, h => by cases h
  | _ :: _, [], h => by cases h
  | x :: xs, d :: ds, h => congrArg (d :: ·) (zip_snd (Nat.succ.inj h))
theorem each_of : ∀ {xs : List V} {us : List Value} {ds : List PyData}, Vals xs us → xs.length = ds.length → PySem.W.EachIs (fun u (b : V × PyData) => RelV b.1 u) us (xs.zip ds)
  | _, _, [], .nil, _ => .nil
  | _, _, _ :: _, .nil, h => by cases h
  | _, _, [], .cons _ _, h => by cases h
  | _, _, d :: ds, .cons r t, h => .cons r (each_of t (Nat.succ.inj h))
theorem vals_each : ∀ {us : List Value} {bs : List (V × PyData)}, PySem.W.EachIs (fun u (b : V × PyData) => RelV b.1 u) us bs → Vals (bs.map Prod.fst) us
  | _, _, .nil => .nil
  | _, _, .cons r t => .cons r (vals_each t)
theorem cr_sortD (hu : X.A.units + 64 < cLine) : CallR X (.builtin "sorted") (rSortD X.K) := by
  intro pins s σ H vs us Q I r h
  obtain ⟨a, xs, ds, rfl, hs, hd, hal, hso, hdep, q⟩ := h
  obtain ⟨its, rv, hl, hz⟩ := I.list hs
  obtain ⟨u, rfl, ru⟩ := vals1 r
  obtain rfl : u = Value.ref a := ru
  have hlen := dpAll_len hd
  obtain ⟨as, hr⟩ := Dp.readsAll I ds xs its hd rv
  have hsnd := zip_snd hlen
  have er : PySem.W.EachIs (fun v (b : V × PyData) => ∃ as, Reads s.heap v b.2 as) its (xs.zip ds) := by
    refine PySem.W.readsAll_each (h := s.heap) Prod.snd (as := as) ?_
    rw [hsnd]
    exact hr
  refine PySem.W.sorted_data (enc := fun b : V × PyData => b.2) (R := fun u (b : V × PyData) => RelV b.1 u) hl.isList (each_of rv hlen) er (by rw [show (xs.zip ds).map (fun b : V × PyData => b.2) = ds from hsnd]; exact hal) (by rw [show (xs.zip ds).map (fun b : V × PyData => b.2) = ds from hsnd]; exact hso)
    (by rw [List.length_zip, ← hlen, Nat.min_self]; exact hz) (fun b hb => ?_) fun out ho he => ?_
  · have hm : b.2 ∈ ds := by
      rw [← hsnd]
      exact List.mem_map.mpr ⟨b, hb, rfl⟩
    have := hdep _ hm
    show X.A.units + 2 + b.2.depth < cLine
    omega
  · have hv := vals_each he
    obtain ⟨e, hat⟩ := sortedAll_at s.heap its out.toArray
    refine ⟨.ref (s.heap.objs.size + 1), upd H (s.heap.objs.size + 1) (.lst (sortD xs ds)), I.laid (t' := s.toks) (fun b o e => sortedAll_old e) (Nat.le_succ _) ⟨?_, out, e, hv, hat⟩, rfl, q _ (I.hok.fresh (Nat.le_succ _))⟩
    have : ((xs.zip ds).mergeSort (PySem.W.dataLe false Prod.snd)).length = (xs.zip ds).length := List.length_mergeSort _
    unfold sortD
    rw [List.length_map, this, List.length_zip, ← hlen, Nat.min_self]
    exact hz
end
/-! ### dicts with tuple keys -/
section
variable {K : PySem.W.Frag} {σ : SS} {H : Hp} {Q : VK} {td ty tx : TE} {a b : Addr} {v : V}
theorem x_dget2 (q : td σ H fun x H1 => ∃ a, x = .ref a ∧ IsD H1 a ∧ ty σ H1 fun y H2 => tx σ H2 fun z H3 => ∃ o, DGet H3 a y o ∧ Q (o.getD z) H3) : tDGet2 td ty tx σ H Q := q
theorem x_isDT {kvs : List (List Key × V)} {R : Prop} (h : H a = some (.dT kvs)) (q : R) : ∃ a', V.ref a = .ref a' ∧ IsD H a' ∧ R := ⟨a, rfl, .inr ⟨kvs, .inl h⟩, q⟩
theorem x_dgT {kvs : List (List Key × V)} {k : List Key} {R : Option V → Prop} (h : H a = some (.dT kvs)) (hb : H b = some (.tup (k.map kV))) (q : R (valV kvs k)) : ∃ o, DGet H a (.ref b) o ∧ R o := ⟨_, DGet.t h hb, q⟩
theorem x_dpT {kvs : List (List Key × V)} {k : List Key} {R : Hp → Prop} (h : H a = some (.dT kvs)) (hb : H b = some (.tup (k.map kV))) (l : kvs.length < sizeLine) (q : R (upd H a (.dT (putK kvs k v)))) : ∃ a' H', V.ref a = .ref a' ∧ DPut H a' (.ref b) v H' ∧ R H' :=
  ⟨a, _, rfl, DPut.t h hb l, q⟩
end
theorem small10k {n : Nat} (h : n < 10000) : n < sizeLine := Nat.lt_of_lt_of_le h (by decide)


/-! ### release trees as data -/
abbrev Ent := Option (Option (Nat × Nat))
def entD : Ent → PyData
  | none => .none
  | some none => .tuple []
  | some (some (p, s)) => .tuple [.int (p : Int), .int (s : Int)]
inductive EntV (K : PySem.W.Frag) (H : Hp) : V → Ent → Prop
  | non : EntV K H .non none
  | root {a : Addr} : SqT K H a [] → EntV K H (.ref a) (some none)
  | par {a : Addr} {p s : Nat} : H a = some (.tup [.int (p : Int), .int (s : Int)]) → EntV K H (.ref a) (some (some (p, s)))
theorem EntV.keep {K : PySem.W.Frag} {H H' : Hp} {v : V} {e : Ent} (h : EntV K H v e) (k : Kt H H') : EntV K H' v e := by
  cases h with
  | non => exact .non
  | root h => exact .root (k.sqT h)
  | par h => exact .par (k _ _ h (by intro xs z; cases z))
theorem EntV.dp {K : PySem.W.Frag} {H : Hp} {v : V} {e : Ent} (h : EntV K H v e) : Dp K H v (entD e) := by
  cases h with
  | non => exact .non
  | root h => exact .tup h .nil
  | par h => exact .tup (SqT.of h) (.cons (.int _) (.cons (.int _) .nil))
structure TreeV (K : PySem.W.Frag) (H : Hp) (vs : List V) (T : List Ent) : Prop where
  len : vs.length = T.length
  at_ : ∀ (i : Nat) (e : Ent), T[i]? = some e → ∃ v, vs[i]? = some v ∧ EntV K H v e
theorem TreeV.keep {K : PySem.W.Frag} {H H' : Hp} {vs : List V} {T : List Ent} (h : TreeV K H vs T) (k : Kt H H') : TreeV K H' vs T :=
  ⟨h.len, fun i e he => let ⟨v, h1, h2⟩ := h.at_ i e he; ⟨v, h1, h2.keep k⟩⟩
theorem TreeV.set {K : PySem.W.Frag} {H : Hp} {vs : List V} {T : List Ent} (h : TreeV K H vs T) {i : Nat} {v : V} {e : Ent} (hv : EntV K H v e) : TreeV K H (vs.set i v) (T.set i e) := by
  refine ⟨by rw [List.length_set, List.length_set]; exact h.len, fun j d hd => ?_⟩
  by_cases hj : j = i
  · subst hj
    have hl := (List.getElem?_eq_some_iff.mp hd).1
    rw [List.length_set] at hl
    rw [List.getElem?_set_self hl] at hd
    cases Option.some.inj hd
    exact ⟨v, List.getElem?_set_self (by rw [h.len]; exact hl), hv⟩
  · rw [List.getElem?_set_ne (Ne.symm hj)] at hd ⊢
    exact h.at_ j d hd
def TreeAt (K : PySem.W.Frag) (H : Hp) (D : Addr) (T : List Ent) : Prop := ∃ vs, SqT K H D vs ∧ TreeV K H vs T
theorem TreeAt.keep {K : PySem.W.Frag} {H H' : Hp} {D : Addr} {T : List Ent} (h : TreeAt K H D T) (k : Kt H H') : TreeAt K H' D T := by
  obtain ⟨vs, h1, h2⟩ := h
  exact ⟨vs, k.sqT h1, h2.keep k⟩
/-- a release tree, with the depths of its nodes -/
structure TW (T : List Ent) (dep : Nat → Nat) : Prop where
  most : T.length ≤ 40
  root : ∀ (v : Nat), T[v]? = some (some none) → dep v = 0
  one : ∀ (v u : Nat), T[v]? = some (some none) → T[u]? = some (some none) → v = u
  par : ∀ (v p s : Nat), T[v]? = some (some (some (p, s))) → s < 40 ∧ (∃ e, T[p]? = some (some e)) ∧ dep v = dep p + 1
  lim : ∀ (v : Nat) (e : Option (Nat × Nat)), T[v]? = some (some e) → dep v < T.length
  inj : ∀ (v u p s : Nat), T[v]? = some (some (some (p, s))) → T[u]? = some (some (some (p, s))) → v = u
/-- the slots from the root to a node -/
inductive PathTo (T : List Ent) : Nat → List Nat → Prop
  | root {v : Nat} : T[v]? = some (some none) → PathTo T v []
  | step {v p s : Nat} {l : List Nat} : T[v]? = some (some (some (p, s))) → PathTo T p l → PathTo T v (l ++ [s])
theorem TW.path {T : List Ent} {dep : Nat → Nat} (w : TW T dep) : ∀ (n v : Nat), dep v = n → (∃ e, T[v]? = some (some e)) → ∃ l, PathTo T v l ∧ l.length = n
  | 0, v, hd, ⟨e, he⟩ => by
    cases e with
    | none => exact ⟨[], .root he, rfl⟩
    | some q =>
      obtain ⟨p, s⟩ := q
      have := (w.par v p s he).2.2
      omega
  | n + 1, v, hd, ⟨e, he⟩ => by
    cases e with
    | none =>
      have := w.root v he
      omega
    | some q =>
      obtain ⟨p, s⟩ := q
      obtain ⟨_, hp, h3⟩ := w.par v p s he
      obtain ⟨l, h1, h2⟩ := TW.path w n p (by omega) hp
      exact ⟨l ++ [s], .step he h1, by rw [List.length_append, h2]; rfl⟩
/-- a tree that is being made: the first k of the nodes named in ns are in it; ls: the slots of each that are left -/
structure PTr (T : List Ent) (dep : Nat → Nat) (ns : List Nat) (k N : Nat) (ls : List (List Nat)) : Prop where
  perm : ns.Perm (List.range N)
  len : T.length = N
  inn : ∀ (i n : Nat), i < k → ns[i]? = some n → (∃ e, T[n]? = some (some e)) ∧ dep n ≤ i
  out : ∀ (i n : Nat), k ≤ i → ns[i]? = some n → T[n]? = some none
  root : ∀ (v : Nat), T[v]? = some (some none) → dep v = 0
  one : ∀ (v : Nat), T[v]? = some (some none) → ns[0]? = some v
  par : ∀ (v p s : Nat), T[v]? = some (some (some (p, s))) → s < 40 ∧ (∃ e, T[p]? = some (some e)) ∧ dep v = dep p + 1
  inj : ∀ (v u p s : Nat), T[v]? = some (some (some (p, s))) → T[u]? = some (some (some (p, s))) → v = u
  fr : ∀ (i : Nat) (l : List Nat) (n v s : Nat), ls[i]? = some l → ns[i]? = some n → T[v]? = some (some (some (n, s))) → s ∉ l
  bnd : ∀ (i : Nat) (l : List Nat), ls[i]? = some l → l.Nodup ∧ (∀ s ∈ l, s < 40) ∧ 41 ≤ l.length + k
theorem PTr.nlen {T : List Ent} {dep : Nat → Nat} {ns : List Nat} {k N : Nat} {ls : List (List Nat)} (h : PTr T dep ns k N ls) : ns.length = N := by
  rw [h.perm.length_eq, List.length_range]
theorem PTr.lt {T : List Ent} {dep : Nat → Nat} {ns : List Nat} {k N : Nat} {ls : List (List Nat)} (h : PTr T dep ns k N ls) {i n : Nat} (e : ns[i]? = some n) : n < N :=
  List.mem_range.mp (h.perm.mem_iff.mp (List.mem_of_getElem? e))
theorem PTr.nd {T : List Ent} {dep : Nat → Nat} {ns : List Nat} {k N : Nat} {ls : List (List Nat)} (h : PTr T dep ns k N ls) {i j n : Nat} (e : ns[i]? = some n) (f : ns[j]? = some n) : i = j := by
  have nd : ns.Nodup := h.perm.symm.nodup List.nodup_range
  exact (List.getElem?_inj (List.getElem?_eq_some_iff.mp e).1 nd).mp (e.trans f.symm)
theorem PTr.start {ns : List Nat} {N m n0 : Nat} (hp : ns.Perm (List.range N)) (h0 : ns[0]? = some n0) : PTr ((List.replicate N (none : Ent)).set n0 (some none)) (fun _ => 0) ns 1 N (List.replicate m (List.range 40)) := by
  have hn : n0 < N := List.mem_range.mp (hp.mem_iff.mp (List.mem_of_getElem? h0))
  have hg : ∀ (v : Nat), v ≠ n0 → ∀ (e : Ent), ((List.replicate N (none : Ent)).set n0 (some none))[v]? = some e → e = none := by
    intro v hv e he
    rw [List.getElem?_set_ne (Ne.symm hv)] at he
    exact List.eq_of_mem_replicate (List.mem_of_getElem? he)
  have hs : ((List.replicate N (none : Ent)).set n0 (some none))[n0]? = some (some none) := List.getElem?_set_self (by rw [List.length_replicate]; exact hn)
  refine ⟨hp, by rw [List.length_set, List.length_replicate], ?_, ?_, fun _ _ => rfl, ?_, ?_, ?_, ?_, ?_⟩
  · intro i n hi he
    have e0 : i = 0 := by omega
    subst e0
    rw [h0] at he
    cases Option.some.inj he
    exact ⟨⟨_, hs⟩, Nat.zero_le _⟩
  · intro i n hi he
    have hne : n ≠ n0 := by
      rintro rfl
      have nd : ns.Nodup := hp.symm.nodup List.nodup_range
      have := (List.getElem?_inj (List.getElem?_eq_some_iff.mp he).1 nd).mp (he.trans h0.symm)
      omega
    rw [List.getElem?_set_ne hne.symm, List.getElem?_replicate, if_pos (List.mem_range.mp (hp.mem_iff.mp (List.mem_of_getElem? he)))]
  · intro v hv
    by_cases e : v = n0
    · rw [e]; exact h0
    · cases hg v e _ hv
  · intro v p s hv
    by_cases e : v = n0
    · rw [e, hs] at hv; cases hv
    · cases hg v e _ hv
  · intro v u p s hv _
    by_cases e : v = n0
    · rw [e, hs] at hv; cases hv
    · cases hg v e _ hv
  · intro i l n v s _ _ hv
    by_cases e : v = n0
    · rw [e, hs] at hv; cases hv
    · cases hg v e _ hv
  · intro i l hl
    have e := List.eq_of_mem_replicate (List.mem_of_getElem? hl)
    subst e
    exact ⟨List.nodup_range, fun s hs => List.mem_range.mp hs, by rw [List.length_range]; exact Nat.le_refl _⟩
theorem PTr.add {T : List Ent} {dep : Nat → Nat} {ns : List Nat} {k N : Nat} {ls : List (List Nat)} (h : PTr T dep ns k N ls) {n j m d s : Nat} {l : List Nat} (hk : 1 ≤ k) (hn : ns[k]? = some n) (hj : j < k) (hm : ns[j]? = some m) (hl : ls[j]? = some l) (hs : l[d]? = some s) :
    PTr (T.set n (some (some (m, s)))) (fun v => if v = n then dep m + 1 else dep v) ns (k + 1) N (ls.set j (l.eraseIdx d)) := by
  have hnN := h.lt hn
  have hnT : n < T.length := by rw [h.len]; exact hnN
  have hTn : T[n]? = some none := h.out k n (Nat.le_refl _) hn
  have hmn : m ≠ n := fun e => by
    have := h.nd hm (e ▸ hn)
    omega
  obtain ⟨⟨em, hTm⟩, hdm⟩ := h.inn j m hj hm
  obtain ⟨bn, b40, bl⟩ := h.bnd j l hl
  have hsl : s ∈ l := List.mem_of_getElem? hs
  have hself : (T.set n (some (some (m, s))))[n]? = some (some (some (m, s))) := List.getElem?_set_self hnT
  have hoth : ∀ (v : Nat), v ≠ n → (T.set n (some (some (m, s))))[v]? = T[v]? := fun v hv => List.getElem?_set_ne (Ne.symm hv)
  have live : ∀ (p : Nat), (∃ e, T[p]? = some (some e)) → p ≠ n ∧ ∃ e, (T.set n (some (some (m, s))))[p]? = some (some e) := by
    rintro p ⟨e, he⟩
    have hp : p ≠ n := by
      rintro rfl
      rw [hTn] at he
      cases he
    exact ⟨hp, e, by rw [hoth p hp]; exact he⟩
  refine ⟨h.perm, by rw [List.length_set]; exact h.len, ?_, ?_, ?_, ?_, ?_, ?_, ?_, ?_⟩
  · intro i n' hi he
    by_cases e : i = k
    · subst e
      rw [hn] at he
      cases Option.some.inj he
      refine ⟨⟨_, hself⟩, ?_⟩
      show (if n = n then dep m + 1 else dep n) ≤ i
      rw [if_pos rfl]
      omega
    · obtain ⟨h1, h2⟩ := h.inn i n' (by omega) he
      obtain ⟨g1, g2⟩ := live n' h1
      refine ⟨g2, ?_⟩
      show (if n' = n then dep m + 1 else dep n') ≤ i
      rw [if_neg g1]
      exact h2
  · intro i n' hi he
    have hne : n' ≠ n := fun e => by
      have := h.nd he (e ▸ hn)
      omega
    rw [hoth n' hne]
    exact h.out i n' (by omega) he
  · intro v hv
    by_cases e : v = n
    · subst e; rw [hself] at hv; cases hv
    · rw [hoth v e] at hv
      show (if v = n then dep m + 1 else dep v) = 0
      rw [if_neg e]
      exact h.root v hv
  · intro v hv
    by_cases e : v = n
    · subst e; rw [hself] at hv; cases hv
    · rw [hoth v e] at hv
      exact h.one v hv
  · intro v p t hv
    show t < 40 ∧ _ ∧ (if v = n then dep m + 1 else dep v) = (if p = n then dep m + 1 else dep p) + 1
    by_cases e : v = n
    · subst e
      rw [hself] at hv
      cases Option.some.inj (Option.some.inj (Option.some.inj hv))
      obtain ⟨g1, g2⟩ := live m ⟨em, hTm⟩
      rw [if_pos rfl, if_neg g1]
      exact ⟨b40 s hsl, g2, rfl⟩
    · rw [hoth v e] at hv
      obtain ⟨h1, h2, h3⟩ := h.par v p t hv
      obtain ⟨g1, g2⟩ := live p h2
      rw [if_neg e, if_neg g1]
      exact ⟨h1, g2, h3⟩
  · intro v u p t hv hu
    by_cases e : v = n
    · by_cases e2 : u = n
      · rw [e, e2]
      · subst e
        rw [hself] at hv
        cases Option.some.inj (Option.some.inj (Option.some.inj hv))
        rw [hoth u e2] at hu
        exact absurd hsl (h.fr j l m u s hl hm hu)
    · by_cases e2 : u = n
      · subst e2
        rw [hself] at hu
        cases Option.some.inj (Option.some.inj (Option.some.inj hu))
        rw [hoth v e] at hv
        exact absurd hsl (h.fr j l m v s hl hm hv)
      · rw [hoth v e] at hv
        rw [hoth u e2] at hu
        exact h.inj v u p t hv hu
  · intro i l' n' v t hl' hn' hv
    by_cases ei : i = j
    · subst ei
      rw [hm] at hn'
      cases Option.some.inj hn'
      have hjl := (List.getElem?_eq_some_iff.mp hl).1
      rw [List.getElem?_set_self hjl] at hl'
      cases Option.some.inj hl'
      by_cases e : v = n
      · subst e
        rw [hself] at hv
        cases Option.some.inj (Option.some.inj (Option.some.inj hv))
        have p := erase_perm0 hs
        have nd2 : (s :: l.eraseIdx d).Nodup := p.symm.nodup bn
        exact (List.nodup_cons.mp nd2).1
      · rw [hoth v e] at hv
        exact fun z => h.fr i l m v t hl hm hv (List.mem_of_mem_eraseIdx z)
    · rw [List.getElem?_set_ne (Ne.symm ei)] at hl'
      by_cases e : v = n
      · subst e
        rw [hself] at hv
        cases Option.some.inj (Option.some.inj (Option.some.inj hv))
        exact absurd (h.nd hn' hm) ei
      · rw [hoth v e] at hv
        exact h.fr i l' n' v t hl' hn' hv
  · intro i l' hl'
    by_cases ei : i = j
    · subst ei
      have hjl := (List.getElem?_eq_some_iff.mp hl).1
      rw [List.getElem?_set_self hjl] at hl'
      cases Option.some.inj hl'
      have hd := (List.getElem?_eq_some_iff.mp hs).1
      refine ⟨bn.sublist (List.eraseIdx_sublist _ _), fun t ht => b40 t (List.mem_of_mem_eraseIdx ht), ?_⟩
      rw [List.length_eraseIdx_of_lt hd]
      omega
    · rw [List.getElem?_set_ne (Ne.symm ei)] at hl'
      obtain ⟨c1, c2, c3⟩ := h.bnd i l' hl'
      exact ⟨c1, c2, by omega⟩
theorem PTr.tw {T : List Ent} {dep : Nat → Nat} {ns : List Nat} {k N : Nat} {ls : List (List Nat)} (h : PTr T dep ns k N ls) (hN : N ≤ 40) (hkN : k ≤ N) : TW T dep := by
  refine ⟨by rw [h.len]; exact hN, h.root, fun v u hv hu => ?_, h.par, fun v e he => ?_, h.inj⟩
  · have := (h.one v hv).symm.trans (h.one u hu)
    exact Option.some.inj this
  · have hv : v < N := by
      rw [← h.len]
      exact (List.getElem?_eq_some_iff.mp he).1
    obtain ⟨i, hi⟩ := List.mem_iff_getElem?.mp (h.perm.mem_iff.mpr (List.mem_range.mpr hv))
    have hik : i < k := by
      refine Nat.lt_of_not_le fun z => ?_
      rw [h.out i v z hi] at he
      cases he
    have := (h.inn i v hik hi).2
    rw [h.len]
    omega
/-- the rows of slots that are left, at rs -/
structure RowsN (H0 H : Hp) (rs : List Addr) (ls : List (List Nat)) : Prop where
  len : rs.length = ls.length
  nd : rs.Nodup
  fr : ∀ r ∈ rs, H0 r = none
  at_ : ∀ (i : Nat) (r : Addr) (l : List Nat), rs[i]? = some r → ls[i]? = some l → H r = some (.lst (natV l))
theorem RowsN.some {H0 H : Hp} {rs : List Addr} {ls : List (List Nat)} (h : RowsN H0 H rs ls) {r : Addr} (hr : r ∈ rs) : ∃ xs, H r = Option.some (.lst xs) := by
  obtain ⟨i, hi⟩ := List.mem_iff_getElem?.mp hr
  have hil := (List.getElem?_eq_some_iff.mp hi).1
  exact ⟨_, h.at_ i r _ hi (List.getElem?_eq_getElem (by rw [← h.len]; exact hil))⟩
theorem RowsN.keep {H0 H H' : Hp} {rs : List Addr} {ls : List (List Nat)} {S : List Addr} (h : RowsN H0 H rs ls) (k : Kx S H H') (hS : ∀ r ∈ rs, r ∉ S) : RowsN H0 H' rs ls :=
  ⟨h.len, h.nd, h.fr, fun i r l h1 h2 => k r _ (hS r (List.mem_of_getElem? h1)) (h.at_ i r l h1 h2)⟩
theorem RowsN.upd {H0 H : Hp} {rs : List Addr} {ls : List (List Nat)} {q : Addr} {o : HO} (h : RowsN H0 H rs ls) (hq : q ∉ rs) : RowsN H0 (upd H q o) rs ls :=
  ⟨h.len, h.nd, h.fr, fun i r l h1 h2 => (upd_ne (fun e => hq (by rw [← e]; exact List.mem_of_getElem? h1))).trans (h.at_ i r l h1 h2)⟩
theorem RowsN.set {H0 H : Hp} {rs : List Addr} {ls : List (List Nat)} (h : RowsN H0 H rs ls) {j : Nat} {r : Addr} {l : List Nat} (hr : rs[j]? = Option.some r) : RowsN H0 (L2.upd H r (.lst (natV l))) rs (ls.set j l) := by
  refine ⟨by rw [List.length_set]; exact h.len, h.nd, h.fr, fun i r' l' h1 h2 => ?_⟩
  by_cases e : i = j
  · subst e
    rw [hr] at h1
    cases Option.some.inj h1
    have hl : i < ls.length := by
      rw [← h.len]
      exact (List.getElem?_eq_some_iff.mp hr).1
    rw [List.getElem?_set_self hl] at h2
    cases Option.some.inj h2
    exact upd_same
  · rw [List.getElem?_set_ne (Ne.symm e)] at h2
    have hne : r' ≠ r := by
      rintro rfl
      exact e ((List.getElem?_inj (List.getElem?_eq_some_iff.mp h1).1 h.nd).mp (h1.trans hr.symm))
    exact (upd_ne hne).trans (h.at_ i r' l' h1 h2)
theorem shaped_ent (e : Ent) : SeqAt.shaped (entD e) = true := by
  cases e with
  | none => decide
  | some o =>
    cases o with
    | none => decide
    | some q =>
      obtain ⟨p, s⟩ := q
      exact shaped_int2 p s
theorem eqv_ent (e : Ent) : PyData.eqv (entD e) (.tuple []) = decide (e = some none) := by
  cases e with
  | none => rfl
  | some o =>
    cases o with
    | none => rfl
    | some q => rfl
section
variable {K : PySem.W.Frag} {σ : SS} {H : Hp} {Q : VK} {v : V} {e : Ent} {b : Addr}
theorem x_neU (h : EntV K H v e) (hb : SqT K H b []) (q : Q (.bl (!decide (e = some none))) H) : rNeD K v (.ref b) H Q := ⟨entD e, .tuple [], h.dp, .tup hb .nil, shaped_ent e, by decide, by rw [eqv_ent]; exact q⟩
theorem x_eqU (h : EntV K H v e) (hb : SqT K H b []) (q : Q (.bl (decide (e = some none))) H) : rEqD K v (.ref b) H Q := ⟨entD e, .tuple [], h.dp, .tup hb .nil, shaped_ent e, by decide, by rw [eqv_ent]; exact q⟩
end

/-! ### lists of ints by their first difference -/
def LD (u v : List Int) : Prop := ∃ (p : List Int) (a b : Int) (u' v' : List Int), u = p ++ a :: u' ∧ v = p ++ b :: v' ∧ a < b
theorem LD.app {u v x y : List Int} (h : LD u v) : LD (u ++ x) (v ++ y) := by
  obtain ⟨p, a, b, u', v', rfl, rfl, hab⟩ := h
  exact ⟨p, a, b, u' ++ x, v' ++ y, by simp, by simp, hab⟩
theorem LD.pre (w : List Int) {u v : List Int} (h : LD u v) : LD (w ++ u) (w ++ v) := by
  obtain ⟨p, a, b, u', v', rfl, rfl, hab⟩ := h
  exact ⟨w ++ p, a, b, u', v', by simp, by simp, hab⟩
theorem LD.hd {a b : Int} {u v : List Int} (h : a < b) : LD (a :: u) (b :: v) := ⟨[], a, b, u, v, rfl, rfl, h⟩
theorem LD.appl {u v x : List Int} (h : LD u v) : LD (u ++ x) v := by
  have := h.app (x := x) (y := [])
  rwa [List.append_nil] at this
theorem LD.appr {u v y : List Int} (h : LD u v) : LD u (v ++ y) := by
  have := h.app (x := []) (y := y)
  rwa [List.append_nil] at this
theorem lt_pre (w : List Int) {u v : List Int} : w ++ u < w ++ v ↔ u < v := by
  induction w with
  | nil => rfl
  | cons a w ih =>
    rw [List.cons_append, List.cons_append, List.cons_lt_cons_iff]
    constructor
    · rintro (h | ⟨_, h⟩)
      · exact absurd h (Int.lt_irrefl _)
      · exact ih.mp h
    · exact fun h => .inr ⟨rfl, ih.mpr h⟩
theorem LD.lt {u v : List Int} (h : LD u v) : u < v := by
  obtain ⟨p, a, b, u', v', rfl, rfl, hab⟩ := h
  rw [lt_pre, List.cons_lt_cons_iff]
  exact .inl hab
theorem lt_ext (u : List Int) (a : Int) (x : List Int) : u < u ++ a :: x := by
  have : u ++ [] < u ++ a :: x := (lt_pre u).mpr (List.nil_lt_cons a x)
  rwa [List.append_nil] at this
abbrev posI (l : List Nat) : List Int := l.map fun (n : Nat) => 2 * (n : Int)
abbrev negI (l : List Nat) : List Int := l.map fun (n : Nat) => -2 * (n : Int)
theorem neg_LD : ∀ {p q : List Nat} {s t : Nat}, p.length = q.length → posI p ++ [2 * (s : Int) - 1] < posI q ++ [2 * (t : Int) - 1] → LD (negI (q ++ [t])) (negI (p ++ [s]))
  | [], [], s, t, _, h => by
    have h1 : [2 * (s : Int) - 1] < [2 * (t : Int) - 1] := h
    rw [List.cons_lt_cons_iff] at h1
    rcases h1 with h1 | ⟨_, h1⟩
    · exact LD.hd (u := []) (v := []) (show -2 * (t : Int) < -2 * (s : Int) by omega)
    · exact absurd h1 (List.not_lt_nil _)
  | [], _ :: _, _, _, h, _ => by cases h
  | _ :: _, [], _, _, h, _ => by cases h
  | a :: p, b :: q, s, t, hl, h => by
    have h1 : 2 * (a : Int) :: (posI p ++ [2 * (s : Int) - 1]) < 2 * (b : Int) :: (posI q ++ [2 * (t : Int) - 1]) := h
    rw [List.cons_lt_cons_iff] at h1
    rcases h1 with h1 | ⟨e, h1⟩
    · exact LD.hd (u := negI (q ++ [t])) (v := negI (p ++ [s])) (show -2 * (b : Int) < -2 * (a : Int) by omega)
    · have e2 : a = b := by omega
      subst e2
      exact LD.pre [-2 * (a : Int)] (neg_LD (Nat.succ.inj hl) h1)
/-! ### ranks -/
def stp (c : Nat) (S : List Int × List Nat) (s : Nat) : List Int × List Nat :=
  if c ≤ S.2.length + 1 then (S.1 ++ 1 :: negI (S.2 ++ [s]), []) else (S.1, S.2 ++ [s])
def stt (c : Nat) (l : List Nat) : List Int × List Nat := l.foldl (stp c) ([], [])
def rkL (c : Nat) (l : List Nat) : List Int := (stt c l).1 ++ 0 :: posI (stt c l).2
theorem stt_snoc (c : Nat) (l : List Nat) (s : Nat) : stt c (l ++ [s]) = stp c (stt c l) s := by
  unfold stt
  rw [List.foldl_append]
  rfl
theorem PathTo.uniq {T : List Ent} {v : Nat} {l : List Nat} (h : PathTo T v l) : ∀ {m : List Nat}, PathTo T v m → l = m := by
  induction h with
  | root h =>
    intro m g
    cases g with
    | root _ => rfl
    | step g _ => rw [h] at g; cases g
  | step h _ ih =>
    intro m g
    cases g with
    | root g => rw [h] at g; cases g
    | step g g2 =>
      rw [h] at g
      cases g
      rw [ih g2]
noncomputable def pa (T : List Ent) (v : Nat) : List Nat := by
  classical exact if h : ∃ l, PathTo T v l then h.choose else []
theorem pa_of {T : List Ent} {v : Nat} {l : List Nat} (h : PathTo T v l) : pa T v = l := by
  have hx : ∃ l, PathTo T v l := ⟨l, h⟩
  unfold pa
  rw [dif_pos hx]
  exact hx.choose_spec.uniq h
def Liv (T : List Ent) (v : Nat) : Prop := ∃ e, T[v]? = some (some e)
noncomputable abbrev RR (T : List Ent) (c : Nat) (v : Nat) : List Int := (stt c (pa T v)).1
noncomputable abbrev PP (T : List Ent) (c : Nat) (v : Nat) : List Nat := (stt c (pa T v)).2
noncomputable abbrev rk (T : List Ent) (c : Nat) (v : Nat) : List Int := rkL c (pa T v)
noncomputable abbrev srk (T : List Ent) (c : Nat) (p : Nat × Nat) : List Int := rk T c p.1 ++ [2 * (p.2 : Int) - 1]
theorem pa_child {T : List Ent} {dep : Nat → Nat} (w : TW T dep) {b h s : Nat} (e : T[b]? = some (some (some (h, s)))) : pa T b = pa T h ++ [s] := by
  obtain ⟨_, hh, _⟩ := w.par b h s e
  obtain ⟨l, hl, _⟩ := w.path _ h rfl hh
  rw [pa_of (.step e hl), pa_of hl]
theorem near_child {T : List Ent} {dep : Nat → Nat} (w : TW T dep) {c b h s : Nat} (e : T[b]? = some (some (some (h, s)))) (hc : (PP T c h).length + 1 < c) : RR T c b = RR T c h ∧ PP T c b = PP T c h ++ [s] ∧ rk T c b = rk T c h ++ [2 * (s : Int)] := by
  have h1 : stt c (pa T b) = stp c (stt c (pa T h)) s := by rw [pa_child w e, stt_snoc]
  have h2 : stp c (stt c (pa T h)) s = ((stt c (pa T h)).1, (stt c (pa T h)).2 ++ [s]) := by
    have hc' : (stt c (pa T h)).2.length + 1 < c := hc
    unfold stp
    rw [if_neg (by omega)]
  rw [h2] at h1
  refine ⟨by show (stt c (pa T b)).1 = _; rw [h1], by show (stt c (pa T b)).2 = _; rw [h1], ?_⟩
  show rkL c (pa T b) = rkL c (pa T h) ++ _
  unfold rkL
  rw [h1]
  simp [posI]
theorem far_child {T : List Ent} {dep : Nat → Nat} (w : TW T dep) {c b h s : Nat} (e : T[b]? = some (some (some (h, s)))) (hc : c ≤ (PP T c h).length + 1) : RR T c b = RR T c h ++ 1 :: negI (PP T c h ++ [s]) ∧ PP T c b = [] := by
  have h1 : stt c (pa T b) = stp c (stt c (pa T h)) s := by rw [pa_child w e, stt_snoc]
  have h2 : stp c (stt c (pa T h)) s = ((stt c (pa T h)).1 ++ 1 :: negI ((stt c (pa T h)).2 ++ [s]), []) := by
    unfold stp
    rw [if_pos hc]
  rw [h2] at h1
  exact ⟨by show (stt c (pa T b)).1 = _; rw [h1], by show (stt c (pa T b)).2 = _; rw [h1]⟩
theorem piece_lt {c : Nat} (hc : 1 ≤ c) (l : List Nat) : (stt c l).2.length < c := by
  rcases List.eq_nil_or_concat l with rfl | ⟨m, s, rfl⟩
  · exact hc
  · rw [List.concat_eq_append, stt_snoc]
    unfold stp
    split
    · exact hc
    · show ((stt c m).2 ++ [s]).length < c
      rw [List.length_append, List.length_singleton]
      omega
/-- y is v, or above it -/
inductive Desc (T : List Ent) (y : Nat) : Nat → Prop
  | refl : Desc T y y
  | step {p v s : Nat} : T[v]? = some (some (some (p, s))) → Desc T y p → Desc T y v
theorem Desc.first {T : List Ent} {y v : Nat} (h : Desc T y v) : v = y ∨ ∃ b s, T[b]? = some (some (some (y, s))) ∧ Desc T b v := by
  induction h with
  | refl => exact .inl rfl
  | step e _ ih =>
    rename_i p v s _
    rcases ih with rfl | ⟨b, t, h1, h2⟩
    · exact .inr ⟨v, s, e, .refl⟩
    · exact .inr ⟨b, t, h1, .step e h2⟩
def StkLen (P : Nat → List Nat) : List (Nat × Nat) → Prop
  | [] => True
  | e :: r => (P e.1).length = r.length ∧ StkLen P r
/-- what lies ahead -/
def Ah (T : List Ent) (c : Nat) (stk : List (Nat × Nat)) (shelf : List Nat) (R0 f : List Int) : Prop :=
  (∃ e ∈ stk, ∃ (z : Int) (x : List Int), 2 * (e.2 : Int) - 1 ≤ z ∧ f = rk T c e.1 ++ z :: x) ∨ (∃ x, f = R0 ++ 1 :: x) ∨ ∃ y ∈ shelf, ∃ x, f = RR T c y ++ x
structure WO (T : List Ent) (c : Nat) (log : List Nat) (pls : List (Nat × Nat)) (shelf : List Nat) : Prop where
  lin : ∀ v ∈ log, Liv T v
  pin : ∀ p ∈ pls, Liv T p.1 ∧ p.2 < 40
  yin : ∀ y ∈ shelf, Liv T y ∧ PP T c y = []
  ys : shelf.Pairwise fun a b => LD (RR T c b) (RR T c a)
  logs : log.Pairwise fun a b => rk T c a < rk T c b
  plss : pls.Pairwise fun a b => srk T c a < srk T c b
  v1 : ∀ a ∈ log, ∀ y ∈ shelf, ∀ x, rk T c a < RR T c y ++ x
  v2 : ∀ a ∈ pls, ∀ y ∈ shelf, ∀ x, srk T c a < RR T c y ++ x
  cov : ∀ v, Liv T v → v ∈ log ∨ ∃ y ∈ shelf, Desc T y v
  cov2 : ∀ v ∈ log, ∀ i, i < 40 → (v, i) ∈ pls
  cnt : pls.length = 40 * log.length
structure WS (T : List Ent) (c : Nat) (log : List Nat) (pls stk : List (Nat × Nat)) (shelf : List Nat) (R0 : List Int) : Prop where
  lin : ∀ v ∈ log, Liv T v
  pin : ∀ p ∈ pls, Liv T p.1 ∧ p.2 < 40
  sin : ∀ e ∈ stk, Liv T e.1 ∧ e.2 ≤ 40 ∧ RR T c e.1 = R0
  len : StkLen (PP T c) stk
  up : stk.Pairwise fun u l => ∃ x, rk T c u.1 = rk T c l.1 ++ (2 * (l.2 : Int) - 2) :: x
  yin : ∀ y ∈ shelf, Liv T y ∧ PP T c y = []
  ylt : ∀ y ∈ shelf, LD R0 (RR T c y) ∨ ∃ h s, (h, s) ∈ pls ∧ RR T c y = R0 ++ 1 :: negI (PP T c h ++ [s]) ∧ RR T c h = R0 ∧ (PP T c h).length + 1 = c
  ys : shelf.Pairwise fun a b => LD (RR T c b) (RR T c a)
  logs : log.Pairwise fun a b => rk T c a < rk T c b
  plss : pls.Pairwise fun a b => srk T c a < srk T c b
  v1 : ∀ a ∈ log, ∀ f, Ah T c stk shelf R0 f → rk T c a < f
  v2 : ∀ a ∈ pls, ∀ f, Ah T c stk shelf R0 f → srk T c a < f
  cov : ∀ v, Liv T v → v ∈ log ∨ (∃ y ∈ shelf, Desc T y v) ∨ ∃ e ∈ stk, ∃ b s, e.2 ≤ s ∧ T[b]? = some (some (some (e.1, s))) ∧ Desc T b v
  cov2 : ∀ v ∈ log, ∀ i, i < 40 → (v, i) ∈ pls ∨ ∃ e ∈ stk, e.1 = v ∧ e.2 ≤ i
  cnt : pls.length + (stk.map fun e => 40 - e.2).sum = 40 * log.length
section
variable {T : List Ent} {dep : Nat → Nat} {c : Nat} {log : List Nat} {pls stk : List (Nat × Nat)} {shelf : List Nat} {R0 : List Int}
theorem rk_root {v : Nat} (h : PP T c v = []) : rk T c v = RR T c v ++ [0] := by
  show (stt c (pa T v)).1 ++ 0 :: posI (stt c (pa T v)).2 = _
  rw [show (stt c (pa T v)).2 = [] from h]
  rfl
theorem TW.rooted (w : TW T dep) {v : Nat} (h : Liv T v) : ∃ r, T[r]? = some (some none) ∧ Desc T r v := by
  obtain ⟨l, hl, hz⟩ := w.path _ v rfl h
  clear h hz
  induction hl with
  | root h => exact ⟨_, h, .refl⟩
  | step e _ ih =>
    obtain ⟨r, h1, h2⟩ := ih
    exact ⟨r, h1, .step e h2⟩
theorem WO.start (w : TW T dep) {r : Nat} (hr : T[r]? = some (some none)) : WO T c [] [] [r] := by
  refine ⟨by simp, by simp, fun y hy => ?_, by simp, .nil, .nil, by simp, by simp, fun v hv => ?_, by simp, rfl⟩
  · rw [List.mem_singleton.mp hy]
    exact ⟨⟨_, hr⟩, by show (stt c (pa T r)).2 = []; rw [pa_of (.root hr)]; rfl⟩
  · obtain ⟨r', h1, h2⟩ := w.rooted hv
    rw [w.one r' r h1 hr] at h2
    exact .inr ⟨r, by simp, h2⟩
theorem WO.pop (w : TW T dep) {ys : List Nat} {x : Nat} (h : WO T c log pls (ys ++ [x])) : WS T c (log ++ [x]) pls [(x, 0)] ys (RR T c x) := by
  have hx := h.yin x (by simp)
  have hrk := rk_root hx.2
  have hys := List.pairwise_append.mp h.ys
  have hlt : ∀ y ∈ ys, LD (RR T c x) (RR T c y) := fun y hy => hys.2.2 y hy x (by simp)
  have hA : ∀ f, Ah T c [(x, 0)] ys (RR T c x) f → ∃ y ∈ ys ++ [x], ∃ z, f = RR T c y ++ z := by
    rintro f (⟨e, he, z, t, _, rfl⟩ | ⟨t, rfl⟩ | ⟨y, hy, t, rfl⟩)
    · rw [List.mem_singleton.mp he]
      exact ⟨x, by simp, 0 :: z :: t, by rw [hrk]; simp⟩
    · exact ⟨x, by simp, _, rfl⟩
    · exact ⟨y, by simp [hy], _, rfl⟩
  refine ⟨?_, h.pin, ?_, ⟨by rw [hx.2]; rfl, trivial⟩, by simp, fun y hy => h.yin y (by simp [hy]), fun y hy => .inl (hlt y hy), hys.1, ?_, h.plss, ?_, ?_, ?_, ?_, ?_⟩
  · intro v hv
    rcases List.mem_append.mp hv with hv | hv
    · exact h.lin v hv
    · rw [List.mem_singleton.mp hv]; exact hx.1
  · intro e he
    rw [List.mem_singleton.mp he]
    exact ⟨hx.1, Nat.zero_le _, rfl⟩
  · refine List.pairwise_append.mpr ⟨h.logs, by simp, fun a ha b hb => ?_⟩
    rw [List.mem_singleton.mp hb, hrk]
    exact h.v1 a ha x (by simp) _
  · intro a ha f hf
    rcases List.mem_append.mp ha with ha | ha
    · obtain ⟨y, hy, z, rfl⟩ := hA f hf
      exact h.v1 a ha y hy z
    · rw [List.mem_singleton.mp ha, hrk]
      rcases hf with ⟨e, he, z, t, _, rfl⟩ | ⟨t, rfl⟩ | ⟨y, hy, t, rfl⟩
      · rw [List.mem_singleton.mp he, hrk]
        exact lt_ext _ _ _
      · exact (LD.pre _ (LD.hd (by decide))).lt
      · exact ((hlt y hy).app).lt
  · intro a ha f hf
    obtain ⟨y, hy, z, rfl⟩ := hA f hf
    exact h.v2 a ha y hy z
  · intro v hv
    rcases h.cov v hv with h1 | ⟨y, hy, hd⟩
    · exact .inl (by simp [h1])
    · rcases List.mem_append.mp hy with hy | hy
      · exact .inr (.inl ⟨y, hy, hd⟩)
      · rw [List.mem_singleton.mp hy] at hd
        rcases hd.first with rfl | ⟨b, s, h1, h2⟩
        · exact .inl (by simp)
        · exact .inr (.inr ⟨(x, 0), by simp, b, s, Nat.zero_le _, h1, h2⟩)
  · intro v hv i hi
    rcases List.mem_append.mp hv with hv | hv
    · exact .inl (h.cov2 v hv i hi)
    · rw [List.mem_singleton.mp hv]
      exact .inr ⟨(x, 0), by simp, rfl, Nat.zero_le _⟩
  · have := h.cnt
    simp only [List.map_cons, List.map_nil, List.sum_cons, List.sum_nil, List.length_append, List.length_singleton]
    omega
theorem WS.pop (w : TW T dep) {h : Nat} (W : WS T c log pls ((h, 40) :: stk) shelf R0) : WS T c log pls stk shelf R0 := by
  have hA : ∀ f, Ah T c stk shelf R0 f → Ah T c ((h, 40) :: stk) shelf R0 f := by
    rintro f (⟨e, he, q⟩ | q | q)
    · exact .inl ⟨e, by simp [he], q⟩
    · exact .inr (.inl q)
    · exact .inr (.inr q)
  refine ⟨W.lin, W.pin, fun e he => W.sin e (by simp [he]), W.len.2, (List.pairwise_cons.mp W.up).2, W.yin, W.ylt, W.ys, W.logs, W.plss, fun a ha f hf => W.v1 a ha f (hA f hf), fun a ha f hf => W.v2 a ha f (hA f hf), ?_, ?_, ?_⟩
  · intro v hv
    rcases W.cov v hv with h1 | h1 | ⟨e, he, b, s, h1, h2, h3⟩
    · exact .inl h1
    · exact .inr (.inl h1)
    · rcases List.mem_cons.mp he with rfl | he
      · have h1 : 40 ≤ s := h1
        have := (w.par b _ s h2).1
        omega
      · exact .inr (.inr ⟨e, he, b, s, h1, h2, h3⟩)
  · intro v hv i hi
    rcases W.cov2 v hv i hi with h1 | ⟨e, he, h1, h2⟩
    · exact .inl h1
    · rcases List.mem_cons.mp he with rfl | he
      · have h2 : 40 ≤ i := h2
        omega
      · exact .inr ⟨e, he, h1, h2⟩
  · have := W.cnt
    simp only [List.map_cons, List.sum_cons] at this
    omega
theorem WS.stop (W : WS T c log pls [] shelf R0) : WO T c log pls shelf := by
  refine ⟨W.lin, W.pin, W.yin, W.ys, W.logs, W.plss, fun a ha y hy x => W.v1 a ha _ (.inr (.inr ⟨y, hy, x, rfl⟩)), fun a ha y hy x => W.v2 a ha _ (.inr (.inr ⟨y, hy, x, rfl⟩)), fun v hv => ?_, fun v hv i hi => ?_, by simpa using W.cnt⟩
  · rcases W.cov v hv with h1 | h1 | ⟨e, he, _⟩
    · exact .inl h1
    · exact .inr h1
    · cases he
  · rcases W.cov2 v hv i hi with h1 | ⟨e, he, _⟩
    · exact h1
    · cases he
/-- what is ahead behind a slot is greater than the slot, and than what it holds -/
theorem WS.min {h a : Nat} (W : WS T c log pls ((h, a) :: stk) shelf R0) {z0 : Int} (hz : z0 ≤ 2 * (a : Int)) {f : List Int} (hf : Ah T c ((h, a + 1) :: stk) shelf R0 f) : LD (rk T c h ++ [z0]) f := by
  have hR := (W.sin (h, a) (by simp)).2.2
  have hrk : rk T c h = R0 ++ 0 :: posI (PP T c h) := by rw [← hR]; rfl
  rcases hf with ⟨e, he, z, x, h1, rfl⟩ | ⟨x, rfl⟩ | ⟨y, hy, x, rfl⟩
  · rcases List.mem_cons.mp he with rfl | he
    · have h1 : 2 * ((a + 1 : Nat) : Int) - 1 ≤ z := h1
      exact LD.pre _ (LD.hd (by omega))
    · obtain ⟨u, hu⟩ := (List.pairwise_cons.mp W.up).1 e he
      rw [hu, List.append_assoc]
      exact LD.pre _ (LD.hd (by omega))
  · rw [hrk, List.append_assoc]
    exact LD.pre _ (LD.hd (by decide))
  · rw [hrk, List.append_assoc]
    rcases W.ylt y hy with h1 | ⟨h', s, _, h1, _⟩
    · exact h1.app
    · rw [h1, List.append_assoc]
      exact LD.pre _ (LD.hd (by decide))
theorem WS.ahead {h a : Nat} {z : Int} {x : List Int} (hz : 2 * (a : Int) - 1 ≤ z) : Ah T c ((h, a) :: stk) shelf R0 (rk T c h ++ z :: x) := .inl ⟨(h, a), by simp, z, x, hz, rfl⟩
theorem Ah.less {h a : Nat} {f : List Int} (hf : Ah T c ((h, a + 1) :: stk) shelf R0 f) : Ah T c ((h, a) :: stk) shelf R0 f := by
  rcases hf with ⟨e, he, z, x, h1, rfl⟩ | q | q
  · rcases List.mem_cons.mp he with rfl | he
    · have h1 : 2 * ((a + 1 : Nat) : Int) - 1 ≤ z := h1
      exact .inl ⟨(h, a), by simp, z, x, by show 2 * (a : Int) - 1 ≤ z; omega, rfl⟩
    · exact .inl ⟨e, by simp [he], z, x, h1, rfl⟩
  · exact .inr (.inl q)
  · exact .inr (.inr q)
/-- a slot that holds no child -/
theorem WS.slot (w : TW T dep) {h a : Nat} (ha : a < 40) (W : WS T c log pls ((h, a) :: stk) shelf R0) (hn : ∀ b : Nat, T[b]? ≠ some (some (some (h, a)))) : WS T c log (pls ++ [(h, a)]) ((h, a + 1) :: stk) shelf R0 := by
  have hh := W.sin (h, a) (by simp)
  refine ⟨W.lin, ?_, ?_, W.len, ?_, W.yin, ?_, W.ys, W.logs, ?_, fun x hx f hf => W.v1 x hx f hf.less, ?_, ?_, ?_, ?_⟩
  · intro p hp
    rcases List.mem_append.mp hp with hp | hp
    · exact W.pin p hp
    · rw [List.mem_singleton.mp hp]; exact ⟨hh.1, ha⟩
  · intro e he
    rcases List.mem_cons.mp he with rfl | he
    · exact ⟨hh.1, ha, hh.2.2⟩
    · exact W.sin e (by simp [he])
  · have := List.pairwise_cons.mp W.up
    exact List.pairwise_cons.mpr ⟨this.1, this.2⟩
  · intro y hy
    rcases W.ylt y hy with q | ⟨h', s, q, r⟩
    · exact .inl q
    · exact .inr ⟨h', s, by simp [q], r⟩
  · refine List.pairwise_append.mpr ⟨W.plss, by simp, fun x hx b hb => ?_⟩
    rw [List.mem_singleton.mp hb]
    exact W.v2 x hx _ (WS.ahead (by omega))
  · intro x hx f hf
    rcases List.mem_append.mp hx with hx | hx
    · exact W.v2 x hx f hf.less
    · rw [List.mem_singleton.mp hx]
      exact (W.min (by omega) hf).lt
  · intro v hv
    rcases W.cov v hv with h1 | h1 | ⟨e, he, b, s, h1, h2, h3⟩
    · exact .inl h1
    · exact .inr (.inl h1)
    · rcases List.mem_cons.mp he with rfl | he
      · have h1 : a ≤ s := h1
        have hne : s ≠ a := fun e => hn b (by rw [← e]; exact h2)
        exact .inr (.inr ⟨(h, a + 1), by simp, b, s, by show a + 1 ≤ s; omega, h2, h3⟩)
      · exact .inr (.inr ⟨e, by simp [he], b, s, h1, h2, h3⟩)
  · intro v hv i hi
    rcases W.cov2 v hv i hi with h1 | ⟨e, he, h1, h2⟩
    · exact .inl (by simp [h1])
    · rcases List.mem_cons.mp he with rfl | he
      · have h2 : a ≤ i := h2
        by_cases e : i = a
        · subst e
          exact .inl (by simp [← h1])
        · exact .inr ⟨(h, a + 1), by simp, h1, by show a + 1 ≤ i; omega⟩
      · exact .inr ⟨e, by simp [he], h1, h2⟩
  · have := W.cnt
    simp only [List.map_cons, List.sum_cons, List.length_append, List.length_singleton] at this ⊢
    omega
/-- a near child -/
theorem WS.near (w : TW T dep) {h a b : Nat} (ha : a < 40) (W : WS T c log pls ((h, a) :: stk) shelf R0) (hb : T[b]? = some (some (some (h, a)))) (hc : stk.length + 1 < c) :
    WS T c (log ++ [b]) (pls ++ [(h, a)]) ((b, 0) :: (h, a + 1) :: stk) shelf R0 := by
  have hh := W.sin (h, a) (by simp)
  have hlen : (PP T c h).length = stk.length := W.len.1
  obtain ⟨n1, n2, n3⟩ := near_child w hb (by rw [hlen]; exact hc)
  have less : ∀ {f : List Int}, Ah T c ((b, 0) :: (h, a + 1) :: stk) shelf R0 f → (∃ (z : Int) (x : List Int), f = rk T c h ++ (2 * (a : Int)) :: z :: x) ∨ Ah T c ((h, a + 1) :: stk) shelf R0 f := by
    rintro f (⟨e, he, z, x, h1, rfl⟩ | q | q)
    · rcases List.mem_cons.mp he with rfl | he
      · exact .inl ⟨z, x, by rw [show rk T c (b, 0).1 = rk T c b from rfl, n3, List.append_assoc]; rfl⟩
      · exact .inr (.inl ⟨e, he, z, x, h1, rfl⟩)
    · exact .inr (.inr (.inl q))
    · exact .inr (.inr (.inr q))
  have less2 : ∀ {f : List Int}, Ah T c ((b, 0) :: (h, a + 1) :: stk) shelf R0 f → Ah T c ((h, a) :: stk) shelf R0 f := by
    intro f hf
    rcases less hf with ⟨z, x, rfl⟩ | q
    · exact WS.ahead (by omega)
    · exact q.less
  refine ⟨?_, ?_, ?_, ⟨by rw [show PP T c (b, 0).1 = PP T c b from rfl, n2, List.length_append, hlen]; rfl, W.len⟩, ?_, W.yin, ?_, W.ys, ?_, ?_, ?_, ?_, ?_, ?_, ?_⟩
  · intro v hv
    rcases List.mem_append.mp hv with hv | hv
    · exact W.lin v hv
    · rw [List.mem_singleton.mp hv]; exact ⟨_, hb⟩
  · intro p hp
    rcases List.mem_append.mp hp with hp | hp
    · exact W.pin p hp
    · rw [List.mem_singleton.mp hp]; exact ⟨hh.1, ha⟩
  · intro e he
    rcases List.mem_cons.mp he with rfl | he
    · exact ⟨⟨_, hb⟩, Nat.zero_le _, by rw [show RR T c (b, 0).1 = RR T c b from rfl, n1]; exact hh.2.2⟩
    · rcases List.mem_cons.mp he with rfl | he
      · exact ⟨hh.1, ha, hh.2.2⟩
      · exact W.sin e (by simp [he])
  · have hp := List.pairwise_cons.mp W.up
    refine List.pairwise_cons.mpr ⟨fun e he => ?_, List.pairwise_cons.mpr ⟨hp.1, hp.2⟩⟩
    rcases List.mem_cons.mp he with rfl | he
    · exact ⟨[], by
        show rk T c b = rk T c h ++ (2 * ((a + 1 : Nat) : Int) - 2) :: []
        rw [n3]
        congr 2
        omega⟩
    · obtain ⟨x, hx⟩ := hp.1 e he
      exact ⟨x ++ [2 * (a : Int)], by
        show rk T c b = _
        rw [n3, show rk T c h = rk T c (h, a).1 from rfl, hx]
        simp⟩
  · intro y hy
    rcases W.ylt y hy with q | ⟨h', s, q, r⟩
    · exact .inl q
    · exact .inr ⟨h', s, by simp [q], r⟩
  · refine List.pairwise_append.mpr ⟨W.logs, by simp, fun x hx e he => ?_⟩
    rw [List.mem_singleton.mp he, n3]
    exact W.v1 x hx _ (WS.ahead (by omega))
  · refine List.pairwise_append.mpr ⟨W.plss, by simp, fun x hx e he => ?_⟩
    rw [List.mem_singleton.mp he]
    exact W.v2 x hx _ (WS.ahead (by omega))
  · intro x hx f hf
    rcases List.mem_append.mp hx with hx | hx
    · exact W.v1 x hx f (less2 hf)
    · rw [List.mem_singleton.mp hx, n3]
      rcases less hf with ⟨z, y, rfl⟩ | q
      · have := lt_ext (rk T c h ++ [2 * (a : Int)]) z y
        rwa [List.append_assoc] at this
      · exact (W.min (Int.le_refl _) q).lt
  · intro x hx f hf
    rcases List.mem_append.mp hx with hx | hx
    · exact W.v2 x hx f (less2 hf)
    · rw [List.mem_singleton.mp hx]
      rcases less hf with ⟨z, y, rfl⟩ | q
      · exact (LD.pre _ (LD.hd (by omega))).lt
      · exact (W.min (by omega) q).lt
  · intro v hv
    rcases W.cov v hv with h1 | h1 | ⟨e, he, b', s, h1, h2, h3⟩
    · exact .inl (by simp [h1])
    · exact .inr (.inl h1)
    · rcases List.mem_cons.mp he with rfl | he
      · have h1 : a ≤ s := h1
        by_cases es : s = a
        · subst es
          have eb := w.inj b' b h s h2 hb
          subst eb
          rcases h3.first with rfl | ⟨b2, s2, g1, g2⟩
          · exact .inl (by simp)
          · exact .inr (.inr ⟨(b', 0), by simp, b2, s2, Nat.zero_le _, g1, g2⟩)
        · exact .inr (.inr ⟨(h, a + 1), by simp, b', s, by show a + 1 ≤ s; omega, h2, h3⟩)
      · exact .inr (.inr ⟨e, by simp [he], b', s, h1, h2, h3⟩)
  · intro v hv i hi
    rcases List.mem_append.mp hv with hv | hv
    · rcases W.cov2 v hv i hi with h1 | ⟨e, he, h1, h2⟩
      · exact .inl (by simp [h1])
      · rcases List.mem_cons.mp he with rfl | he
        · have h2 : a ≤ i := h2
          by_cases e : i = a
          · subst e
            exact .inl (by simp [← h1])
          · exact .inr ⟨(h, a + 1), by simp, h1, by show a + 1 ≤ i; omega⟩
        · exact .inr ⟨e, by simp [he], h1, h2⟩
    · rw [List.mem_singleton.mp hv]
      exact .inr ⟨(b, 0), by simp, rfl, Nat.zero_le _⟩
  · have := W.cnt
    simp only [List.map_cons, List.sum_cons, List.length_append, List.length_singleton] at this ⊢
    omega
/-- a far child -/
theorem WS.far (w : TW T dep) (hc1 : 1 ≤ c) {h a b : Nat} (ha : a < 40) (W : WS T c log pls ((h, a) :: stk) shelf R0) (hb : T[b]? = some (some (some (h, a)))) (hc : ¬ stk.length + 1 < c) :
    WS T c log (pls ++ [(h, a)]) ((h, a + 1) :: stk) (shelf ++ [b]) R0 := by
  have hh := W.sin (h, a) (by simp)
  have hlen : (PP T c h).length = stk.length := W.len.1
  have hpl : (PP T c h).length < c := piece_lt hc1 _
  obtain ⟨n1, n2⟩ := far_child w hb (by rw [hlen]; omega)
  have hR : RR T c h = R0 := hh.2.2
  rw [hR] at n1
  have less : ∀ {f : List Int}, Ah T c ((h, a + 1) :: stk) (shelf ++ [b]) R0 f → Ah T c ((h, a + 1) :: stk) shelf R0 f := by
    rintro f (q | q | ⟨y, hy, x, rfl⟩)
    · exact .inl q
    · exact .inr (.inl q)
    · rcases List.mem_append.mp hy with hy | hy
      · exact .inr (.inr ⟨y, hy, x, rfl⟩)
      · rw [List.mem_singleton.mp hy, n1, List.append_assoc]
        exact .inr (.inl ⟨_, rfl⟩)
  refine ⟨W.lin, ?_, ?_, W.len, ?_, ?_, ?_, ?_, W.logs, ?_, fun x hx f hf => W.v1 x hx f (less hf).less, ?_, ?_, ?_, ?_⟩
  · intro p hp
    rcases List.mem_append.mp hp with hp | hp
    · exact W.pin p hp
    · rw [List.mem_singleton.mp hp]; exact ⟨hh.1, ha⟩
  · intro e he
    rcases List.mem_cons.mp he with rfl | he
    · exact ⟨hh.1, ha, hh.2.2⟩
    · exact W.sin e (by simp [he])
  · have := List.pairwise_cons.mp W.up
    exact List.pairwise_cons.mpr ⟨this.1, this.2⟩
  · intro y hy
    rcases List.mem_append.mp hy with hy | hy
    · exact W.yin y hy
    · rw [List.mem_singleton.mp hy]; exact ⟨⟨_, hb⟩, n2⟩
  · intro y hy
    rcases List.mem_append.mp hy with hy | hy
    · rcases W.ylt y hy with q | ⟨h', s, q, r⟩
      · exact .inl q
      · exact .inr ⟨h', s, by simp [q], r⟩
    · rw [List.mem_singleton.mp hy]
      exact .inr ⟨h, a, by simp, n1, hR, by omega⟩
  · refine List.pairwise_append.mpr ⟨W.ys, by simp, fun y hy e he => ?_⟩
    rw [List.mem_singleton.mp he, n1]
    rcases W.ylt y hy with q | ⟨h', s, q, r1, r2, r3⟩
    · exact q.appl
    · rw [r1]
      refine LD.pre R0 (LD.pre [1] (neg_LD (by omega) ?_))
      have g := W.v2 (h', s) q (rk T c h ++ [2 * (a : Int) - 1]) (WS.ahead (Int.le_refl _))
      have e1 : srk T c (h', s) = R0 ++ (0 :: (posI (PP T c h') ++ [2 * (s : Int) - 1])) := by
        show (RR T c h' ++ 0 :: posI (PP T c h')) ++ [2 * (s : Int) - 1] = _
        rw [r2, List.append_assoc]
        rfl
      have e2 : rk T c h ++ [2 * (a : Int) - 1] = R0 ++ (0 :: (posI (PP T c h) ++ [2 * (a : Int) - 1])) := by
        show (RR T c h ++ 0 :: posI (PP T c h)) ++ [2 * (a : Int) - 1] = _
        rw [hR, List.append_assoc]
        rfl
      rw [e1, e2, lt_pre] at g
      exact (lt_pre [0]).mp g
  · refine List.pairwise_append.mpr ⟨W.plss, by simp, fun x hx e he => ?_⟩
    rw [List.mem_singleton.mp he]
    exact W.v2 x hx _ (WS.ahead (by omega))
  · intro x hx f hf
    rcases List.mem_append.mp hx with hx | hx
    · exact W.v2 x hx f (less hf).less
    · rw [List.mem_singleton.mp hx]
      exact (W.min (by omega) (less hf)).lt
  · intro v hv
    rcases W.cov v hv with h1 | ⟨y, hy, hd⟩ | ⟨e, he, b', s, h1, h2, h3⟩
    · exact .inl h1
    · exact .inr (.inl ⟨y, by simp [hy], hd⟩)
    · rcases List.mem_cons.mp he with rfl | he
      · have h1 : a ≤ s := h1
        by_cases es : s = a
        · subst es
          have eb := w.inj b' b h s h2 hb
          subst eb
          exact .inr (.inl ⟨b', by simp, h3⟩)
        · exact .inr (.inr ⟨(h, a + 1), by simp, b', s, by show a + 1 ≤ s; omega, h2, h3⟩)
      · exact .inr (.inr ⟨e, by simp [he], b', s, h1, h2, h3⟩)
  · intro v hv i hi
    rcases W.cov2 v hv i hi with h1 | ⟨e, he, h1, h2⟩
    · exact .inl (by simp [h1])
    · rcases List.mem_cons.mp he with rfl | he
      · have h2 : a ≤ i := h2
        by_cases e : i = a
        · subst e
          exact .inl (by simp [← h1])
        · exact .inr ⟨(h, a + 1), by simp, h1, by show a + 1 ≤ i; omega⟩
      · exact .inr ⟨e, by simp [he], h1, h2⟩
  · have := W.cnt
    simp only [List.map_cons, List.sum_cons, List.length_append, List.length_singleton] at this ⊢
    omega
theorem nodup_lt {α : Type} {f : α → List Int} : ∀ {l : List α}, l.Pairwise (fun a b => f a < f b) → l.Nodup := fun h => by
  refine h.imp ?_
  intro a b hab e
  subst e
  exact List.lt_irrefl _ hab
theorem log_len (w : TW T dep) (h : log.Pairwise fun a b => rk T c a < rk T c b) (hl : ∀ v ∈ log, Liv T v) : log.length ≤ T.length := by
  have := (nodup_lt h).length_le_of_subset (l₂ := List.range T.length) fun v hv => by
    obtain ⟨e, he⟩ := hl v hv
    exact List.mem_range.mpr (List.getElem?_eq_some_iff.mp he).1
  rwa [List.length_range] at this
end

/-- tuples of two numbers at ps -/
structure PlsAt (H : Hp) (ps : List Addr) (pls : List (Nat × Nat)) : Prop where
  len : ps.length = pls.length
  at_ : ∀ (i : Nat) (q : Addr) (p : Nat × Nat), ps[i]? = some q → pls[i]? = some p → H q = some (.tup [.int (p.1 : Int), .int (p.2 : Int)])
theorem PlsAt.keep {H H' : Hp} {ps : List Addr} {pls : List (Nat × Nat)} (h : PlsAt H ps pls) (k : Kt H H') : PlsAt H' ps pls :=
  ⟨h.len, fun i q p h1 h2 => k _ _ (h.at_ i q p h1 h2) (by intro xs z; cases z)⟩
theorem PlsAt.snoc {H : Hp} {ps : List Addr} {pls : List (Nat × Nat)} (h : PlsAt H ps pls) {q : Addr} {p : Nat × Nat} (hq : H q = some (.tup [.int (p.1 : Int), .int (p.2 : Int)])) : PlsAt H (ps ++ [q]) (pls ++ [p]) := by
  refine ⟨by rw [List.length_append, List.length_append, h.len]; rfl, fun i q' p' h1 h2 => ?_⟩
  have hl := h.len
  by_cases hi : i < ps.length
  · rw [List.getElem?_append_left hi] at h1
    rw [List.getElem?_append_left (by omega)] at h2
    exact h.at_ i q' p' h1 h2
  · rw [List.getElem?_append_right (by omega)] at h1
    rw [List.getElem?_append_right (by omega)] at h2
    have e1 := List.mem_singleton.mp (List.mem_of_getElem? h1)
    have e2 := List.mem_singleton.mp (List.mem_of_getElem? h2)
    rw [e1, e2]
    exact hq
/-- the stack's lists, the top first -/
inductive StkV (H : Hp) : List Addr → List (Nat × Nat) → Prop
  | nil : StkV H [] []
  | cons {a : Addr} {sa : List Addr} {h t : Nat} {stk : List (Nat × Nat)} : H a = some (.lst [.int (h : Int), .int (t : Int)]) → a ∉ sa → StkV H sa stk → StkV H (a :: sa) ((h, t) :: stk)
theorem StkV.keep {H H' : Hp} {S : List Addr} {sa : List Addr} {stk : List (Nat × Nat)} (h : StkV H sa stk) (k : Kx S H H') (n : ∀ a ∈ sa, a ∉ S) : StkV H' sa stk := by
  induction h with
  | nil => exact .nil
  | cons h1 h2 _ ih => exact .cons (k _ _ (n _ List.mem_cons_self) h1) h2 (ih fun a ha => n a (List.mem_cons_of_mem _ ha))
theorem StkV.len {H : Hp} {sa : List Addr} {stk : List (Nat × Nat)} (h : StkV H sa stk) : sa.length = stk.length := by
  induction h with
  | nil => rfl
  | cons _ _ _ ih => exact congrArg (· + 1) ih
theorem StkV.some {H : Hp} {sa : List Addr} {stk : List (Nat × Nat)} (h : StkV H sa stk) : ∀ a ∈ sa, ∃ xs, H a = Option.some (.lst xs) := by
  induction h with
  | nil => intro a ha; cases ha
  | cons h1 _ _ ih =>
    intro a ha
    rcases List.mem_cons.mp ha with rfl | ha
    · exact ⟨_, h1⟩
    · exact ih a ha
abbrev stkL (sa : List Addr) : List V := (sa.map V.ref).reverse
def stkD (stk : List (Nat × Nat)) : List PyData := (stk.map fun e => PyData.list [.int (e.1 : Int), .int (e.2 : Int)]).reverse
theorem dpAll_app {K : PySem.W.Frag} {H : Hp} : ∀ {xs : List V} {ds : List PyData} {ys : List V} {es : List PyData}, DpAll K H xs ds → DpAll K H ys es → DpAll K H (xs ++ ys) (ds ++ es)
  | _, _, _, _, .nil, g => g
  | _, _, _, _, .cons a t, g => .cons a (dpAll_app t g)
theorem dpAll_rev {K : PySem.W.Frag} {H : Hp} : ∀ {xs : List V} {ds : List PyData}, DpAll K H xs ds → DpAll K H xs.reverse ds.reverse
  | _, _, .nil => .nil
  | _ :: _, _ :: _, .cons a t => by
    rw [List.reverse_cons, List.reverse_cons]
    exact dpAll_app (dpAll_rev t) (.cons a .nil)
theorem StkV.dp {K : PySem.W.Frag} {H : Hp} {sa : List Addr} {stk : List (Nat × Nat)} (h : StkV H sa stk) : DpAll K H (stkL sa) (stkD stk) := by
  refine dpAll_rev ?_
  induction h with
  | nil => exact .nil
  | cons h1 _ _ ih => exact .cons (.lst (SqL.of h1) (.cons (.int _) (.cons (.int _) .nil))) ih
theorem lay_stk : ∀ ds : List PyData, (∀ d ∈ ds, ∃ x y : Int, d = .list [.int x, .int y]) → PyData.canLayAll0 ds = true ∧ PyData.depthAll ds ≤ 1
  | [], _ => ⟨by simp [PyData.canLayAll0], by simp [PyData.depthAll]⟩
  | d :: ds, h => by
    obtain ⟨x, y, rfl⟩ := h d List.mem_cons_self
    obtain ⟨h1, h2⟩ := lay_stk ds fun e he => h e (List.mem_cons_of_mem _ he)
    refine ⟨by simp [PyData.canLayAll0, PyData.canLay0, h1], ?_⟩
    simp only [PyData.depthAll, PyData.depth]
    omega
theorem shaped_stk (stk : List (Nat × Nat)) : SeqAt.shaped (.list (stkD stk)) = true := by
  obtain ⟨h1, h2⟩ := lay_stk (stkD stk) fun d hd => by
    unfold stkD at hd
    rw [List.mem_reverse] at hd
    obtain ⟨e, _, rfl⟩ := List.mem_map.mp hd
    exact ⟨_, _, rfl⟩
  unfold SeqAt.shaped
  simp only [PyData.canLay0, PyData.depth, h1, Bool.true_and, Bool.and_eq_true, decide_eq_true_eq]
  exact decide_eq_true (by omega)
theorem x_neStk {K : PySem.W.Frag} {H : Hp} {Q : VK} {a b : Addr} {sa : List Addr} {stk : List (Nat × Nat)} (h : H a = some (.lst (stkL sa))) (hs : StkV H sa stk) (hb : SqL K H b []) (q : Q (.bl (!stk.isEmpty)) H) : rNeD K (.ref a) (.ref b) H Q := by
  refine x_neNilD (SqL.of h) hs.dp (shaped_stk stk) hb ?_
  have : (stkD stk).isEmpty = stk.isEmpty := by
    unfold stkD
    cases stk with
    | nil => rfl
    | cons e r => simp
  rw [this]
  exact q
/-- the children by their slots -/
def ChD (kvs : List (List Key × V)) (T : List Ent) (n : Nat) : Prop := ∀ h s : Nat,
  (∀ b : Nat, b < n → T[b]? = some (some (some (h, s))) → valV kvs [.inl (h : Int), .inl (s : Int)] = some (.int (b : Int))) ∧ ((∀ b : Nat, b < n → T[b]? ≠ some (some (some (h, s)))) → valV kvs [.inl (h : Int), .inl (s : Int)] = none)
theorem ChD.nil (T : List Ent) : ChD [] T 0 := fun _ _ => ⟨fun _ h => absurd h (Nat.not_lt_zero _), fun _ => rfl⟩
theorem ChD.skip {kvs : List (List Key × V)} {T : List Ent} {n : Nat} (h : ChD kvs T n) (g : ∀ q, T[n]? ≠ some (some (some q))) : ChD kvs T (n + 1) := by
  intro a s
  refine ⟨fun b hb e => ?_, fun q => (h a s).2 fun b hb => q b (by omega)⟩
  by_cases eb : b = n
  · subst eb
    exact absurd e (g _)
  · exact (h a s).1 b (by omega) e
theorem ChD.put {kvs : List (List Key × V)} {T : List Ent} {dep : Nat → Nat} {n : Nat} (w : TW T dep) (h : ChD kvs T n) {a s : Nat} (e : T[n]? = some (some (some (a, s)))) : ChD (putK kvs [.inl (a : Int), .inl (s : Int)] (.int (n : Int))) T (n + 1) := by
  intro a' s'
  rw [valV_put]
  by_cases hk : ([Sum.inl (a' : Int), Sum.inl (s' : Int)] : List Key) = [Sum.inl (a : Int), Sum.inl (s : Int)]
  · rw [if_pos hk]
    have e1 := List.cons.inj hk
    have e2 := List.cons.inj e1.2
    have ha : a' = a := Int.ofNat.inj (Sum.inl.inj e1.1)
    have hs : s' = s := Int.ofNat.inj (Sum.inl.inj e2.1)
    subst ha hs
    refine ⟨fun b _ eb => ?_, fun q => absurd e (q n (Nat.lt_succ_self _))⟩
    rw [w.inj b n a' s' eb e]
  · rw [if_neg hk]
    refine ⟨fun b hb eb => ?_, fun q => (h a' s').2 fun b hb => q b (by omega)⟩
    by_cases ebn : b = n
    · subst ebn
      rw [e] at eb
      have := Option.some.inj (Option.some.inj (Option.some.inj eb))
      cases this
      exact absurd rfl hk
    · exact (h a' s').1 b (by omega) eb
theorem hent {K : PySem.W.Frag} {H H2 : Hp} {vs : List V} {T : List Ent} (hV : TreeV K H vs T) (k2 : Kx [] H H2) {i : Nat} {x : V} (hx : vs[i]? = some x) : ∃ e, T[i]? = some e ∧ EntV K H2 x e := by
  have hi : i < T.length := by
    rw [← hV.len]
    exact (List.getElem?_eq_some_iff.mp hx).1
  obtain ⟨v, hv, hE⟩ := hV.at_ i T[i] (List.getElem?_eq_getElem hi)
  rw [hx] at hv
  cases Option.some.inj hv
  exact ⟨_, List.getElem?_eq_getElem hi, hE.keep (Kt.of0 k2)⟩
def rootsL (T : List Ent) (n : Nat) : List Nat := (List.range n).filter fun v => decide (T[v]? = some (some none))
theorem rootsL_succ (T : List Ent) (n : Nat) : rootsL T (n + 1) = rootsL T n ++ (if T[n]? = some (some none) then [n] else []) := by
  unfold rootsL
  rw [List.range_succ, List.filter_append]
  by_cases e : T[n]? = some (some none)
  · simp [List.filter, e]
  · simp [List.filter, e]
theorem rootsL_len (T : List Ent) (n : Nat) : (rootsL T n).length ≤ n := by
  unfold rootsL
  have := List.length_filter_le (fun v => decide (T[v]? = some (some none))) (List.range n)
  rwa [List.length_range] at this
theorem rootsL_one {T : List Ent} {dep : Nat → Nat} (w : TW T dep) {r : Nat} (hr : T[r]? = some (some none)) : ∀ n : Nat, rootsL T n = if r < n then [r] else []
  | 0 => rfl
  | n + 1 => by
    rw [rootsL_succ, rootsL_one w hr n]
    by_cases h1 : r = n
    · subst h1
      rw [if_neg (Nat.lt_irrefl _), if_pos hr, if_pos (Nat.lt_succ_self _)]
      rfl
    · rw [if_neg (fun e => h1 (w.one _ _ hr e)), List.append_nil]
      by_cases h2 : r < n
      · rw [if_pos h2, if_pos (by omega)]
      · rw [if_neg h2, if_neg (by omega)]
theorem piece_le (c : Nat) : ∀ l : List Nat, (stt c l).2.length ≤ l.length := fun l => by
  have gen : ∀ (l : List Nat) (S : List Int × List Nat), (l.foldl (stp c) S).2.length ≤ S.2.length + l.length := by
    intro l
    induction l with
    | nil => intro S; exact Nat.le_refl _
    | cons s r ih =>
      intro S
      refine Nat.le_trans (ih (stp c S s)) ?_
      have : (stp c S s).2.length ≤ S.2.length + 1 := by
        unfold stp
        split
        · exact Nat.zero_le _
        · show (S.2 ++ [s]).length ≤ _
          rw [List.length_append]
          exact Nat.le_refl _
      rw [List.length_cons]
      omega
  have := gen l ([], [])
  rw [show (([], []) : List Int × List Nat).2.length = 0 from rfl, Nat.zero_add] at this
  exact this
theorem LD.irr {u : List Int} (h : LD u u) : False := List.lt_irrefl _ h.lt
theorem shelf_len {T : List Ent} {c : Nat} {shelf : List Nat} (h : shelf.Pairwise fun a b => LD (RR T c b) (RR T c a)) (hl : ∀ y ∈ shelf, Liv T y) : shelf.length ≤ T.length := by
  have nd : shelf.Nodup := h.imp (by
    intro a b hab e
    subst e
    exact hab.irr)
  have := nd.length_le_of_subset (l₂ := List.range T.length) fun v hv => by
    obtain ⟨e, he⟩ := hl v hv
    exact List.mem_range.mpr (List.getElem?_eq_some_iff.mp he).1
  rwa [List.length_range] at this
theorem stk_len {T : List Ent} {dep : Nat → Nat} (w : TW T dep) {c : Nat} {log : List Nat} {pls stk : List (Nat × Nat)} {shelf : List Nat} {R0 : List Int} (W : WS T c log pls stk shelf R0) : stk.length ≤ 40 := by
  cases stk with
  | nil => exact Nat.zero_le _
  | cons e r =>
    obtain ⟨h1, _, _⟩ := W.sin e (by simp)
    obtain ⟨l, hl, hd⟩ := w.path _ e.1 rfl h1
    have h2 := piece_le c (pa T e.1)
    rw [pa_of hl] at h2
    have h3 : (stt c (pa T e.1)).2.length = r.length := W.len.1
    rw [pa_of hl] at h3
    obtain ⟨q, hq⟩ := h1
    have h4 := w.lim _ _ hq
    have h5 := w.most
    rw [List.length_cons]
    omega
theorem stkL_cons (a : Addr) (sa : List Addr) : stkL (a :: sa) = stkL sa ++ [V.ref a] := by
  unfold stkL
  rw [List.map_cons, List.reverse_cons]
theorem stkL_len (sa : List Addr) : (stkL sa).length = sa.length := by
  unfold stkL
  rw [List.length_reverse, List.length_map]
theorem x_dnewT {σ : SS} {H : Hp} {Q : VK} (q : ∀ p, H p = none → Q (.ref p) (upd H p (.dT []))) : tDNewT σ H Q := q
theorem getLast_get (ys : List V) (y : V) : (ys ++ [y])[(ys ++ [y]).length - 1]? = some y := by simp

/-! ### calls by position and by name -/
structure Lkx (P : Program) (w : World) (K : PySem.W.Frag) (mg : Str → Option Value) (base : Heap) (x : Str) (k : Nat) (ps ks : List Str) (gV : List V → List V → List V) (sp : Sp) : Prop where
  ex : ∃ (f : Addr) (fd : FuncData) (g : List Value → List Value → List Value), FnOk P w K mg base CX0 k f fd ps sp ∧ mg x = some (.ref f) ∧ PySem.W.keepIn K (.ref f) = true ∧ KBinds K fd ps ks g gV
section
variable {X : Cx} {k : Nat} {x : Str} {ps ks : List Str} {sp : Sp} {e : Expr} {es : List Expr} {p pos : Pos} {t tk : TA} {kws : List Keyword} {gV : List V → List V → List V}
theorem pe_lkx (L : Lkx X.prog X.w X.K X.mg X.base x k ps ks gV sp) (hr : Room k X.A) (hg : Gl X x) (ha : PA X (e :: es) t) (hkw : PK X kws tk)
    (hall : (backToKw pos (keywordEach kws X.env)).all (·.1.isSome) = true := by rfl) (hks : (backToKw pos (keywordEach kws X.env)).filterMap (·.1) = ks := by rfl)
    (hdb : (x == ("__debug__" : Str)) = false := by decide) (he : starEach (e :: es) X.env = (false, eval e X.env) :: starEach es X.env := by rfl)
    (hpl : ((backTo pos (starEach (e :: es) X.env)).any (·.1) || (backToKw pos (keywordEach kws X.env)).any (·.1.isNone)) = false := by rfl) :
    PE X (.Call (.Name x p) (e :: es) kws pos) (tCallK sp gV E0 t tk) := by
  obtain ⟨f, fd, g, F, hm, hk, hb⟩ := L.ex
  exact pe_callK F hr hg hm hk hb pass0 ha hkw hall hks hdb he hpl
end
theorem x_kwx {σ : SS} {H : Hp} {Q : VK} {sp : Sp} {gV : List V → List V → List V} {t tk : TA} (q : t σ H fun vs H1 => tk σ H1 fun zs H2 => sp (gV vs zs) H2 Q E0) : tCallK sp gV E0 t tk σ H Q := q
/-- n by position, then m by name in their order -/
def gApp (n m : Nat) {α : Type} (us ws : List α) : List α := if us.length = n ∧ ws.length = m then us ++ ws else []
/-- n by name, the other way round -/
def gRev (n : Nat) {α : Type} (ws : List α) : List α := if ws.length = n then ws.reverse else []
theorem vals_app {vs zs : List V} {us ws : List Value} (r : Vals vs us) (q : Vals zs ws) : Vals (vs ++ zs) (us ++ ws) := by
  induction r with
  | nil => exact q
  | cons h _ ih => exact .cons h ih
theorem vals_rev {vs : List V} {us : List Value} (r : Vals vs us) : Vals vs.reverse us.reverse := by
  induction r with
  | nil => exact .nil
  | cons h _ ih =>
    rw [List.reverse_cons, List.reverse_cons]
    exact vals_app ih (.cons h .nil)
theorem gApp_rel {n m : Nat} {vs zs : List V} {us ws : List Value} (r : Vals vs us) (q : Vals zs ws) : Vals (gApp n m vs zs) (gApp n m us ws) := by
  unfold gApp
  rw [r.length, q.length]
  split
  · exact vals_app r q
  · exact .nil
theorem gRev_rel {n : Nat} {zs : List V} {ws : List Value} (q : Vals zs ws) : Vals (gRev n zs) (gRev n ws) := by
  unfold gRev
  rw [q.length]
  split
  · exact vals_rev q
  · exact .nil
theorem gApp_to {n m : Nat} {α : Type} {us ws : List α} (h : (gApp n m us ws).length = n + m) (h0 : 0 < n + m) : us.length = n ∧ ws.length = m := by
  unfold gApp at h
  split at h
  · assumption
  · rw [List.length_nil] at h; omega
theorem gRev_to {n : Nat} {α : Type} {ws : List α} (h : (gRev n ws).length = n) (h0 : 0 < n) : ws.length = n := by
  unfold gRev at h
  split at h
  · assumption
  · rw [List.length_nil] at h; omega
theorem len1 {α : Type} {l : List α} (h : l.length = 1) : ∃ a, l = [a] := by
  match l, h with
  | [a], _ => exact ⟨a, rfl⟩
theorem len2 {α : Type} {l : List α} (h : l.length = 2) : ∃ a b, l = [a, b] := by
  match l, h with
  | [a, b], _ => exact ⟨a, b, rfl⟩
theorem len3 {α : Type} {l : List α} (h : l.length = 3) : ∃ a b c, l = [a, b, c] := by
  match l, h with
  | [a, b, c], _ => exact ⟨a, b, c, rfl⟩
theorem len4 {α : Type} {l : List α} (h : l.length = 4) : ∃ a b c d, l = [a, b, c, d] := by
  match l, h with
  | [a, b, c, d], _ => exact ⟨a, b, c, d, rfl⟩
/-! ### the log as the sorted list of the nodes -/
noncomputable def dOf (T : List Ent) (c v : Nat) : PyData := .tuple [.list ((rk T c v).map .int), .int (v : Int)]
noncomputable def tlog (T : List Ent) (c : Nat) (ns : List Nat) : List Nat := ns.mergeSort (PySem.W.dataLe false (dOf T c))
theorem eqv_li : ∀ ns ms : List Int, PyData.eqvAll (ns.map .int) (ms.map .int) = decide (ns = ms)
  | [], [] => rfl
  | [], _ :: _ => rfl
  | _ :: _, [] => rfl
  | a :: r, b :: s => by
    rw [List.map_cons, List.map_cons]
    show (PyData.eqv (.int a) (.int b) && PyData.eqvAll (r.map .int) (s.map .int)) = _
    rw [eqv_li r s]
    show ((a == b) && decide (r = s)) = _
    by_cases h1 : a = b <;> by_cases h2 : r = s <;> simp [h1, h2]
theorem dataLt_dOf (T : List Ent) (c u v : Nat) : PySem.W.dataLt (dOf T c u) (dOf T c v) = if rk T c u = rk T c v then decide (u < v) else decide (rk T c u < rk T c v) := by
  have h1 : PySem.W.alike (.list ((rk T c u).map .int)) (.list ((rk T c v).map .int)) = true := by
    show PySem.W.alikeAll _ _ = true
    exact PySem.W.alike_ints _ _
  unfold dOf
  rw [PySem.W.dataLt_pair h1 (by rfl)]
  have e1 : PyData.eqv (.list ((rk T c u).map .int)) (.list ((rk T c v).map .int)) = decide (rk T c u = rk T c v) := eqv_li _ _
  rw [e1, dataLt_li, PySem.W.dataLt_int]
  have e2 : PyData.eqv (.int (u : Int)) (.int (v : Int)) = decide (u = v) := by
    show ((u : Int) == (v : Int)) = _
    by_cases h : u = v
    · simp [h]
    · have h' : ¬ (u : Int) = (v : Int) := by omega
      simp [h, h']
  rw [e2]
  by_cases h : rk T c u = rk T c v
  · rw [if_pos (decide_eq_true h), if_pos h]
    by_cases h2 : u = v
    · subst h2; simp
    · rw [if_neg (by simpa using h2)]
      simp
  · rw [if_neg (by simpa using h), if_neg h]
theorem tlog_total (T : List Ent) (c : Nat) : PySem.W.TotalLe (PySem.W.dataLe false (dOf T c)) := PySem.W.sortLe_total _ _ _
theorem dataLe_dOf (T : List Ent) (c u v : Nat) : PySem.W.dataLe false (dOf T c) u v = !(PySem.W.dataLt (dOf T c v) (dOf T c u)) := by
  rw [PySem.W.dataLe_eq]
  rfl
theorem pw_mem {α : Type} {R : α → α → Prop} : ∀ {l : List α}, l.Pairwise R → ∀ a ∈ l, ∀ b ∈ l, a = b ∨ R a b ∨ R b a
  | [], _, a, ha, _, _ => by cases ha
  | x :: l, h, a, ha, b, hb => by
    obtain ⟨h1, h2⟩ := List.pairwise_cons.mp h
    rcases List.mem_cons.mp ha with ea | ha'
    · rcases List.mem_cons.mp hb with eb | hb'
      · exact .inl (ea.trans eb.symm)
      · rw [ea]; exact .inr (.inl (h1 b hb'))
    · rcases List.mem_cons.mp hb with eb | hb'
      · rw [eb]; exact .inr (.inr (h1 a ha'))
      · exact pw_mem h2 a ha' b hb'
theorem tlog_eq {T : List Ent} {c : Nat} {log : List Nat} (hl : log.Pairwise fun a b => rk T c a < rk T c b) {ns : List Nat} (hp : log.Perm ns) : tlog T c ns = log := by
  have hno : ∀ a b, rk T c a < rk T c b → PySem.W.dataLe false (dOf T c) a b = true ∧ PySem.W.dataLe false (dOf T c) b a = false := by
    intro a b h
    have hne : rk T c a ≠ rk T c b := fun e => List.lt_irrefl _ (e ▸ h)
    rw [dataLe_dOf, dataLe_dOf, dataLt_dOf, dataLt_dOf, if_neg hne.symm, if_neg hne]
    have h2 : ¬ rk T c b < rk T c a := fun g => List.lt_irrefl _ (List.lt_trans h g)
    simp [h, h2]
  refine List.Perm.eq_of_pairwise (le := fun a b => PySem.W.dataLe false (dOf T c) a b = true) (fun a b ha hb h1 h2 => ?_) (PySem.W.sort_pairwise (tlog_total T c) ns) (hl.imp fun h => (hno _ _ h).1) ((List.mergeSort_perm ns _).trans hp.symm)
  have ha2 : a ∈ log := hp.mem_iff.mpr ((List.mergeSort_perm ns _).mem_iff.mp ha)
  rcases pw_mem hl a ha2 b hb with e | h | h
  · exact e
  · rw [(hno _ _ h).2] at h2; cases h2
  · rw [(hno _ _ h).2] at h1; cases h1
theorem tlog_congr {T : List Ent} {c c' : Nat} {ns : List Nat} (h : ∀ v ∈ ns, rk T c v = rk T c' v) : tlog T c ns = tlog T c' ns := by
  have := List.map_mergeSort (r := PySem.W.dataLe false (dOf T c)) (s := PySem.W.dataLe false (dOf T c')) (f := id) (l := ns) fun a ha b hb => by
    rw [dataLe_dOf, dataLe_dOf, dataLt_dOf, dataLt_dOf, h a ha, h b hb]
    rfl
  rwa [List.map_id, List.map_id] at this
theorem stt_all {c : Nat} : ∀ {l : List Nat}, l.length < c → stt c l = ([], l) := fun {l} h => by
  rcases List.eq_nil_or_concat l with rfl | ⟨m, s, rfl⟩
  · rfl
  · rw [List.concat_eq_append, List.length_append, List.length_singleton] at h
    rw [List.concat_eq_append, stt_snoc, stt_all (by omega)]
    unfold stp
    rw [if_neg (by show ¬ c ≤ m.length + 1; omega)]
termination_by l => l.length
decreasing_by
  rename_i h
  simp_all
theorem rk_all {T : List Ent} {dep : Nat → Nat} (w : TW T dep) {c c' v : Nat} (h : T.length ≤ c) (h' : T.length ≤ c') (hv : Liv T v) : rk T c v = rk T c' v := by
  obtain ⟨l, hl, hd⟩ := w.path _ v rfl hv
  obtain ⟨e, he⟩ := hv
  have := w.lim v e he
  show rkL c (pa T v) = rkL c' (pa T v)
  rw [pa_of hl]
  unfold rkL
  rw [stt_all (by omega), stt_all (by omega)]
theorem x_rg2 {σ : SS} {H : Hp} {ta tb : TE} {QR : Int → Int → Hp → Prop} (q : ta σ H fun x H1 => tb σ H1 fun y H2 => ∃ n m, x = .int n ∧ y = .int m ∧ QR n m H2) : tRg2 ta tb σ H QR := q
theorem x_int2 {i j : Int} {R : Int → Int → Prop} (q : R i j) : ∃ n m, V.int i = .int n ∧ V.int j = .int m ∧ R n m := ⟨i, j, rfl, rfl, q⟩
theorem x_isIf {c : TT} {s1 s2 s3 : TS} {D : Ends} {σ : SS} {H : Hp} (q : tSeq (tIfS c s1 s2) s3 D σ H) : tSeq (tIfS c s1 s2) s3 D σ H := q

section
variable {X : Cx}
def boolS (b : Bool) : Str := if b then "True" else "False"
def rReprB : List V → Hp → VK → Prop := fun xs H Q => ∃ b, xs = [.bl b] ∧ Q (.str (boolS b)) H
theorem call_reprB : CallR X (.builtin "repr") rReprB := by
  intro pins s σ H xs us Q I r h
  obtain ⟨b, rfl, q⟩ := h
  obtain ⟨u, rfl, ru⟩ := vals1 r
  obtain rfl : u = Value.bool b := ru
  exact PySem.P.repr_of_bool ⟨.str (boolS b), H, I.tok _, ⟨_, rfl⟩, q⟩
end
theorem x_reprB {H : Hp} {Q : VK} {b : Bool} (q : Q (.str (boolS b)) H) : rReprB [.bl b] H Q := ⟨b, rfl, q⟩
/-- the number of each of the places -/
def AtD (kvs : List (List Key × V)) (pls : List (Nat × Nat)) (n : Nat) : Prop := ∀ (j : Nat) (p : Nat × Nat), j < n → pls[j]? = some p → valV kvs [.inl (p.1 : Int), .inl (p.2 : Int)] = some (.int (j : Int))
theorem AtD.put {kvs : List (List Key × V)} {pls : List (Nat × Nat)} {n : Nat} (h : AtD kvs pls n) (nd : pls.Nodup) {p : Nat × Nat} (e : pls[n]? = some p) : AtD (putK kvs [.inl (p.1 : Int), .inl (p.2 : Int)] (.int (n : Int))) pls (n + 1) := by
  intro j q hj hq
  rw [valV_put]
  by_cases hk : ([Sum.inl (q.1 : Int), Sum.inl (q.2 : Int)] : List Key) = [Sum.inl (p.1 : Int), Sum.inl (p.2 : Int)]
  · rw [if_pos hk]
    have e1 := List.cons.inj hk
    have e2 := List.cons.inj e1.2
    have h1 : q.1 = p.1 := Int.ofNat.inj (Sum.inl.inj e1.1)
    have h2 : q.2 = p.2 := Int.ofNat.inj (Sum.inl.inj e2.1)
    have hqp : q = p := Prod.ext h1 h2
    subst hqp
    have := (List.getElem?_inj (List.getElem?_eq_some_iff.mp hq).1 nd).mp (hq.trans e.symm)
    rw [this]
  · rw [if_neg hk]
    refine h j q ?_ hq
    refine Nat.lt_of_le_of_ne (Nat.le_of_lt_succ hj) fun ej => ?_
    subst ej
    rw [hq] at e
    cases Option.some.inj e
    exact hk rfl
theorem pls_lt {T : List Ent} {c : Nat} {pls : List (Nat × Nat)} (h : pls.Pairwise fun a b => srk T c a < srk T c b) {i j : Nat} {p q : Nat × Nat} (hi : pls[i]? = some p) (hj : pls[j]? = some q) : decide (srk T c p < srk T c q) = decide (i < j) := by
  have lt : ∀ {i j : Nat} {p q : Nat × Nat}, pls[i]? = some p → pls[j]? = some q → i < j → srk T c p < srk T c q := by
    intro i j p q hi hj hij
    obtain ⟨h1, e1⟩ := List.getElem?_eq_some_iff.mp hi
    obtain ⟨h2, e2⟩ := List.getElem?_eq_some_iff.mp hj
    have := List.pairwise_iff_getElem.mp h i j h1 h2 hij
    rwa [e1, e2] at this
  rcases Nat.lt_trichotomy i j with h1 | h1 | h1
  · rw [decide_eq_true h1, decide_eq_true (lt hi hj h1)]
  · subst h1
    rw [hi] at hj
    cases Option.some.inj hj
    rw [decide_eq_false (List.lt_irrefl _), decide_eq_false (Nat.lt_irrefl _)]
  · rw [decide_eq_false (fun h => List.lt_irrefl _ (List.lt_trans h (lt hj hi h1))), decide_eq_false (by omega)]
theorem eqv_int2 (a b c d : Nat) : PyData.eqv (.tuple [.int (a : Int), .int (b : Int)]) (.tuple [.int (c : Int), .int (d : Int)]) = decide ((a, b) = (c, d)) := by
  show (PyData.eqv (.int (a : Int)) (.int (c : Int)) && (PyData.eqv (.int (b : Int)) (.int (d : Int)) && true)) = _
  show (((a : Int) == (c : Int)) && (((b : Int) == (d : Int)) && true)) = _
  by_cases h1 : a = c
  · by_cases h2 : b = d
    · subst h1 h2; simp
    · have h2' : ¬ (b : Int) = (d : Int) := by omega
      simp [h1, h2, h2']
  · have h1' : ¬ (a : Int) = (c : Int) := by omega
    simp [h1, h1']
theorem x_neP {K : PySem.W.Frag} {H : Hp} {Q : VK} {x y : Addr} {a b c d : Nat} (h : H x = some (.tup [.int (a : Int), .int (b : Int)])) (h2 : H y = some (.tup [.int (c : Int), .int (d : Int)])) (q : Q (.bl (!decide ((a, b) = (c, d)))) H) : rNeD K (.ref x) (.ref y) H Q :=
  ⟨_, _, .tup (SqT.of h) (.cons (.int _) (.cons (.int _) .nil)), .tup (SqT.of h2) (.cons (.int _) (.cons (.int _) .nil)), shaped_int2 _ _, shaped_int2 _ _, by rw [eqv_int2]; exact q⟩
theorem x_isBl {H : Hp} {Q : VK} {a b : Bool} (q : Q (.bl (decide (a = b))) H) : rIsB (.bl a) (.bl b) H Q := ⟨a, b, rfl, rfl, q⟩
theorem log_mem {T : List Ent} {dep : Nat → Nat} (w : TW T dep) {c : Nat} {log : List Nat} {pls : List (Nat × Nat)} (h : WO T c log pls []) {v : Nat} : v ∈ log ↔ Liv T v := by
  constructor
  · exact h.lin v
  · intro hv
    rcases h.cov v hv with h1 | ⟨y, hy, _⟩
    · exact h1
    · cases hy

/-! ### own exception classes over any built-in base, whose __init__ stores -/
structure ExB (K : PySem.W.Frag) (C : Addr) (bmB : List Value) (newId : String) : Prop where
  inn : PySem.W.excInitIn K C bmB newId = true
  ov : PySem.W.excOver K C bmB = true
  hd : PySem.W.hasDictIn K C = true
  sa : PySem.W.findIn K (.ref C) "__setattr__" = some (some (.builtin "object.__setattr__"))
  exC : PySem.W.subIn K (.ref C) (.type "BaseException") = some true
  tyC : PySem.W.typeIn K (.ref C) = some (.type "type")
  kC : PySem.W.keepIn K (.ref C) = true
/-- the three bases' facts -/
structure ExF (B newId initId : String) (bmB : List Value) : Prop where
  so : StoreFacts B bmB "object.__setattr__" "object"
  ba : ExcBaseFacts B newId initId bmB
section
variable {X : Cx} {pins : List (Addr × Obj)} {σ : L2.St} {H : Hp} {s : Shared} {a C : Addr} {f : Str} {y : V} {u : Value} {Q : Unit → Shared → Prop} {E : Value → Shared → Prop} {A : Around} {B newId initId : String} {bmB : List Value}
/-- self.f = y, the first store into a new exception -/
theorem stB_new (FB : ExF B newId initId bmB) (T : ExB X.K C bmB newId) (I : Inv X pins σ H s) (e : H a = some (exo a C none)) (hno : PySem.W.takerIn X.K C f = some none) (ry : RelV y u)
    (h : ∀ dx s', H dx = none → dx ≠ a → Inv X pins σ (upd (upd H dx (exd dx [(f, y)])) a (exo a C (some dx))) s' → Q () s') : wpAny (model X.prog X.w) A (setAttr (.ref a) f u) Q E s := by
  obtain ⟨t1, ho⟩ := exo_at I.hok e
  obtain ⟨cd, hc, hdct⟩ := PySem.W.any_some T.hd
  obtain ⟨hp, g, d, t, os⟩ := s
  have lt : a < hp.objs.size := Heap.lt_size ho
  refine PySem.W.set_plain I.kIn (ox := { cls := .ref C, dict := none, data := .fields #[.ref t1, .none, .none, .none, .bool false, .none] }) (od := none) ⟨ho, rfl, rfl, trivial⟩ T.sa ?_
  refine PySem.W.osa_openX (od := none) FB.so I.kIn ⟨ho, rfl, rfl, trivial⟩ T.ov hno fun b => ?_
  refine wpAny_bind (wpAny_pure (wpAny_bind (PySem.W.instanceDict_exc ho (PySem.W.looks_clsIn I.kIn hc) hdct ?_)))
  show wpAny _ _ (Builtin.ObjectAttr.storeInDict hp.objs.size (.str f _) f u) _ _ _
  have hne : a ≠ hp.objs.size := Nat.ne_of_lt lt
  refine PySem.HandSPX.store_in_new ⟨_, #[], _, (Heap.get?_update_ne _ _ _ _ hne.symm).trans (Heap.get?_push_at rfl rfl), rfl, fun e he => absurd he (by simp), fun _ => rfl⟩ fun h' tk' hn' hs => ?_
  have ha1 : (hp.push (PySem.W.dictOf [] 0)).get? a = some { cls := .ref C, dict := none, data := .fields #[.ref t1, .none, .none, .none, .bool false, .none] } := Heap.get?_push_of_some _ ho
  have kp : ∀ b o, b ≠ a → hp.get? b = some o → h'.get? b = some o := fun b o hb q =>
    (hs.2 b (Nat.ne_of_lt (Heap.lt_size q))).trans ((Heap.get?_update_ne _ _ _ _ hb).trans (Heap.get?_push_of_some _ q))
  have hx : h'.get? a = some { cls := .ref C, dict := some hp.objs.size, data := .fields #[.ref t1, .none, .none, .none, .bool false, .none] } := (hs.2 a hne).trans (Heap.get?_update_self _ ha1 rfl)
  have nx : H hp.objs.size = none := I.hok.fresh (Nat.le_refl _)
  have nb : ∀ {b : Addr} {o : Obj}, hp.get? b = some o → b ≠ hp.objs.size := fun q => Nat.ne_of_lt (Heap.lt_size q)
  have na : ∀ {b : Addr}, H b = none → b ≠ a := fun n z => by rw [z, e] at n; cases n
  have two : ∀ {b : Addr} {o : HO}, H b = some o → (exo a C none ≠ o) → upd (upd H hp.objs.size (exd hp.objs.size [(f, y)])) a (exo a C (some hp.objs.size)) b = some o := fun {b o} q n => by
    rw [upd_ne (at_ne e q n), upd_ne (ne_of_none q nx)]
    exact q
  refine h hp.objs.size ⟨h', g, d, tk', os⟩ nx hne.symm (I.un (t' := tk') ⟨fun b o q n _ _ => kp b o (na n) q, fun b o q n _ _ => ⟨o.slots, kp b o (na n) q⟩, fun b o q n _ => by rw [upd_ne (na n), upd_ne (nb q)]; exact n, fun b o q _ => ?_, fun b xs q => two q exo_tup, fun b o v q => two q exo_frz, fun b ps q => ⟨#[], by rw [two q exo_tbl]; simp⟩⟩ fun b o q => ?_)
  · by_cases hb : b = a
    · exact ⟨_, by rw [hb]; exact hx⟩
    · exact ⟨o, kp b o hb q⟩
  · by_cases hb : b = a
    · subst hb
      rw [upd_same] at q
      cases q
      exact exo_ok hx
    · rw [upd_ne hb] at q
      by_cases hd : b = hp.objs.size
      · subst hd
        rw [upd_same] at q
        cases q
        exact exd_ok hn' (relO_put (fs := []) ry fun _ => True.intro)
      · rw [upd_ne hd] at q
        refine (I.hok b o q).stay (fun c v hc z => kp c v ?_ z) (fun c hc => two hc exo_own) fun c xs hc => two hc exo_tup
        rcases hc with hc | hc
        · rw [hc]; exact hb
        · exact at_ne e hc exo_own
end
section
variable {X : Cx} {o e : Expr} {es : List Expr} {to te : TE} {ta : TA} {f : Str} {p p' p1 p2 pos : Pos} {B newId initId : String} {bmB : List Value}
/-- self.f = e -/
def tStB (K : PySem.W.Frag) (bmB : List Value) (newId : String) (f : Str) (to te : TE) : TS := fun D σ H => te σ H fun y H1 => to σ H1 fun x H2 => ∃ a C : Addr, x = .ref a ∧ ExB K C bmB newId ∧ PySem.W.takerIn K C f = some none ∧ H2 a = some (exo a C none) ∧
  ∀ dx, H2 dx = none → dx ≠ a → D.nx σ (upd (upd H2 dx (exd dx [(f, y)])) a (exo a C (some dx)))
theorem ps_stB (FB : ExF B newId initId bmB) (ho : PE X o to) (he : PE X e te) (hs : swapsWith e (some (.Attribute o f p')) pos.line X.env = pure false := by rfl) : PS X (.Assign [.Attribute o f p'] e pos) (tStB X.K bmB newId f to te) := by
  refine ⟨fun pins s σ H D I h => ?_⟩
  refine plainObj_wpAny_Assign_Attribute (thn (he.run pins s σ H _ I h) fun v s1 hv => ?_) hs
  obtain ⟨y, H1, I1, r1, q1⟩ := hv
  refine thn (ho.run pins s1 σ H1 _ I1 q1) fun u s2 hu => ?_
  obtain ⟨x, H2, I2, r2, a, C, rfl, T, hno, ea, q⟩ := hu
  obtain rfl : u = Value.ref a := r2
  exact stB_new FB T I2 ea hno r1 fun dx s' n ne J => ⟨σ, _, J, q dx n ne⟩
/-- C(e, ..): by the promise of its __init__ -/
def tMkB (C : Addr) (sp : Sp) (ta : TA) : L2.St → Hp → XK → Prop := fun σ H Q => ta σ H fun vs H1 => vs.length ≤ 1000 ∧ ∀ a, H1 a = none → sp (.ref a :: vs) (upd H1 a (exo a C none))
  (fun v H2 => v = .non ∧ ∃ (d : Addr) (fs : List (Str × V)), H2 a = some (exo a C (some d)) ∧ H2 d = some (exd d fs) ∧ H1 d = none ∧ Q (.ref C) (some d) (upd (del H2 a) d (.xd fs))) (fun _ _ _ => False)
theorem pmk_B {x : Str} {C fI : Addr} {k : Nat} {fd : FuncData} {ps : List Str} {sp : Sp} (FB : ExF B newId initId bmB) (T : ExB X.K C bmB newId) (iC : PySem.W.findIn X.K (.ref C) "__init__" = some (some (.ref fI))) (tI : PySem.W.typeIn X.K (.ref fI) = some (.type "function"))
    (F1 : FnOk X.prog X.w X.K X.mg X.base CX0 k fI fd ps sp) (hr : Room (k + 1) X.A) (hb : Binds X.K fd ps []) (hg : Gl X x) (hm : X.mg x = some (.ref C)) (ha : PA X (e :: es) ta)
    (hdb : (x == ("__debug__" : Str)) = false := by decide) (he : starEach (e :: es) X.env = (false, eval e X.env) :: starEach es X.env := by rfl) (hpl : (backTo pos (starEach es X.env)).any (·.1) = false := by rfl) :
    PMk X (.Call (.Name x p) (e :: es) [] pos) (tMkB C sp ta) := by
  intro pins s σ H Q I h
  refine wpAny_Call_Name_kw (ld_glob I hg hm ?_ hdb)
  refine PySem.W.callWith_K (h₀ := X.base) I.ok.mod.kin T.kC (thn (ha.run pos pins s σ H _ I h) fun us s1 hu => ?_) he hpl
  obtain ⟨vs, H1, I1, r1, hz, q1⟩ := hu
  refine ⟨I1.kIn, ?_⟩
  show wpAny _ _ (call (.ref C) us) _ _ _
  obtain ⟨nm, N, qn, bs, bm, hdct, sn, sub, ab, col, dd, k0, k1, k2, k3, k5, hC, hT⟩ := PySem.W.excInit_of I1.kIn T.inn
  obtain ⟨hp, g, dr, tk, os⟩ := s1
  have up1 : hp.objs.size ≤ hp.objs.size + 1 := Nat.le_succ _
  have hq := q1 (hp.objs.size + 1) (I1.hok.fresh up1)
  have keep2 : ∀ b o, hp.get? b = some o → ((hp.push (PySem.W.kdv_tup us)).push (PySem.HandSPX.excO C hp.objs.size)).get? b = some o := fun b o q => Heap.get?_push_of_some _ (Heap.get?_push_of_some _ q)
  have at2 : ((hp.push (PySem.W.kdv_tup us)).push (PySem.HandSPX.excO C hp.objs.size)).get? (hp.objs.size + 1) = some (PySem.HandSPX.excO C hp.objs.size) := by heap_get
  have I2 : Inv X pins σ (upd H1 (hp.objs.size + 1) (exo (hp.objs.size + 1) C none)) ⟨(hp.push (PySem.W.kdv_tup us)).push (PySem.HandSPX.excO C hp.objs.size), g, dr, tk, os⟩ :=
    I1.laid (t' := tk) (a := hp.objs.size + 1) (o := exo (hp.objs.size + 1) C none) keep2 up1 (exo_ok at2)
  have r2 : Vals (V.ref (hp.objs.size + 1) :: vs) (Value.ref (hp.objs.size + 1) :: us) := .cons rfl r1
  have hl : (Value.ref (hp.objs.size + 1) :: us).length = ps.length := r2.length ▸ F1.len _ _ _ _ hq
  have hb' := hb ⟨(hp.push (PySem.W.kdv_tup us)).push (PySem.HandSPX.excO C hp.objs.size), g, dr, tk, os⟩ (Value.ref (hp.objs.size + 1) :: us) I2.kIn (by simpa using hl)
  simp only [List.append_nil] at hb'
  have hus : us.length ≤ sizeLine := by
    rw [← Paired.length r1, sizeLine_eq]
    omega
  refine wpAny_call (PySem.HandSPX.call_own FB.ba hT hC (PySem.W.looks_findIn I1.kIn iC) (fun self => PySem.W.bind_fn I1.kIn self tI) hus (codeAny_mono (F1.run _ X.stack _ _ ⟨Value.ref (hp.objs.size + 1) :: us, []⟩ _ _ _ (fun _ _ _ => False) (hr.make C us []) (I2.env0.make C us []) hb' r2 hq) fun r s' hq' => ?_))
  match r, hq' with
  | .ok (.ret u), hq' =>
    obtain ⟨v, H2, os2, bare2, un2, hok2, rv, rfl, d, fs, ea, ed, hd1, q2⟩ := hq'
    obtain ⟨h2, g2, d2, t2, os'⟩ := s'
    exact ⟨rv, mk_end (raises_own T.exC T.tyC) I1 up1 keep2 un2 hok2 os2 bare2 ea ed hd1 q2⟩
  | .ok .next, hq' => exact hq'.elim
  | .ok .brk, hq' => exact hq'.elim
  | .ok .cont, hq' => exact hq'.elim
  | .error e, hq' => exact hq'.elim
end

abbrev bmVE : List Value := [.type "ValueError", .type "Exception", .type "BaseException", .type "object"]
abbrev bmLE : List Value := [.type "LookupError", .type "Exception", .type "BaseException", .type "object"]
theorem exF_VE : ExF "ValueError" "ValueError.__new__" "ValueError.__init__" bmVE := ⟨PySem.F.store_ValueError, PySem.F.excBase_ValueError⟩
theorem exF_LE : ExF "LookupError" "LookupError.__new__" "LookupError.__init__" bmLE := ⟨PySem.F.store_LookupError, PySem.F.excBase_LookupError⟩
/-! ### calls that may raise -/
section
variable {X : Cx} {k : Nat} {ps ks : List Str} {sp : Sp} {x : Str} {p pos : Pos} {e : Expr} {es : List Expr} {t tk : TA} {kws : List Keyword} {W : WX}
theorem runE {pins : List (Addr × Obj)} {σ : L2.St} {H : Hp} {s : Shared} {Q : VK} {f : Addr} {fd : FuncData} {us : List Value} {kw : List (Str × Value)} {vs : List V} {ws : List Value}
    (F : FnOk X.prog X.w X.K X.mg X.base (L2.CX X.prog X.w) k f fd ps sp) (hr : Room k X.A) (hb : BindsTo s fd ⟨us, kw⟩ (ps.zip ws)) (I : Inv X pins σ H s) (r : Vals vs ws) (tk : Takes X W) (h : sp vs H Q (WE W σ)) :
    wpAny (model X.prog X.w) X.A (call (.ref f) us kw) (EP X pins σ Q) X.xe s := by
  refine wpAny_call (codeAny_mono (F.run X.A X.stack s H ⟨us, kw⟩ ws vs Q (WE W σ) hr I.env0 hb r h) fun r s' hq => ?_)
  match r, hq with
  | .ok (.ret u), hq => exact I.after hq
  | .ok .next, hq => exact hq.elim
  | .ok .brk, hq => exact hq.elim
  | .ok .cont, hq => exact hq.elim
  | .error e, hq => exact passAt tk σ pins H s e s' I hq
/-- a callee that may raise -/
structure LoX (P : Program) (w : World) (K : PySem.W.Frag) (mg : Str → Option Value) (base : Heap) (x : Str) (k : Nat) (ps : List Str) (sp : Sp) : Prop where
  ex : ∃ (f : Addr) (fd : FuncData), FnOk P w K mg base (L2.CX P w) k f fd ps sp ∧ mg x = some (.ref f) ∧ PySem.W.keepIn K (.ref f) = true ∧ Binds K fd ps []
structure LkxX (P : Program) (w : World) (K : PySem.W.Frag) (mg : Str → Option Value) (base : Heap) (x : Str) (k : Nat) (ps ks : List Str) (gV : List V → List V → List V) (sp : Sp) : Prop where
  ex : ∃ (f : Addr) (fd : FuncData) (g : List Value → List Value → List Value), FnOk P w K mg base (L2.CX P w) k f fd ps sp ∧ mg x = some (.ref f) ∧ PySem.W.keepIn K (.ref f) = true ∧ KBinds K fd ps ks g gV
structure LkwX (P : Program) (w : World) (K : PySem.W.Frag) (mg : Str → Option Value) (base : Heap) (x : Str) (k : Nat) (ps ks : List Str) (gV : List V → List V) (sp : Sp) : Prop where
  ex : ∃ (f : Addr) (fd : FuncData) (g : List Value → List Value), FnOk P w K mg base (L2.CX P w) k f fd ps sp ∧ mg x = some (.ref f) ∧ PySem.W.keepIn K (.ref f) = true ∧ KB K fd ps ks g gV
def tCallW (sp : Sp) (W : WX) (t : TA) : TE := fun σ H Q => t σ H fun vs H1 => sp vs H1 Q (WE W σ)
def tCallKW (sp : Sp) (gV : List V → List V → List V) (W : WX) (t tk : TA) : TE := fun σ H Q => t σ H fun vs H1 => tk σ H1 fun zs H2 => sp (gV vs zs) H2 Q (WE W σ)
def tCallNW (sp : Sp) (gV : List V → List V) (W : WX) (tk : TA) : TE := fun σ H Q => tk σ H fun zs H1 => sp (gV zs) H1 Q (WE W σ)
theorem pe_loX (L : LoX X.prog X.w X.K X.mg X.base x k ps sp) (tw : Takes X W) (hr : Room k X.A) (hg : Gl X x) (ha : PA X (e :: es) t)
    (hdb : (x == ("__debug__" : Str)) = false := by decide) (he : starEach (e :: es) X.env = (false, eval e X.env) :: starEach es X.env := by rfl) (hpl : (backTo pos (starEach es X.env)).any (·.1) = false := by rfl) :
    PE X (.Call (.Name x p) (e :: es) [] pos) (tCallW sp W t) := by
  obtain ⟨f, fd, F, hm, hk, hb⟩ := L.ex
  refine ⟨fun pins s σ H Q I h => ?_⟩
  refine wpAny_Call_Name_kw (ld_glob I hg hm ?_ hdb)
  refine PySem.W.callWith_K (h₀ := X.base) I.ok.mod.kin hk (thn (ha.run pos pins s σ H _ I h) fun us s1 hu => ?_) he hpl
  obtain ⟨vs, H1, I1, r, q⟩ := hu
  have hb1 := hb s1 us I1.kIn (by have := r.length ▸ F.len _ _ _ _ q; simpa using this)
  simp only [List.append_nil] at hb1
  exact ⟨I1.kIn, runE F hr hb1 I1 r tw q⟩
theorem pe_lkxX {gV : List V → List V → List V} (L : LkxX X.prog X.w X.K X.mg X.base x k ps ks gV sp) (tw : Takes X W) (hr : Room k X.A) (hg : Gl X x) (ha : PA X (e :: es) t) (hkw : PK X kws tk)
    (hall : (backToKw pos (keywordEach kws X.env)).all (·.1.isSome) = true := by rfl) (hks : (backToKw pos (keywordEach kws X.env)).filterMap (·.1) = ks := by rfl)
    (hdb : (x == ("__debug__" : Str)) = false := by decide) (he : starEach (e :: es) X.env = (false, eval e X.env) :: starEach es X.env := by rfl)
    (hpl : ((backTo pos (starEach (e :: es) X.env)).any (·.1) || (backToKw pos (keywordEach kws X.env)).any (·.1.isNone)) = false := by rfl) :
    PE X (.Call (.Name x p) (e :: es) kws pos) (tCallKW sp gV W t tk) := by
  obtain ⟨f, fd, g, F, hm, hk, hb⟩ := L.ex
  refine ⟨fun pins s σ H Q I h => ?_⟩
  refine wpAny_Call_Name_kw (ld_glob I hg hm ?_ hdb)
  refine PySem.W.callWith_KW (h₀ := X.base) I.ok.mod.kin hk hall (thn (ha.run pos pins s σ H _ I h) fun us s1 hu => ?_) hpl he
  obtain ⟨vs, H1, I1, r, q⟩ := hu
  refine thn (hkw.run pos pins s1 σ H1 _ I1 q) fun ws s2 hw => ?_
  obtain ⟨zs, H2, I2, rz, q2⟩ := hw
  refine ⟨I2.kIn, ?_⟩
  rw [hks]
  have r2 := hb.rel r rz
  exact runE F hr (hb.to s2 us ws I2.kIn (r2.length ▸ F.len _ _ _ _ q2)) I2 r2 tw q2
theorem pe_lkwX {gV : List V → List V} (L : LkwX X.prog X.w X.K X.mg X.base x k ps ks gV sp) (tw : Takes X W) (hr : Room k X.A) (hg : Gl X x) (hkw : PK X kws tk)
    (hall : (backToKw pos (keywordEach kws X.env)).all (·.1.isSome) = true := by rfl) (hks : (backToKw pos (keywordEach kws X.env)).filterMap (·.1) = ks := by rfl)
    (hdb : (x == ("__debug__" : Str)) = false := by decide)
    (hpl : ((backTo pos (starEach [] X.env)).any (·.1) || (backToKw pos (keywordEach kws X.env)).any (·.1.isNone)) = false := by rfl) :
    PE X (.Call (.Name x p) [] kws pos) (tCallNW sp gV W tk) := by
  obtain ⟨f, fd, g, F, hm, hk, hb⟩ := L.ex
  refine ⟨fun pins s σ H Q I h => ?_⟩
  refine wpAny_Call_Name_kw (ld_glob I hg hm ?_ hdb)
  refine PySem.W.callWith_KW0 (h₀ := X.base) I.ok.mod.kin hk hall ?_ hpl
  refine thn (hkw.run pos pins s σ H _ I h) fun ws s2 hw => ?_
  obtain ⟨zs, H2, I2, rz, q2⟩ := hw
  refine ⟨I2.kIn, ?_⟩
  rw [hks]
  have r2 := hb.rel rz
  exact runE F hr (hb.to s2 ws I2.kIn (r2.length ▸ F.len _ _ _ _ q2)) I2 r2 tw q2
end
theorem x_cW {σ : SS} {H : Hp} {Q : VK} {sp : Sp} {W : WX} {t : TA} (q : t σ H fun vs H1 => sp vs H1 Q (WE W σ)) : tCallW sp W t σ H Q := q
theorem x_cKW {σ : SS} {H : Hp} {Q : VK} {sp : Sp} {W : WX} {gV : List V → List V → List V} {t tk : TA} (q : t σ H fun vs H1 => tk σ H1 fun zs H2 => sp (gV vs zs) H2 Q (WE W σ)) : tCallKW sp gV W t tk σ H Q := q
theorem x_cNW {σ : SS} {H : Hp} {Q : VK} {sp : Sp} {W : WX} {gV : List V → List V} {tk : TA} (q : tk σ H fun zs H1 => sp (gV zs) H1 Q (WE W σ)) : tCallNW sp gV W tk σ H Q := q
/-! ### a caught exception as an object of the heap -/
def exk (a : Addr) (cls : Value) (d : Option Addr) : HO := .ext fun h => ∃ (oe : Obj) (vs : Array Value), h.get? a = some oe ∧ Zc cls d oe ∧ oe.data = .fields vs
theorem exk_ok {P : Program} {w : World} {H : Hp} {h : Heap} {a : Addr} {cls : Value} {d : Option Addr} {oe : Obj} {vs : Array Value} (e : h.get? a = some oe) (z : Zc cls d oe) (dt : oe.data = .fields vs) : ObjOk P w H h a (exk a cls d) :=
  ⟨⟨oe, vs, e, z, dt⟩, ⟨oe, e⟩, fun h1 h2 y k => by
    obtain ⟨oe, vs, e, z, dt⟩ := y
    exact ⟨oe, vs, k _ e, z, dt⟩⟩
theorem exk_at {P : Program} {w : World} {H : Hp} {h : Heap} {a : Addr} {cls : Value} {d : Option Addr} (hok : HOk P w H h) (e : H a = some (exk a cls d)) : ∃ (oe : Obj) (vs : Array Value), h.get? a = some oe ∧ Zc cls d oe ∧ oe.data = .fields vs := by
  have x : ObjOk P w H h a (.ext fun h => ∃ (oe : Obj) (vs : Array Value), h.get? a = some oe ∧ Zc cls d oe ∧ oe.data = .fields vs) := hok a _ e
  exact x.1
section
variable {X : Cx} {pins : List (Addr × Obj)} {σ : L2.St} {H : Hp} {s : Shared}
/-- what stands in the heap beside ours is taken among ours -/
theorem Inv.track {a : Addr} {oe : Obj} {vs : Array Value} {cls : Value} {d : Option Addr} (I : Inv X pins σ H s) (e : s.heap.get? a = some oe) (z : Zc cls d oe) (dt : oe.data = .fields vs) (hn : H a = none) (nL : a ≠ X.env.locals) (n0 : X.s_0.heap.get? a = none)
    (np : ∀ p ∈ X.pn ++ pins, p.1 ≠ a) : Inv X pins σ (upd H a (exk a cls d)) s := by
  refine ⟨I.ok, I.os, I.bare, ⟨I.base.keep, I.base.slot, fun b o q n x => ?_, I.base.there, fun b xs q => ?_, fun b o xs q => ?_, fun b ps q => ?_⟩, I.loc, I.cell, ?_, fun x c q => ?_, fun p hp => ?_, ?_, I.len⟩
  · rw [upd_ne (fun y => by rw [y, n0] at q; cases q)]
    exact I.base.free b o q n x
  · have := I.base.tups b xs q
    rw [upd_ne (ne_of_none this hn)]
    exact this
  · have := I.base.frzs b o xs q
    rw [upd_ne (ne_of_none this hn)]
    exact this
  · obtain ⟨more, h⟩ := I.base.tbls b ps q
    exact ⟨more, by rw [upd_ne (ne_of_none h hn)]; exact h⟩
  · rw [upd_ne nL.symm]
    exact I.free
  · obtain ⟨v, hc⟩ := I.cell x c q
    have : c ≠ a := fun y => by
      obtain ⟨o, h1, h2⟩ := hc
      rw [y, e] at h1
      cases h1
      rw [dt] at h2
      cases h2
    rw [upd_ne this]
    exact I.freeC x c q
  · obtain ⟨h1, h2, h3⟩ := I.pin p hp
    exact ⟨h1, by rw [upd_ne (np p hp)]; exact h2, h3⟩
  · exact HOk.laidN I.hok (fun _ _ q => q) hn (exk_ok e z dt)
end

/-! ### try: body, except c as n: suite; behind it the exception stands among ours -/
/-- the clause takes it; behind a suite that runs through, the exception at a is kept -/
def wKp (K : PySem.W.Frag) (c : Value) (i : Nat) (ts : Addr → Value → Option Addr → TS) (D : Ends) : WX := fun cls d σ H =>
  PySem.W.exmOne K cls c = some true ∧ ∀ a, H a = none → ts a cls d { nx := fun σ' H' => D.nx (σ'.set i none) (upd H' a (exk a cls d)), rt := D.rt, bk := fun σ' H' => D.bk (σ'.set i none) H', ct := fun σ' H' => D.ct (σ'.set i none) H' } (σ.set i (some (.ref a))) H
section
variable {X : Cx} {x n : Str} {c : Value} {i : Nat} {body suite : List Stmt} {b₀ : Stmt} {np pos pos' : Pos} {tb : WX → TS} {ts : Addr → Value → Option Addr → TS}
theorem ps_try_kp (hs : X.stack = X.env :: X.outer) (hf : X.env.frame = some X.env.locals) (hx : X.ex = []) (hN : X.N.Nodup) (hi : X.N[i]? = some n) (hln : X.env.kindOf n = some .local) (hc : Names X x c)
    (hb : ∀ (W : WX) (pn : List (Addr × Obj)) (xe : Value → Shared → Prop), Takes (X.tr pn xe) W → PassesOwn (model X.prog X.w) X.A X.env xe → PSs (X.tr pn xe) body (tb W))
    (hsu : ∀ (a : Addr) (oe : Obj) (cls : Value) (d : Option Addr) (pn : List (Addr × Obj)), Zc cls d oe → (∃ vs, oe.data = .fields vs) → PSs (X.suite a ((a, oe) :: pn)) (b₀ :: suite) (ts a cls d)) :
    PS X (.Try body [.ExceptHandler (some (.Name x np)) (some n) (b₀ :: suite) pos'] [] [] pos) (fun D σ H => tb (wKp X.K c i ts D) D σ H) := by
  refine ⟨fun pins s σ H D I h => ?_⟩
  have okX := I.ok
  have frm : X.A.frames = some (X.env :: X.outer) := hs ▸ okX.frames
  refine wpAny_Try_except (wpAny_mono ((hb (wKp X.K c i ts D) (X.pn ++ pins)
    (fun v t => wpAny (model X.prog X.w) X.A (noteFrame v X.env) (fun _ t1 => wpAny (model X.prog X.w) X.A (setFlight v none)
      (fun _ t2 => wpAny (model X.prog X.w) X.A (handleBy v X.env [.ExceptHandler (some (.Name x np)) (some n) (b₀ :: suite) pos']) (SP X pins D) X.xe t2) X.xe t1) X.xe t)
    (fun v t air => ?air) PassesOwn.looking).run [] s σ H D (I.toTry _) h) (fun fl t q => ?thru) fun _ _ z => z)
  case thru =>
    cases fl with
    | next =>
      obtain ⟨σ1, H1, J, q⟩ := q
      exact wpAny_execs_nil ⟨σ1, H1, J.ofTry okX, q⟩
    | ret v =>
      obtain ⟨v1, σ1, H1, J, r, q⟩ := q
      exact ⟨v1, σ1, H1, J.ofTry okX, r, q⟩
    | brk =>
      obtain ⟨σ1, H1, J, q⟩ := q
      exact ⟨σ1, H1, J.ofTry okX, q⟩
    | cont =>
      obtain ⟨σ1, H1, J, q⟩ := q
      exact ⟨σ1, H1, J.ofTry okX, q⟩
  case air =>
    obtain ⟨a, B, sI, pins1, σ1, H1, cls, d, rfl, J0, nb, up, sky, na, os, ag, hm, hyes⟩ := air
    have J : Inv X pins σ1 H1 sI := J0.ofTry okX
    have sky1 : Sky B (X.env :: X.outer) a (Zc cls d) X.env.locals t.heap := hs ▸ sky
    refine Sky.land Zc.steady frm hf sky1 fun h3 fl3 up3 => ?_
    have J3 : Inv X pins σ1 H1 { t with heap := h3 } := J.landed nb fl3.1 (up.trans up3) os ag
    obtain ⟨oe3, vs3, he3, hz3, hd3⟩ := fl3.there
    have off : ∀ {hh : Heap} {o : Obj} {vs : Array Value}, hh.FunFrames B (X.env :: X.outer) → hh.get? a = some o → o.data = .fields vs → a ∉ frs (X.env :: X.outer) := fun ff e1 e2 hm => by
      obtain ⟨_, o', e3, nf⟩ := ff.mem hm
      rw [e1] at e3
      cases e3
      exact nf _ e2
    have offS := off fl3.2.2.1 he3 hd3
    have nL : a ≠ X.env.locals := fun y => offS (List.mem_filterMap.mpr ⟨X.env, List.mem_cons_self, by rw [hf, y]⟩)
    have nF : a ∉ X.fs := fun hm => by
      obtain ⟨e1, m1, m2⟩ := List.mem_filterMap.mp hm
      exact offS (List.mem_filterMap.mpr ⟨e1, List.mem_cons_of_mem _ m1, m2⟩)
    -- it is new since the entry
    have newI : sI.heap.get? a = none := by
      cases q : sI.heap.get? a with
      | none => rfl
      | some o =>
        have := nb a o q (hs ▸ offS)
        rw [fl3.2.1] at this
        cases this
    have new0 : X.s_0.heap.get? a = none := by
      cases q : X.s_0.heap.get? a with
      | none => rfl
      | some o =>
        obtain ⟨o', q'⟩ := J.base.there a o q (by rw [hx]; simp)
        rw [newI] at q'
        cases q'
    have newP : ∀ p ∈ X.pn ++ pins, p.1 ≠ a := fun p hp y => by
      have := (J.pin p hp).1
      rw [y, newI] at this
      cases this
    have S3 := J3.suite he3 hd3 na nL nF
    refine wpAny_handleBy_cons (codeAny_handlers_test ?_) (by intro q; cases q)
    have look : PySem.W.Looks (model X.prog X.w) h3 (typeOf (.ref a)) cls := fun _ _ _ _ k q => wpAny_typeOf_ref (k _ _ he3) (hz3.1 ▸ q)
    have LM := PySem.W.exm_one (M := model X.prog X.w) J3.kIn look hm
    have name : ∀ {Q : Value → Shared → Prop} {E : Value → Shared → Prop}, Q c { t with heap := h3 } → wpAny (model X.prog X.w) (X.A.mark (some (.ref a))) (eval (.Name x np) X.env) Q E { t with heap := h3 } := fun q => by
      obtain ⟨g1, g2, g3 | ⟨g3, g4, g5⟩⟩ := hc
      · exact ld_glob (X := X.suite a ((a, oe3) :: (X.pn ++ pins))) S3 g1 g3 q g2
      · exact ld_blt (X := X.suite a ((a, oe3) :: (X.pn ++ pins))) S3 g1 g3 g4 q g5 g2
    refine name (LM.here (codeAny_handlers_suite_as (HandSPX.lands_againZ fl3 fun h4 fl4 up4 => ?_)))
    have J4 : Inv X pins σ1 H1 { t with heap := h4 } := J.landed nb fl4.1 ((up.trans up3).trans up4) os ag
    obtain ⟨oe4, vs4, he4, hz4, hd4⟩ := fl4.there
    have S4 := J4.suite he4 hd4 na nL nF
    refine store_ok (X := X.suite a ((a, oe4) :: (X.pn ++ pins))) (v := .ref a) S4 hN hi (.inl hln) rfl (fun s5 S5 => ?_) (.inr hln)
    refine wpAny_mono ((hsu a oe4 cls d (X.pn ++ pins) hz4 ⟨_, hd4⟩).run [] s5 _ H1 _ S5 (hyes a na)) (fun fl s6 q => ?_) (fun _ _ z => z.elim)
    have leave : ∀ {σ6 : L2.St} {H6 : Hp} {Q : Shared → Prop}, Inv (X.suite a ((a, oe4) :: (X.pn ++ pins))) [] σ6 H6 s6 → (∀ s7, Inv (X.suite a ((a, oe4) :: (X.pn ++ pins))) [] (σ6.set i none) H6 s7 → Q s7) →
        wpAny (model X.prog X.w) X.A (do bindName X.env n .none; unbindBehindTheSuite X.env n pos') (fun _ s7 => Q s7) X.xe s6 := fun S6 g => gone_ok (X := X.suite a ((a, oe4) :: (X.pn ++ pins))) S6 hN hi hln g
    cases fl with
    | next =>
      obtain ⟨σ6, H6, S6, q6⟩ := q
      refine leave S6 fun s7 S7 => ⟨_, _, ?_, q6⟩
      obtain ⟨p1, p2, p3, _⟩ := S7.pin (a, oe4) (List.mem_append_left _ List.mem_cons_self)
      exact Inv.track (S7.unsuite okX) p1 hz4 hd4 p2 nL new0 newP
    | brk =>
      obtain ⟨σ6, H6, S6, q6⟩ := q
      exact leave S6 fun s7 S7 => ⟨_, _, S7.unsuite okX, q6⟩
    | cont =>
      obtain ⟨σ6, H6, S6, q6⟩ := q
      exact leave S6 fun s7 S7 => ⟨_, _, S7.unsuite okX, q6⟩
    | ret u =>
      obtain ⟨v6, σ6, H6, S6, r6, q6⟩ := q
      exact leave S6 fun s7 S7 => ⟨_, _, _, S7.unsuite okX, r6, q6⟩
end
/-! ### what is asked of a kept exception -/
section
variable {X : Cx}
theorem dict_there {pins : List (Addr × Obj)} {σ : L2.St} {H : Hp} {s : Shared} {dd : Addr} {fs : List (Str × V)} (I : Inv X pins σ H s) (e : H dd = some (.xd fs)) : ∃ (od : Obj) (mA : Str → Option Value), s.heap.Ns1 dd mA ∧ (∀ f, RelO (fs.lookup f) (mA f)) ∧ s.heap.get? dd = some od := by
  have hx : ObjOk X.prog X.w H s.heap dd (.xd fs) := I.hok dd _ e
  obtain ⟨mA, hns, hr⟩ := hx
  obtain ⟨od, ho, _⟩ := lookIn_ns hns
  exact ⟨od, mA, hns, hr, ho⟩
/-- e.f of a kept exception -/
def tXk (K : PySem.W.Frag) (f : Str) (te : TE) : TE := fun σ H Q => te σ H fun x H1 => ∃ (a C dd : Addr) (fs : List (Str × V)) (v : V), x = .ref a ∧ XfC K C ∧ PySem.W.findIn K (.ref C) f = some none ∧ H1 a = some (exk a (.ref C) (some dd)) ∧ H1 dd = some (.xd fs) ∧ fs.lookup f = some v ∧ Q v H1
theorem pe_xk {e : Expr} {te : TE} {pos : Pos} {f : Str} (he : PE X e te) (hb : attributeBase e f X.env (eval e X.env) = eval e X.env := by rfl) : PE X (.Attribute e f pos) (tXk X.K f te) := by
  refine ⟨fun pins s σ H Q I h => ?_⟩
  refine attr_of hb (thn (he.run pins s σ H _ I h) fun u s1 hu => ?_)
  obtain ⟨x, H1, I1, rx, a, C, dd, fs, v, rfl, T, hno, ea, ed, l, q⟩ := hu
  obtain rfl : u = Value.ref a := rx
  obtain ⟨oe, vs, h1, h2, h3⟩ := exk_at I1.hok ea
  have hx : ObjOk X.prog X.w H1 s1.heap dd (.xd fs) := I1.hok dd _ ed
  obtain ⟨mA, hns, hr⟩ := hx
  obtain ⟨od, ho, hl⟩ := lookIn_ns hns
  obtain ⟨u, hu, ru⟩ := RelO.some_of (v := v) (o := mA f) (by rw [← l]; exact hr f)
  have J : PySem.W.InstAt s1.heap a oe C (some od) := ⟨h1, h2.1, by unfold PySem.W.notCls; rw [h3] <;> rfl, by rw [h2.2]; exact ho⟩
  exact HandSPX.exc_get I1.kIn J T.ga T.gg T.exC (PySem.W.findObj_own T.hdC hno rfl (by rw [hl, hu])) (handed_of ru) ⟨v, H1, I1.tok _, ru, q⟩
theorem x_xk {K : PySem.W.Frag} {σ : SS} {H : Hp} {Q : VK} {f : Str} {te : TE} (q : te σ H fun x H1 => ∃ (a C dd : Addr) (fs : List (Str × V)) (v : V), x = .ref a ∧ XfC K C ∧ PySem.W.findIn K (.ref C) f = some none ∧ H1 a = some (exk a (.ref C) (some dd)) ∧ H1 dd = some (.xd fs) ∧ fs.lookup f = some v ∧ Q v H1) : tXk K f te σ H Q := q
/-- isinstance(e, c), e a kept exception, c a class or a tuple of classes -/
def rIsK (K : PySem.W.Frag) : List V → Hp → VK → Prop := fun xs H Q => ∃ (a D dd : Addr) (fs : List (Str × V)) (c : V) (b : Bool), xs = [.ref a, c] ∧ ExcC K D ∧ H a = some (exk a (.ref D) (some dd)) ∧ H dd = some (.xd fs) ∧
  ((∃ cv, (∀ u, RelV c u → u = cv) ∧ PySem.W.kitOne K (.ref D) cv = some b) ∨ ∃ (t : Addr) (cs : List V) (cvs : List Value), c = .ref t ∧ SqT K H t cs ∧ (∀ us, Vals cs us → us = cvs) ∧ PySem.W.kitAny K (.ref D) cvs = some b) ∧ Q (.bl b) H
theorem call_isK : CallR X (.builtin "isinstance") (rIsK X.K) := by
  intro pins s σ H xs us Q I r h
  obtain ⟨a, D, dd, fs, c, b, rfl, C, ea, ed, hcls, q⟩ := h
  obtain ⟨u, w', rfl, ru, rw'⟩ := vals2 r
  obtain rfl : u = Value.ref a := ru
  obtain ⟨oe, vs, h1, h2, h3⟩ := exk_at I.hok ea
  obtain ⟨od, mA, _, _, ho⟩ := dict_there I ed
  have J : PySem.W.InstAt s.heap a oe D (some od) := ⟨h1, h2.1, by unfold PySem.W.notCls; rw [h3] <;> rfl, by rw [h2.2]; exact ho⟩
  have hcl : (PySem.W.clsIn X.K D).isSome = true := by
    obtain ⟨cd, hc, _⟩ := PySem.W.any_some C.hd
    rw [hc]; rfl
  rcases hcls with ⟨cv, hcv, e⟩ | ⟨t, cs, cvs, rfl, et, hcs, e⟩
  · have := hcv _ rw'
    subst this
    exact PySem.W.kia_one (PySem.W.kitx_exc hcl C.hg C.hk C.hs C.ha C.hn C.ht C.hm) I.kIn J e (fun z => nomatch z) fun tk => ⟨.bl b, H, I.kept (t' := tk) fun _ _ z => z, rfl, q⟩
  · obtain ⟨its, rv, ⟨o, ho2, hc2, n, hd2⟩, _⟩ := I.tuple et
    have := hcs _ rv
    subst this
    obtain rfl : w' = Value.ref t := rw'
    obtain ⟨cl, di, da, sl⟩ := o
    replace hc2 : cl = _ := hc2
    replace hd2 : da = _ := hd2
    subst hc2 hd2
    exact PySem.W.kia_tup (PySem.W.kitx_exc hcl C.hg C.hk C.hs C.ha C.hn C.ht C.hm) I.kIn J ho2 e (fun z => nomatch z) fun tk => ⟨.bl b, H, I.kept (t' := tk) fun _ _ z => z, rfl, q⟩
theorem x_isK1 {K : PySem.W.Frag} {H : Hp} {Q : VK} {a D dd : Addr} {fs : List (Str × V)} {c : V} {cv : Value} {b : Bool} (C : ExcC K D) (ea : H a = some (exk a (.ref D) (some dd))) (ed : H dd = some (.xd fs)) (hc : ∀ u, RelV c u → u = cv) (e : PySem.W.kitOne K (.ref D) cv = some b) (q : Q (.bl b) H) : rIsK K [.ref a, c] H Q :=
  ⟨a, D, dd, fs, c, b, rfl, C, ea, ed, .inl ⟨cv, hc, e⟩, q⟩
theorem x_isKT {K : PySem.W.Frag} {H : Hp} {Q : VK} {a D dd t : Addr} {fs : List (Str × V)} {cs : List V} {cvs : List Value} {b : Bool} (C : ExcC K D) (ea : H a = some (exk a (.ref D) (some dd))) (ed : H dd = some (.xd fs)) (et : SqT K H t cs) (hc : ∀ us, Vals cs us → us = cvs) (e : PySem.W.kitAny K (.ref D) cvs = some b) (q : Q (.bl b) H) : rIsK K [.ref a, .ref t] H Q :=
  ⟨a, D, dd, fs, .ref t, b, rfl, C, ea, ed, .inr ⟨t, cs, cvs, rfl, et, hc, e⟩, q⟩
end

/-! ### an own exception class, called -/
structure LxB (P : Program) (w : World) (K : PySem.W.Frag) (mg : Str → Option Value) (base : Heap) (x : Str) (C : Addr) (k : Nat) (ps : List Str) (sp : Sp) (bmB : List Value) (newId : String) : Prop where
  fb : ∃ B initId, ExF B newId initId bmB
  t : ExB K C bmB newId
  ex : ∃ (fI : Addr) (fd : FuncData), FnOk P w K mg base CX0 k fI fd ps sp ∧ PySem.W.findIn K (.ref C) "__init__" = some (some (.ref fI)) ∧ PySem.W.typeIn K (.ref fI) = some (.type "function") ∧ Binds K fd ps []
  hm : mg x = some (.ref C)
section
variable {X : Cx} {e : Expr} {es : List Expr} {ta : TA} {p pos : Pos} {newId : String} {bmB : List Value}
theorem pmk_lx {x : Str} {C : Addr} {k : Nat} {ps : List Str} {sp : Sp} (L : LxB X.prog X.w X.K X.mg X.base x C k ps sp bmB newId) (hr : Room (k + 1) X.A) (hg : Gl X x) (ha : PA X (e :: es) ta)
    (hdb : (x == ("__debug__" : Str)) = false := by decide) (he : starEach (e :: es) X.env = (false, eval e X.env) :: starEach es X.env := by rfl) (hpl : (backTo pos (starEach es X.env)).any (·.1) = false := by rfl) :
    PMk X (.Call (.Name x p) (e :: es) [] pos) (tMkB C sp ta) := by
  obtain ⟨B, initId, FB⟩ := L.fb
  obtain ⟨fI, fd, F1, iC, tI, hb⟩ := L.ex
  exact pmk_B FB L.t iC tI F1 hr hb hg L.hm ha hdb he hpl
/-- an __init__ that keeps one thing -/
def spI1 (C : Addr) (f : Str) : Sp := fun vs H Q _ => ∃ (a : Addr) (v : V), vs = [.ref a, v] ∧ H a = some (exo a C none) ∧ ∀ dx, H dx = none → dx ≠ a → Q .non (upd (upd H dx (exd dx [(f, v)])) a (exo a C (some dx)))
theorem x_mk {C : Addr} {sp : Sp} {ta : TA} {σ : L2.St} {H : Hp} {Q : XK} (q : ta σ H fun vs H1 => vs.length ≤ 1000 ∧ ∀ a, H1 a = none → sp (.ref a :: vs) (upd H1 a (exo a C none))
  (fun v H2 => v = .non ∧ ∃ (d : Addr) (fs : List (Str × V)), H2 a = some (exo a C (some d)) ∧ H2 d = some (exd d fs) ∧ H1 d = none ∧ Q (.ref C) (some d) (upd (del H2 a) d (.xd fs))) (fun _ _ _ => False)) : tMkB C sp ta σ H Q := q
theorem x_mkE {C : Addr} {f : Str} {v : V} {H1 : Hp} {Q : XK} (q : ∀ d H', H1 d = none → H' d = some (.xd [(f, v)]) → Kx [] H1 H' → Q (.ref C) (some d) H') : [v].length ≤ 1000 ∧ ∀ a, H1 a = none → spI1 C f (.ref a :: [v]) (upd H1 a (exo a C none))
  (fun u H2 => u = .non ∧ ∃ (d : Addr) (fs : List (Str × V)), H2 a = some (exo a C (some d)) ∧ H2 d = some (exd d fs) ∧ H1 d = none ∧ Q (.ref C) (some d) (upd (del H2 a) d (.xd fs))) (fun _ _ _ => False) := by
  refine ⟨by simp, fun a ha => ⟨a, v, rfl, upd_same, fun dx hd hne => ⟨rfl, dx, _, upd_same, (upd_ne hne).trans upd_same, ?_, q dx _ ?_ upd_same fun b o _ hb => ?_⟩⟩⟩
  · rw [upd_ne hne] at hd
    exact hd
  · rw [upd_ne hne] at hd
    exact hd
  · have h1 : b ≠ a := fun z => by rw [z, ha] at hb; cases hb
    rw [upd_ne hne] at hd
    have h2 : b ≠ dx := fun z => by rw [z, hd] at hb; cases hb
    rw [upd_ne h2]
    show (del _ a) b = _
    unfold del
    simp only [h1, if_false]
    rw [upd_ne h1, upd_ne h2, upd_ne h1]
    exact hb
end
/-! ### what stands for no integer -/
def isI : PyData → Bool
  | .int _ => true
  | _ => false
def isIB : PyData → Bool
  | .int _ => true
  | .bool _ => true
  | _ => false
def isB : PyData → Bool
  | .bool _ => true
  | _ => false
section
variable {K : PySem.W.Frag} {H : Hp} {Q : VK} {v : V} {d : PyData}
theorem tyL {a : Addr} {xs : List V} (h : SqL K H a xs) : TyX K H (.ref a) (.type "list") := by
  rcases h with (h | ⟨o, h⟩) | h
  · exact .base (.lst h)
  · exact .base (.frz h)
  · obtain ⟨o, its, n, e, c, _⟩ := h
    exact .kList e c
theorem tyT {a : Addr} {xs : List V} (h : SqT K H a xs) : TyX K H (.ref a) (.type "tuple") := by
  rcases h with (h | ⟨o, h⟩) | h
  · exact .base (.tup h)
  · exact .fTuple h
  · obtain ⟨o, its, n, e, c, _⟩ := h
    exact .kTuple e c
theorem x_isiDI (h : Dp K H v d) (q : Q (.bl (isIB d)) H) : rIsi K [v, .ty "int"] H Q := by
  cases h with
  | non => exact x_isi (b := false) (.base .non) (kit_ty (by decide +kernel)) q
  | bl b => exact x_isi (b := true) (.base (.bl b)) (kit_ty (by decide +kernel)) q
  | int i => exact x_isi (b := true) (.base (.int i)) (kit_ty (by decide +kernel)) q
  | str x => exact x_isi (b := false) (.base (.str x)) (kit_ty (by decide +kernel)) q
  | lst h _ => exact x_isi (b := false) (tyL h) (kit_ty (by decide +kernel)) q
  | tup h _ => exact x_isi (b := false) (tyT h) (kit_ty (by decide +kernel)) q
theorem x_isiDB (h : Dp K H v d) (q : Q (.bl (isB d)) H) : rIsi K [v, .ty "bool"] H Q := by
  cases h with
  | non => exact x_isi (b := false) (.base .non) (kit_ty (by decide +kernel)) q
  | bl b => exact x_isi (b := true) (.base (.bl b)) (kit_ty (by decide +kernel)) q
  | int i => exact x_isi (b := false) (.base (.int i)) (kit_ty (by decide +kernel)) q
  | str x => exact x_isi (b := false) (.base (.str x)) (kit_ty (by decide +kernel)) q
  | lst h _ => exact x_isi (b := false) (tyL h) (kit_ty (by decide +kernel)) q
  | tup h _ => exact x_isi (b := false) (tyT h) (kit_ty (by decide +kernel)) q
end
theorem dpK {K : PySem.W.Frag} {H H' : Hp} {v : V} {d : PyData} (k : Kx [] H H') (h : Dp K H v d) : Dp K H' v d :=
  match dp_keepAll k [d] [v] (.cons h .nil) with
  | .cons h _ => h
/-! ### repr of data of every kind -/
def boolT (b : Bool) : Str := if b then "True" else "False"
def shD : PyData → Str
  | .none => "None"
  | .bool b => boolT b
  | .int i => toString i
  | .str x => reprText x
  | d => d.shown
def ShOk : PyData → Prop
  | .none => True
  | .bool _ => True
  | .int i => i.natAbs.log2 < 1920
  | .str x => (reprText x).length ≤ sizeLine
  | d => d.showable = true ∧ d.hasDict = false ∧ d.depth ≤ 60 ∧ d.shown.length ≤ sizeLine
def rReprD (K : PySem.W.Frag) : List V → Hp → VK → Prop := fun xs H Q => ∃ v d, xs = [v] ∧ Dp K H v d ∧ ShOk d ∧ Q (.str (shD d)) H
theorem x_reprD {K : PySem.W.Frag} {H : Hp} {Q : VK} {v : V} {d : PyData} (h : Dp K H v d) (o : ShOk d) (q : Q (.str (shD d)) H) : rReprD K [v] H Q := ⟨v, d, rfl, h, o, q⟩
section
variable {X : Cx}
theorem call_reprD (hgd : X.A.guards = some []) (hu : X.A.units + 64 < cLine) : CallR X (.builtin "repr") (rReprD X.K) := by
  intro pins s σ H xs us Q I r h
  obtain ⟨v, d, rfl, hd, ho, q⟩ := h
  obtain ⟨u, rfl, ru⟩ := vals1 r
  have big : ∀ {a : Addr}, u = .ref a → Dp X.K H (.ref a) d → d.showable = true → d.hasDict = false → d.depth ≤ 60 → d.shown.length ≤ sizeLine → Q (.str d.shown) H → wpAny (model X.prog X.w) X.A (call (.builtin "repr") [u] []) (EP X pins σ Q) X.xe s := fun {a} e hd h1 h2 h3 h4 q => by
    subst e
    obtain ⟨as, hr⟩ := Dp.reads I d _ (.ref a) hd rfl
    exact repr_of_reads' (Q := EP X pins σ Q) (E := X.xe) hr h1 (PyData.noDict_hsm h2) hgd (by omega) (fun _ _ e => e) (fun h' u tk hk => ⟨.str d.shown, H, I.kept hk, ⟨u, rfl⟩, q⟩) h4
  cases hd with
  | non =>
    cases (show u = Value.none from ru)
    exact PySem.P.repr_of_none ⟨.str "None", H, I.tok _, ⟨_, rfl⟩, q⟩
  | bl b =>
    cases (show u = Value.bool b from ru)
    exact PySem.P.repr_of_bool ⟨.str (boolT b), H, I.tok _, ⟨_, rfl⟩, q⟩
  | int i =>
    obtain ⟨t, e⟩ := (show ∃ t, u = Value.int i t from ru)
    cases e
    exact PySem.P.repr_of_int ho ⟨.str (toString i), H, I.tok _, ⟨_, rfl⟩, q⟩
  | str x =>
    obtain ⟨t, e⟩ := (show ∃ t, u = Value.str x t from ru)
    cases e
    exact PySem.P.repr_of_str ⟨.str (reprText x), H, I.tok _, ⟨_, rfl⟩, q⟩ ho
  | lst h1 h2 =>
    obtain ⟨o1, o2, o3, o4⟩ := ho
    exact big ru (.lst h1 h2) o1 o2 o3 o4 q
  | tup h1 h2 =>
    obtain ⟨o1, o2, o3, o4⟩ := ho
    exact big ru (.tup h1 h2) o1 o2 o3 o4 q
end
theorem vals_refs : ∀ (cs : List Addr) (us : List Value), Vals (cs.map V.ref) us → us = cs.map Value.ref
  | [], _, .nil => rfl
  | c :: cs, _, .cons r t => by
    have h := vals_refs cs _ t
    rw [h, List.map_cons]
    exact congrArg (· :: _) r
theorem eqv_nats (ns : List Nat) : PyData.eqv (.tuple (ns.map fun (n : Nat) => PyData.int (n : Int))) (.tuple (ns.map fun (n : Nat) => PyData.int (n : Int))) = true := by
  show PyData.eqvAll _ _ = true
  induction ns with
  | nil => rfl
  | cons a r ih =>
    rw [List.map_cons]
    show (PyData.eqv (.int (a : Int)) (.int (a : Int)) && PyData.eqvAll _ _) = true
    rw [ih]
    simp [PyData.eqv]
theorem shaped_nats (ns : List Nat) : SeqAt.shaped (.tuple (ns.map fun (n : Nat) => PyData.int (n : Int))) = true := by
  have e : (ns.map fun (n : Nat) => PyData.int (n : Int)) = (ns.map fun (n : Nat) => (n : Int)).map PyData.int := by rw [List.map_map]; rfl
  rw [e]
  have := shaped_ints (ns.map fun (n : Nat) => (n : Int))
  unfold SeqAt.shaped at this ⊢
  simpa [PyData.canLay0, PyData.depth] using this
theorem x_neTN {K : PySem.W.Frag} {H : Hp} {Q : VK} {a b : Addr} {ns : List Nat} (h : SqT K H a (natV ns)) (h2 : SqT K H b (natV ns)) (q : Q (.bl false) H) : rNeD K (.ref a) (.ref b) H Q :=
  ⟨_, _, .tup h (dp_nats _), .tup h2 (dp_nats _), shaped_nats _, shaped_nats _, by rw [eqv_nats]; exact q⟩
theorem rgV_nat (n : Nat) : rgV 0 (n : Int) = natV (List.range n) := by
  unfold rgV natV
  rw [Int.sub_zero, Int.toNat_natCast]
  refine List.map_congr_left fun i _ => ?_
  rw [Int.zero_add]

open LamX (TabB Tabs TabS ExtN)
/-! ### the law's end, with tables of code objects (a law in which lambdas stand) -/
/-- what the abstract heap may know at the entry -/
def OnlyT (ts : List Addr) (H : Hp) : Prop := ∀ b, H b = none ∨ (b ∈ ts ∧ H b = some (.tbl #[])) ∨ ∃ o xs, H b = some (.frz o (.lst xs))
section
variable {P : Program} {w : World} {K : PySem.W.Frag} {mg mb : Str → Option Value} {k : Nat} {fa a : Addr} {cs : List (Addr × Addr)} {fd : FuncData} {x : Str} {sp : Sp} {s₁ : Shared} {vs : List Value} {ns : List Int}
/-- the run itself, from such a heap -/
theorem lawGT_core {H : Hp} (KX : K.In s₁.heap) (hns : s₁.heap.Ns mainGlobals mg) (hb : s₁.heap.Ns builtinsNs mb) (hbb : ∀ x : Str, x ≠ "__name__" → mb x = bootBuiltins x) (hlim : s₁.heap.NoLimit) (hg : s₁.gens = #[])
    (hT : ∀ p ∈ cs, s₁.heap.get? p.2 = some { cls := .none, data := .fields #[] }) (nT : ∀ p ∈ cs, K.lookup p.2 = none) (C : ∀ p ∈ cs, PySem.W.CodeHd s₁.heap p.1 p.2)
    (hbm : ∃ (bm : Addr) (ob : Obj), mg "__builtins__" = some (.ref bm) ∧ bm ≠ builtinsNs ∧ s₁.heap.get? bm = some ob ∧ ob.cls = .type "module" ∧ ob.dict = some builtinsNs ∧ ob.data = .plain)
    (ha : s₁.heap.get? a = some { cls := .type "list", data := .seq vs.toArray }) (hr : Room k callerA)
    (F : ∀ base : Heap, K.In base → base.Ns mainGlobals mg → (∀ p ∈ cs, TabB base mg p.1 p.2) → FnG P w K mg base k fa fd [x] sp) (hbind : ∀ (s : Shared) (u : Value), BindsTo s fd ⟨[u], []⟩ [(x, u)])
    (hS : sp [.ref a] H (fun v _ => v = .bl true) E0) (hO : OnlyT (cs.map (·.2)) H) (hH : ∀ p ∈ cs, H p.2 = some (.tbl #[])) (hok : HOk P w H s₁.heap) (hA : ∀ b, H b ≠ none → b = a ∨ b ∈ cs.map (·.2)) (hK : H a ≠ none → K.lookup a = none) :
    codeAny (model P w) callerA (.call (.ref fa) ⟨[.ref a], []⟩) (fun r s' => r = .ok (.ret (.bool true)) ∧ OldK s₁.heap s'.heap ∧ s'.os = s₁.os ∧ AllBare s'.gens) s₁ := by
  have tabAt : ∀ {b : Addr}, b ∈ cs.map (·.2) → s₁.heap.get? b = some { cls := .none, data := .fields #[] } := by
    intro b hb
    obtain ⟨p, hp, rfl⟩ := List.mem_map.mp hb
    exact hT p hp
  -- what is neither the script nor an empty table is not among ours
  have other : ∀ {b : Addr} {o : Obj}, s₁.heap.get? b = some o → (∀ us m, o.data ≠ .seq us m) → o.data ≠ .fields #[] → H b = none := by
    intro b o e n1 n2
    match q : H b with
    | none => rfl
    | some u =>
      rcases hA b (by rw [q]; simp) with rfl | hb
      · rw [ha] at e
        rw [← Option.some.inj e] at n1
        exact absurd rfl (n1 _ _)
      · rw [tabAt hb] at e
        rw [← Option.some.inj e] at n2
        exact absurd rfl n2
  have plain : ∀ {b : Addr} {o : Obj} {d : Data}, s₁.heap.get? b = some o → o.data = d → (∀ us m, d ≠ .seq us m) → d ≠ .fields #[] → (hidT s₁.heap H).get? b = some o := fun e ed n1 n2 => hidT_get e (other e (by rw [ed]; exact n1) (by rw [ed]; exact n2))
  have ns' : ∀ {b : Addr} {m : Str → Option Value}, s₁.heap.Ns b m → (hidT s₁.heap H).Ns b m := by
    rintro b m ⟨o, es, ep, e, d, r⟩
    exact ⟨o, es, ep, plain e d (fun _ _ z => nomatch z) (fun z => nomatch z), d, r⟩
  have inK : K.In (hidT s₁.heap H) := by
    intro b o e
    refine hidT_get (KX b o e) ?_
    match q : H b with
    | none => rfl
    | some u =>
      rcases hA b (by rw [q]; simp) with rfl | hb
      · rw [hK (by rw [q]; simp)] at e
        cases e
      · obtain ⟨p, hp, rfl⟩ := List.mem_map.mp hb
        rw [nT p hp] at e
        cases e
  have md : Mod K mg (hidT s₁.heap H) := by
    obtain ⟨mc, h1, h2⟩ := hlim
    exact ⟨inK, ns' hns, ⟨mb, ns' hb, hbb⟩, ⟨mc, ns' h1, h2⟩⟩
  have tabs : ∀ p ∈ cs, TabB (hidT s₁.heap H) mg p.1 p.2 := by
    intro p hp
    obtain ⟨og, esg, epg, eg, dg, rg⟩ := hns
    have atP := hT p hp
    constructor
    · obtain ⟨o, us, file, tf, flags, tg, inF, text, tt, e1, r1, r2, r3, r4, r5, r6, r7, r8, hne⟩ := C p hp
      have r2' : o.data = .fields us := r2
      exact ⟨o, us, file, tf, flags, tg, inF, text, tt, plain e1 r2' (fun _ _ z => nomatch z) (fun z => by cases z; simp at r3), r1, r2, r3, r4, r5, r6, r7, r8, hne⟩
    · obtain ⟨bm, ob, b1, b2, b3, b4, b5, b6⟩ := hbm
      refine ⟨bm, ob, b1, b2, ?_, ?_, plain b3 b6 (fun _ _ z => nomatch z) (fun z => nomatch z), b4, b5, b6⟩
      · rintro rfl
        rw [eg] at b3
        rw [← Option.some.inj b3, dg] at b6
        cases b6
      · rintro rfl
        rw [atP] at b3
        rw [← Option.some.inj b3] at b6
        cases b6
    · intro z
      rw [← z, eg] at atP
      rw [Option.some.inj atP] at dg
      cases dg
  have e0 : Env0 P w K mg (hidT s₁.heap H) callerA [] s₁ H := by
    refine ⟨rfl, md, fun b o e => of_hidT e, ?_, trivial, ?_, hok, .of_eq hg⟩
    · exact Nat.le_of_eq (hidT_size _ _)
    · exact fun b hb => absurd (show b ∈ ([] : List Addr) from hb) (by simp)
  have run := (F _ inK (ns' hns) tabs).run callerA [] s₁ H ⟨[.ref a], []⟩ [.ref a] [.ref a] _ _ rfl hr e0 (hbind s₁ (.ref a)) (.cons rfl .nil) hS
  refine codeAny_mono run fun r s' h => ?_
  match r, h with
  | .error e, h => exact False.elim h
  | .ok .next, h => exact False.elim h
  | .ok .brk, h => exact False.elim h
  | .ok .cont, h => exact False.elim h
  | .ok (.ret u), h =>
    obtain ⟨v, H', os, bare, un, hok', r', q⟩ := h
    replace q : v = .bl true := q
    subst q
    obtain rfl : u = Value.bool true := r'
    have same : ∀ b o, b ∉ cs.map (·.2) → s₁.heap.get? b = some o → s'.heap.get? b = some o := by
      intro b o nb e
      match q : H b with
      | none => exact un.keep b o e q (fun z => absurd (show b ∈ ([] : List Addr) from z) (by simp)) (by simp)
      | some u =>
        rcases hO b with z | ⟨z, _⟩ | ⟨ob, xs, z⟩
        · rw [q] at z
          cases z
        · exact absurd z nb
        · obtain ⟨e1, _⟩ := hok b _ z
          obtain ⟨e2, _⟩ := hok' b _ (un.frzs b ob _ z)
          rw [e] at e1
          rw [Option.some.inj e1]
          exact e2
    have more : ∀ p ∈ cs, ∃ us : Array Value, s'.heap.get? p.2 = some { cls := .none, data := .fields us } := by
      intro p hp
      obtain ⟨us, z⟩ := un.tbls p.2 #[] (hH p hp)
      exact ⟨_, hok' p.2 _ z⟩
    refine ⟨rfl, ⟨fun b o e => ?_, fun b o e => ?_⟩, os, bare⟩
    · by_cases nb : b ∈ cs.map (·.2)
      · obtain ⟨p, hp, rfl⟩ := List.mem_map.mp nb
        obtain ⟨us, hm⟩ := more p hp
        rw [hT p hp] at e
        rw [← Option.some.inj e]
        exact .inr (.inl ⟨((C p hp).tab (hT p hp)).isCodeTable, rfl, #[], us, rfl, by rw [Array.empty_append]; exact hm⟩)
      · exact .inl (same b o nb e)
    · by_cases nb : b ∈ cs.map (·.2)
      · obtain ⟨p, hp, rfl⟩ := List.mem_map.mp nb
        obtain ⟨us, hm⟩ := more p hp
        exact ⟨_, hm⟩
      · exact ⟨o, same b o nb e⟩
theorem lawGT (KX : K.In s₁.heap) (hns : s₁.heap.Ns mainGlobals mg) (hb : s₁.heap.Ns builtinsNs mb) (hbb : ∀ x : Str, x ≠ "__name__" → mb x = bootBuiltins x) (hlim : s₁.heap.NoLimit) (hg : s₁.gens = #[])
    (hT : ∀ p ∈ cs, s₁.heap.get? p.2 = some { cls := .none, data := .fields #[] }) (nT : ∀ p ∈ cs, K.lookup p.2 = none) (C : ∀ p ∈ cs, PySem.W.CodeHd s₁.heap p.1 p.2)
    (hbm : ∃ (bm : Addr) (ob : Obj), mg "__builtins__" = some (.ref bm) ∧ bm ≠ builtinsNs ∧ s₁.heap.get? bm = some ob ∧ ob.cls = .type "module" ∧ ob.dict = some builtinsNs ∧ ob.data = .plain)
    (ha : s₁.heap.get? a = some { cls := .type "list", data := .seq vs.toArray }) (hi : IntsAre vs ns) (hl : ns.length ≤ sizeLine) (hr : Room k callerA)
    (F : ∀ base : Heap, K.In base → base.Ns mainGlobals mg → (∀ p ∈ cs, TabB base mg p.1 p.2) → FnG P w K mg base k fa fd [x] sp) (hbind : ∀ (s : Shared) (u : Value), BindsTo s fd ⟨[u], []⟩ [(x, u)])
    (hsp : ∀ H : Hp, OnlyT (cs.map (·.2)) H → (∀ p ∈ cs, H p.2 = some (.tbl #[])) → SqL K H a (ns.map V.int) → sp [.ref a] H (fun v _ => v = .bl true) E0) :
    codeAny (model P w) callerA (.call (.ref fa) ⟨[.ref a], []⟩) (fun r s' => r = .ok (.ret (.bool true)) ∧ OldK s₁.heap s'.heap ∧ s'.os = s₁.os ∧ AllBare s'.gens) s₁ := by
  have rv := vals_ints hi
  have lenV := hi.length
  have tabAt : ∀ {b : Addr}, b ∈ cs.map (·.2) → s₁.heap.get? b = some { cls := .none, data := .fields #[] } := by
    intro b hb
    obtain ⟨p, hp, rfl⟩ := List.mem_map.mp hb
    exact hT p hp
  have inT : ∀ {p : Addr × Addr}, p ∈ cs → p.2 ∈ cs.map (·.2) := fun hp => List.mem_map_of_mem hp
  have aT : a ∉ cs.map (·.2) := by
    intro z
    have e := tabAt z
    rw [ha] at e
    cases congrArg Obj.data (Option.some.inj e)
  let Ht : Hp := fun b => if b ∈ cs.map (·.2) then some (.tbl #[]) else none
  have ht1 : ∀ {b : Addr}, b ∈ cs.map (·.2) → Ht b = some (.tbl #[]) := fun h => if_pos h
  have ht2 : ∀ {b : Addr}, b ∉ cs.map (·.2) → Ht b = none := fun h => if_neg h
  match hk : K.lookup a with
  | some o =>
    have e := KX a o hk
    rw [ha] at e
    have eo := Option.some.inj e
    subst eo
    have hO : OnlyT (cs.map (·.2)) Ht := fun b => by
      by_cases h : b ∈ cs.map (·.2)
      · exact .inr (.inl ⟨h, ht1 h⟩)
      · exact .inl (ht2 h)
    refine lawGT_core KX hns hb hbb hlim hg hT nT C hbm ha hr F hbind (hsp Ht hO (fun p hp => ht1 (inT hp)) (.inr ⟨_, vs.toArray, _, hk, rfl, rfl, rfl, ?_, by simpa using rv⟩)) hO (fun p hp => ht1 (inT hp)) (fun b u z => ?_) (fun b z => ?_) fun z => absurd (ht2 aT) z
    · rw [List.size_toArray, lenV]
      exact hl
    · by_cases h : b ∈ cs.map (·.2)
      · rw [ht1 h] at z
        rw [← Option.some.inj z]
        exact tabAt h
      · rw [ht2 h] at z
        cases z
    · by_cases h : b ∈ cs.map (·.2)
      · exact .inr h
      · exact absurd (ht2 h) z
  | none =>
    let Hs : Hp := fun b => if b = a then some (.frz { cls := .type "list", data := .seq vs.toArray } (.lst (ns.map V.int))) else Ht b
    have hs1 : Hs a = some (.frz { cls := .type "list", data := .seq vs.toArray } (.lst (ns.map V.int))) := if_pos rfl
    have hs2 : ∀ {b}, b ≠ a → Hs b = Ht b := fun h => if_neg h
    have hsT : ∀ p ∈ cs, Hs p.2 = some (.tbl #[]) := fun p hp => (hs2 fun z => aT (z ▸ inT hp)).trans (ht1 (inT hp))
    have hO : OnlyT (cs.map (·.2)) Hs := fun b => by
      by_cases h : b = a
      · exact .inr (.inr ⟨_, _, h ▸ hs1⟩)
      · by_cases h2 : b ∈ cs.map (·.2)
        · exact .inr (.inl ⟨h2, (hs2 h).trans (ht1 h2)⟩)
        · exact .inl ((hs2 h).trans (ht2 h2))
    refine lawGT_core KX hns hb hbb hlim hg hT nT C hbm ha hr F hbind (hsp Hs hO hsT (.inl (.inr ⟨{ cls := .type "list", data := .seq vs.toArray }, hs1⟩))) hO hsT (fun b u z => ?_) (fun b z => ?_) fun _ => hk
    · by_cases h : b = a
      · subst h
        rw [hs1] at z
        rw [← Option.some.inj z]
        exact ⟨ha, by rw [List.length_map]; exact hl, vs, _, rv, ha⟩
      · rw [hs2 h] at z
        by_cases h2 : b ∈ cs.map (·.2)
        · rw [ht1 h2] at z
          rw [← Option.some.inj z]
          exact tabAt h2
        · rw [ht2 h2] at z
          cases z
    · by_cases h : b = a
      · exact .inl h
      · by_cases h2 : b ∈ cs.map (·.2)
        · exact .inr h2
        · exact absurd ((hs2 h).trans (ht2 h2)) z
end
/-- the goal that k_head leaves, from the promise of a law in which lambdas stand: cs, the code objects and their tables -/
theorem walkGT {l : PySem.W.OpenLaw} {n k : Nat} {q : Program} {loose : List Str} {XP : (Str → Option Value) → Heap → Prop} {YP : World → Heap → Prop} {d : DefRec} {K : Params → PySem.W.Frag} {x : Str}
    (hn : l.most = some n) (hn2 : n ≤ sizeLine) (hdf : d.params.defaults = []) (hr : Room k callerA) (hY : ∀ (w : World) (h : Heap), YP w h → (K w.params).In h)
    (F : ∀ (w : World) (mg : Str → Option Value) (fa : Addr) (h : Heap), YP w h → (K w.params).In h → h.Ns mainGlobals mg → mg d.name = some (.ref fa) →
      ∃ (fd : FuncData) (cs : List (Addr × Addr)) (sp : Sp), (∀ p ∈ cs, h.get? p.2 = some { cls := .none, data := .fields #[] }) ∧ (∀ p ∈ cs, (K w.params).lookup p.2 = none) ∧ (∀ p ∈ cs, PySem.W.CodeHd h p.1 p.2) ∧ (∀ (s : Shared) (u : Value), BindsTo s fd ⟨[u], []⟩ [(x, u)]) ∧
        (∀ (H : Hp) (a : Addr) (ns : List Int), ns.length ≤ n → OnlyT (cs.map (·.2)) H → (∀ p ∈ cs, H p.2 = some (.tbl #[])) → SqL (K w.params) H a (ns.map V.int) → sp [.ref a] H (fun v _ => v = .bl true) E0) ∧
        ∀ base : Heap, (K w.params).In base → base.Ns mainGlobals mg → (∀ p ∈ cs, TabB base mg p.1 p.2) → FnG l.prog w (K w.params) mg base k fa fd [x] sp) :
    PySem.W.WalkO q loose XP YP l.row.toRowW d [] (fun f vs => PySem.call f vs) := by
  refine Att.attach_callB hn hdf ?_
  intro w s₀ s₁ mg mb fa o pm cd doc a vs ns G Y ho hd hcd hmg hobj hints hlen hbits hg
  obtain ⟨fd, cs, sp, hT, nT, C, hb, hsp, hF⟩ := F w mg fa _ Y (hY w _ Y) G.T.g hmg
  exact lawGT (hY w _ Y) G.T.g G.T.b G.T.builtins G.T.nolimit hg hT nT C G.T.bmain hobj hints (Nat.le_trans hlen hn2) hr hF hb fun H hO hH hS => hsp H a ns hlen hO hH hS

open LamX (TabB Tabs TabS ExtN CodeO LamS lamEnv lamCx lam_start2 lam_make2 lamS_by)
/-! ### a def whose code object's place is told -/
structure FunC (K : PySem.W.Frag) (x qual : Str) (st : Stmt) (f : Addr) (fd : FuncData) (cdv : Value) : Prop where
  ex : ∃ (oc : Value) (od : Option Addr) (kV doc pm : Value) (an : Option Addr) (ct : Value) (osl : Array (Option Value)),
    fd = PySem.W.fnOf x qual (defArgs st) (defBody st) (defScope st) .none kV doc pm an cdv ct ∧ K.lookup f = some ⟨oc, od, .func fd, osl⟩
  cd : PySem.W.codeIn K cdv qual = true
  kp : PySem.W.keepIn K (.ref f) = true
section
variable {P : Program} {w : World} {K : PySem.W.Frag} {mg : Str → Option Value} {base : Heap}
theorem funC_mk {x qual : Str} {st : Stmt} {f : Addr} {oc : Value} {od an : Option Addr} {osl : Array (Option Value)} {kV doc pm cdv ct : Value} (l : K.lookup f = some ⟨oc, od, .func (PySem.W.fnOf x qual (defArgs st) (defBody st) (defScope st) .none kV doc pm an cdv ct), osl⟩)
    (c : PySem.W.codeIn K cdv qual = true) (k : PySem.W.keepIn K (.ref f) = true) : FunC K x qual st f (PySem.W.fnOf x qual (defArgs st) (defBody st) (defScope st) .none kV doc pm an cdv ct) cdv :=
  { ex := ⟨oc, od, kV, doc, pm, an, ct, osl, rfl, l⟩, cd := c, kp := k }
theorem FnG.bodyC {x qual : Str} {st : Stmt} {f : Addr} {fd : FuncData} {N ps : List Str} {k : Nat} {sp : Sp} {cdv : Value} (F : FunC K x qual st f fd cdv) (S : FnScope N ps (defScope st)) (len : ∀ vs H Q E, sp vs H Q E → vs.length = ps.length)
    (hbody : ∀ (A : Around) (outer : List Env) (s : Shared) (H : Hp) (vs : List V) (Q : VK) (E : XK), (A.deeper (envOfC qual (defScope st) s.heap.objs.size f cdv)).guards = some [] → Room k (A.deeper (envOfC qual (defScope st) s.heap.objs.size f cdv)) → sp vs H Q E →
      ∃ t, PSs (cxOf CX0 P w K mg base N qual (defScope st) f cdv A outer s H E).nox (defBody st) t ∧ t { nx := fun _ H' => Q .non H', rt := Q } (start N vs) H) : FnG P w K mg base (k + 1) f fd ps sp := by
  obtain ⟨oc, od, kV, doc, pm, an, ct, osl, e, lk⟩ := F.ex
  subst e
  refine fnG_of lk F.cd S len fun A outer s H vs Q E hgd hr hsp => ?_
  obtain ⟨t, h, q⟩ := hbody A outer s H vs Q E hgd hr hsp
  exact ⟨t, h.nox, q⟩
end
/-! ### x(lambda: body), where x keeps the exception that the lambda lets out -/
section
variable {X : Cx} {pins : List (Addr × Obj)} {σ : L2.St} {H HZ : Hp} {s : Shared}
/-- a(), in the def that got the lambda; what is let out is wished at the slots that stand there -/
theorem pe_actW {CXg : CXT} {Eg : XK} {Ng : List Str} {qg : Str} {sg : Scope} {g f c' : Addr} {cdg pm ctv : Value} {params : Arguments} {body : Expr} {scope : Scope} {k i : Nat} {a : Str} {pn : List (Addr × Obj)} {xe : Value → Shared → Prop} {W : WX} {tb : XK → TE} {p1 p2 : Pos}
    (I : Inv X pins σ H s) (L : LamS X.env.scope scope) (hf : s.heap.get? f = some (PySem.W.kla_obj "<lambda>" (X.env.qual ++ "<lambda>") params body scope (cloFrom X.env.cells scope.names []) pm c' ctv)) (n0 : H f = none) (nfr : f ∉ frs X.stack)
    (hbind : bindArgs (PySem.W.kla_fn "<lambda>" (X.env.qual ++ "<lambda>") params body scope (cloFrom X.env.cells scope.names []) pm (.ref c') ctv) ⟨[], []⟩ = pure [])
    (tk : Takes ((cxOf CXg X.prog X.w X.K X.mg X.base Ng qg sg g cdg X.A X.stack s H Eg).tr pn xe) W) (hr : Room (k + 1) (X.A.deeper (envOfC qg sg s.heap.objs.size g cdg)))
    (hbody : ∀ (A : Around) (outer : List Env) (s : Shared) (H : Hp) (E : XK), Room k (A.deeper (lamEnv X scope s.heap.objs.size f c')) → PE (lamCx X A outer s H E scope f c') body (tb E)) (hN : Ng[i]? = some a) (hv : Vis sg a)
    (hd : (a == ("__debug__" : Str)) = false := by decide) (hcd : (a == ("__classdict__" : Str)) = false := by decide) :
    PE ((cxOf CXg X.prog X.w X.K X.mg X.base Ng qg sg g cdg X.A X.stack s H Eg).tr pn xe) (.Call (.Name a p1) [] [] p2) (fun σZ HZ Q => σZ[i]? = some (some (.ref f)) ∧ HZ c' = some (CodeO c' (X.env.qual ++ "<lambda>")) ∧ tb (WE W σZ) σ HZ Q) := by
  constructor
  rintro pinsZ sZ σZ HZ Q IZ ⟨hs, hc, ht⟩
  have var := (pe_var (pos := p1) (i := i) hN hv hd hcd).run pinsZ sZ σZ HZ (fun v H1 => v = .ref f ∧ H1 = HZ) IZ ⟨.ref f, hs, rfl, rfl⟩
  refine wpAny_Call_Name_kw (thn var ?_)
  rintro u s1 ⟨v, H1, I1, r1, rfl, rfl⟩
  cases (show u = Value.ref f from r1)
  have at1 : s1.heap.get? f = some (PySem.W.kla_obj "<lambda>" (X.env.qual ++ "<lambda>") params body scope (cloFrom X.env.cells scope.names []) pm c' ctv) := I1.base.keep f _ hf n0 nfr fun z => absurd (show f ∈ ([] : List Addr) from z) (by simp)
  refine PySem.W.callWith_F0 ⟨_, _, _, _, at1⟩ ?_
  have kept : Un (frs X.stack) [] H H1 s.heap s1.heap := I1.base
  obtain ⟨⟨oc, us, t, co1, co2, co3⟩, _⟩ := I1.hok c' _ hc
  have ran : codeAny (model X.prog X.w) (X.A.deeper (envOfC qg sg s.heap.objs.size g cdg)) (.call (.ref f) ⟨[], []⟩) (CR (L2.CX X.prog X.w) (envOfC qg sg s.heap.objs.size g cdg :: X.stack) X.prog X.w H1 s1 Q (WE W σZ)) s1 := by
    refine PySem.W.kla_callFunE hr.depth at1 rfl L.co L.gen rfl ⟨c', oc, us, t, rfl, co1, co2, co3⟩ ?_
    rw [hbind]
    refine wpAny_pure (wpAny_newFunctionEnv (fun y hy => (L.own y hy).2) (fun y hy => absurd hy (by simp)) (fun h₁ ns sub => ⟨I1.nolimit.fresh _ sub, ?_⟩) L.kind)
    have stay : ∀ b o, s1.heap.get? b = some o → h₁.get? b = some o := fun b o e => sub.extBut b o (Nat.ne_of_lt (Heap.lt_size e)) (Heap.get?_push_of_some _ e)
    have J := lam_start2 (A := X.A.deeper (envOfC qg sg s.heap.objs.size g cdg)) (outer := envOfC qg sg s.heap.objs.size g cdg :: X.stack) (E := WE W σZ) (scope := scope) (f := f) (c' := c') (tk := s1.toks + ([] : List (Str × Value)).length) I L I1.env0 hr.hd kept ns stay
    refine PySem.W.kla_codeExpr (wpAny_mono ((hbody _ _ s1 H1 (WE W σZ) (hr.deeper _)).run [] _ _ H1 Q J ht) ?_ fun _ _ z => z)
    rintro v s' ⟨w', H', J', rv, q⟩
    exact ⟨w', H', J'.os, J'.bare, J'.base, J'.hok, rv, q⟩
  refine wpAny_call (codeAny_mono ran fun r s' hq => ?_)
  match r, hq with
  | .ok (.ret u), hq => exact I1.after hq
  | .ok .next, hq => exact hq.elim
  | .ok .brk, hq => exact hq.elim
  | .ok .cont, hq => exact hq.elim
  | .error e, hq => exact passAt tk σZ pinsZ H1 s1 e s' I1 hq
/-- a() as a statement in the body of try -/
def tAct (f c' : Addr) (q : Str) (tl : XK → Hp → VK → Prop) (W : WX) : TS := fun D σ H => σ[0]? = some (some (.ref f)) ∧ H c' = some (CodeO c' q) ∧ tl (WE W σ) H fun _ H' => D.nx σ H'
theorem ps_act {Z : Cx} {f c' : Addr} {q a : Str} {tl : XK → Hp → VK → Prop} {W : WX} {p1 p2 pos : Pos} (act : PE Z (.Call (.Name a p1) [] [] p2) (fun σZ HZ Q => σZ[0]? = some (some (.ref f)) ∧ HZ c' = some (CodeO c' q) ∧ tl (WE W σZ) HZ Q)) :
    PS Z (.Expr (.Call (.Name a p1) [] [] p2) pos) (tAct f c' q tl W) := ps_expr act
/-- the def that calls what it got; TT: what it asks of the lambda's reading -/
def Gives (X : Cx) (Ng : List Str) (x : Str) (st : Stmt) (g : Addr) (cdg : Value) (a q : Str) (k : Nat) (TT : (XK → Hp → VK → Prop) → Hp → VK → Prop) : Prop :=
  ∀ (f c' : Addr) (s : Shared) (H : Hp) (Q : VK) (tl : XK → Hp → VK → Prop), Room k (X.A.deeper (envOfC x (defScope st) s.heap.objs.size g cdg)) →
    (∀ (W : WX) (pn : List (Addr × Obj)) (xe : Value → Shared → Prop) (p1 p2 : Pos), Takes ((cxOf CX0 X.prog X.w X.K X.mg X.base Ng x (defScope st) g cdg X.A X.stack s H E0).tr pn xe) W →
      PE ((cxOf CX0 X.prog X.w X.K X.mg X.base Ng x (defScope st) g cdg X.A X.stack s H E0).tr pn xe) (.Call (.Name a p1) [] [] p2) (fun σZ HZ Q => σZ[0]? = some (some (.ref f)) ∧ HZ c' = some (CodeO c' q) ∧ tl (WE W σZ) HZ Q)) →
    H c' = some (CodeO c' q) → TT tl H Q → ∃ t, PSs (cxOf CX0 X.prog X.w X.K X.mg X.base Ng x (defScope st) g cdg X.A X.stack s H E0).nox (defBody st) t ∧ t { nx := fun _ H' => Q .non H', rt := Q } (start Ng [.ref f]) H
/-- the callee's facts -/
structure LamD (K : PySem.W.Frag) (mg : Str → Option Value) (x a : Str) (st : Stmt) (g : Addr) (fd : FuncData) (cdv : Value) (Ng : List Str) : Prop where
  fn : FunC K x x st g fd cdv
  hm : mg x = some (.ref g)
  hb : Binds K fd [a] []
  sg : FnScope Ng [a] (defScope st)
  h0 : Ng[0]? = some a
  hv : Vis (defScope st) a
def tLamW (T : List (Addr × Str)) (TT : (XK → Hp → VK → Prop) → Hp → VK → Prop) (t : XK → TE) : TE := fun σ H Q => Tabs T H ∧ ∀ H1, ExtN H H1 → Tabs T H1 → TT (fun E H' Q' => t E σ H' Q') H1 Q
theorem pe_lamW {T : List (Addr × Str)} {TT : (XK → Hp → VK → Prop) → Hp → VK → Prop} {x a : Str} {st : Stmt} {g c P : Addr} {k : Nat} {fd : FuncData} {cdv : Value} {Ng : List Str} {params : Arguments} {body : Expr} {scope : Scope} {t : XK → TE} {p lpos pos : Pos}
    (D : LamD X.K X.mg x a st g fd cdv Ng) (hG : Gives X Ng x st g cdv a (X.env.qual ++ "<lambda>") (k + 1) TT) (TB : TabB X.base X.mg c P) (hcode : X.env.code = .ref c) (hmT : (P, X.env.qual ++ "<lambda>") ∈ T) (hu : ∀ p ∈ T, p.1 = P → p.2 = X.env.qual ++ "<lambda>")
    (hr : Room (k + 2) X.A) (hg : Gl X x) (L : LamS X.env.scope scope) (hbody : ∀ (A : Around) (outer : List Env) (s : Shared) (H : Hp) (E : XK) (f c' : Addr), Room k (A.deeper (lamEnv X scope s.heap.objs.size f c')) → PE (lamCx X A outer s H E scope f c') body (t E))
    (hdef : defaultsOf params X.env = ([], []) := by rfl) (hbind : ∀ (q : Str) (cl : List (Str × Addr)) (pm cv ctv : Value), bindArgs (PySem.W.kla_fn "<lambda>" q params body scope cl pm cv ctv) ⟨[], []⟩ = pure [] := by exact fun _ _ _ _ _ => rfl)
    (hdb : (x == ("__debug__" : Str)) = false := by decide) (hd : (a == ("__debug__" : Str)) = false := by decide) (hcd : (a == ("__classdict__" : Str)) = false := by decide) :
    PE X (.Call (.Name x p) [.Lambda params body scope lpos] [] pos) (tLamW T TT t) := by
  constructor
  rintro pins s σ H Q I ⟨hT, h⟩
  refine wpAny_Call_Name_kw (ld_glob I hg D.hm ?_ hdb)
  refine PySem.W.callWith_K (h₀ := X.base) I.ok.mod.kin D.fn.kp ?_ (by rfl) (by rfl)
  refine Calls.spliced_cons (lam_make2 I TB hcode hmT hu hT hdef (L.has I.ok) fun f c' pm' ctv H1 s' I1 eN T1 hf hfn hfr hco => ?_)
  refine Calls.spliced_nil ⟨I1.kIn, ?_⟩
  obtain ⟨oc, od, kV, doc, pm, an, ct, osl, efd, lk⟩ := D.fn.ex
  subst efd
  have ran : codeAny (model X.prog X.w) X.A (.call (.ref g) ⟨[.ref f], []⟩) (CR CX0 X.stack X.prog X.w H1 s' Q E0) s' := by
    refine LamX.run_ofS (N := Ng) (ps := [a]) (us := [.ref f]) (vs := [.ref f]) lk D.fn.cd D.sg hr I1.env0 (D.hb s' [.ref f] I1.kIn rfl) (.cons rfl .nil) rfl fun room => ?_
    obtain ⟨t', ps, run⟩ := hG f c' s' H1 Q (fun E H' Q' => t E σ H' Q') room (fun W pn xe p1 p2 tk => pe_actW (i := 0) I1 L hf hfn hfr (hbind _ _ _ _ _) tk room (fun A outer s H E r => hbody A outer s H E f c' r) D.h0 D.hv hd hcd) hco (h H1 eN T1)
    exact ⟨t', ps.nox, run⟩
  refine wpAny_call (codeAny_mono ran fun r s2 hq => ?_)
  match r, hq with
  | .ok (.ret u), hq => exact I1.after hq
  | .ok .next, hq => exact hq.elim
  | .ok .brk, hq => exact hq.elim
  | .ok .cont, hq => exact hq.elim
  | .error e, hq => exact False.elim hq
end

/-! ### tuples of great ints -/
structure GoodN (L : Nat) (d : PyData) (dep w : Nat) : Prop where
  sh : d.showable = true
  nd : d.hasDict = false
  dp : d.depth ≤ dep
  sl : d.leavesShort L = true
  wt : d.weight ≤ w
theorem GoodN.int {z : Int} (h : z.natAbs < 2 ^ 400) : GoodN 130 (.int z) 0 401 := by
  have hl : z.natAbs.log2 < 400 := PySem.Flt.log2_lt_of (by decide) h
  refine ⟨?_, rfl, Nat.le_refl _, ?_, ?_⟩
  · simp only [PyData.showable, decide_eq_true_eq]
    omega
  · simp only [PyData.leavesShort, PyData.shown]
    have := int_text_length_le10 (a := z) (k := 121) (by decide) (Nat.lt_of_lt_of_le h (by decide))
    refine decide_eq_true ?_
    show (Str.ofString (toString z)).length ≤ 130
    rw [PySem.ofString_length]
    omega
  · simp only [PyData.weight]
    split <;> omega
theorem goodN_all {L k w : Nat} : ∀ {ds : List PyData}, (∀ d ∈ ds, GoodN L d k w) → PyData.showableAll ds = true ∧ PyData.hasDictAll ds = false ∧ PyData.depthAll ds ≤ k ∧ PyData.leavesShortAll L ds = true ∧ PyData.weightAll ds ≤ ds.length * (w + 1)
  | [], _ => ⟨rfl, rfl, Nat.zero_le _, rfl, Nat.zero_le _⟩
  | d :: ds, h => by
    obtain ⟨a1, a2, a3, a4, a5⟩ := goodN_all (ds := ds) fun x hx => h x (List.mem_cons_of_mem _ hx)
    have g := h d List.mem_cons_self
    refine ⟨?_, ?_, ?_, ?_, ?_⟩
    · simp only [PyData.showableAll, g.sh, a1, Bool.and_self]
    · simp only [PyData.hasDictAll, g.nd, a2, Bool.or_self]
    · simp only [PyData.depthAll]
      exact Nat.max_le.mpr ⟨g.dp, a3⟩
    · simp only [PyData.leavesShortAll, g.sl, a4, Bool.and_self]
    · simp only [PyData.weightAll, List.length_cons, Nat.add_mul]
      have := g.wt
      omega
theorem GoodN.tuple {L : Nat} {ds : List PyData} {k w n : Nat} (h : ∀ d ∈ ds, GoodN L d k w) (hn : ds.length ≤ n) : GoodN L (.tuple ds) (k + 1) (n * (w + 1)) := by
  obtain ⟨a1, a2, a3, a4, a5⟩ := goodN_all h
  exact ⟨by simpa only [PyData.showable] using a1, by simpa only [PyData.hasDict] using a2, by simp only [PyData.depth]; omega, by simpa only [PyData.leavesShort] using a4, by simp only [PyData.weight]; exact Nat.le_trans a5 (Nat.mul_le_mul_right _ hn)⟩

local macro_rules | `(tactic| walk_at "lk") => `(tactic| first
  | assumption
  | exact upd_same
  | (refine' lk_ne ?h (by assumption); (case h => walk_at "lk"))
  | (refine' lk_ne2 ?n ?h; (case n => walk_at "ne"); (case h => walk_at "lk"))
  | (refine' lk_keep (by assumption) ?n ?h; (case n => walk_at "nin"); (case h => walk_at "lk")))
local macro_rules | `(tactic| walk_at "ne") => `(tactic| first
  | assumption
  | exact Ne.symm (by assumption))
local macro_rules | `(tactic| walk_at "nin") => `(tactic| first
  | assumption
  | (simp only [List.mem_cons, List.not_mem_nil, or_false, not_or, not_false_eq_true, and_true]; (repeat' apply And.intro); all_goals walk_at "ne"))
local macro_rules | `(tactic| walk_at "lkL") => `(tactic| first
  | assumption
  | (refine' SqL.of ?h; (case h => walk_at "lk"))
  | (refine' Kx.sqL ?k ?n ?h; (case k => walk_at "kx"); (case n => walk_at "nin"); (case h => walk_at "lkL")))
local macro_rules | `(tactic| walk_at "kx") => `(tactic| first
  | assumption
  | (refine' Kx.new ?k ?n; (case n => assumption); (case k => first | walk_at "kx" | exact Kx.refl [] _)))
local macro_rules | `(tactic| walk_at "lkT") => `(tactic| first
  | assumption
  | (refine' SqT.of ?h; (case h => walk_at "lk"))
  | (refine' FT.seq ?h; (case h => assumption))
  | (refine' Kx.sqT ?k ?n ?h; (case k => walk_at "kx"); (case n => walk_at "nin"); (case h => walk_at "lkT")))
local macro_rules | `(tactic| walk_at "sz") => `(tactic| first
  | exact Nat.zero_le _
  | (show (_ : Nat) ≤ sizeLine; decide)
  | (refine Nat.le_of_lt (small1000 ?h); (case h => first | omega | (simp; done) | (simp; omega))))
local macro_rules | `(tactic| walk_at "at") => `(tactic| first
  | exact rfl
  | assumption)
local macro_rules | `(tactic| walk_at "side") => `(tactic| first
  | assumption
  | (show (0 : Int) < _; first | decide | omega)
  | exact Or.inl ⟨by omega, by omega⟩
  | exact Or.inr ⟨by omega, by omega⟩
  | exact ⟨by omega, by omega⟩
  | exact ⟨by decide, by decide, by decide⟩
  | exact ⟨by decide, by decide, natAbs_lt (by omega) (by omega)⟩
  | exact small1000 (by first | omega | (simp; done) | (simp; omega))
  | omega)
local macro_rules | `(tactic| walk_at "rd") => `(tactic| dsimp only)
local macro_rules | `(tactic| walk_at "rd") => `(tactic| ((with_reducible refine' x_c  ?_)))
local macro_rules | `(tactic| walk_at "rd") => `(tactic| ((with_reducible refine' x_op  ?_)))
local macro_rules | `(tactic| walk_at "rd") => `(tactic| ((with_reducible refine' x_un  ?_)))
local macro_rules | `(tactic| walk_at "rd") => `(tactic| ((with_reducible refine' x_I0  ?_)))
local macro_rules | `(tactic| walk_at "rd") => `(tactic| ((with_reducible refine' x_U  ?_)))
local macro_rules | `(tactic| walk_at "rd") => `(tactic| ((with_reducible refine' x_isN  ?_)))
local macro_rules | `(tactic| walk_at "rd") => `(tactic| ((with_reducible refine' x_notN  ?_)))
local macro_rules | `(tactic| walk_at "rd") => `(tactic| ((with_reducible refine' x_nil  ?_)))
local macro_rules | `(tactic| walk_at "rd") => `(tactic| ((with_reducible refine' x_cons  ?_)))
local macro_rules | `(tactic| walk_at "rd") => `(tactic| ((with_reducible refine' x_lst  ?_)))
local macro_rules | `(tactic| walk_at "rd") => `(tactic| ((with_reducible refine' x_tup  ?_)))
local macro_rules | `(tactic| walk_at "rd") => `(tactic| ((with_reducible refine' x_tupF  ?_)))
local macro_rules | `(tactic| walk_at "rd") => `(tactic| ((with_reducible refine' x_CB  ?_)))
local macro_rules | `(tactic| walk_at "rd") => `(tactic| ((with_reducible refine' x_call  ?_)))
local macro_rules | `(tactic| walk_at "rd") => `(tactic| ((with_reducible refine' x_test  ?_)))
local macro_rules | `(tactic| walk_at "rd") => `(tactic| ((with_reducible refine' x_bl  ?_)))
local macro_rules | `(tactic| walk_at "rd") => `(tactic| ((with_reducible refine' x_B  ?_)))
local macro_rules | `(tactic| walk_at "rd") => `(tactic| ((with_reducible refine' x_andV  ?_)))
local macro_rules | `(tactic| walk_at "rd") => `(tactic| ((with_reducible refine' x_orV  ?_)))
local macro_rules | `(tactic| walk_at "rd") => `(tactic| ((with_reducible refine' x_notV  ?_)))
local macro_rules | `(tactic| walk_at "rd") => `(tactic| ((with_reducible refine' x_and  ?_)))
local macro_rules | `(tactic| walk_at "rd") => `(tactic| ((with_reducible refine' x_or  ?_)))
local macro_rules | `(tactic| walk_at "rd") => `(tactic| ((with_reducible refine' x_not  ?_)))
local macro_rules | `(tactic| walk_at "rd") => `(tactic| ((with_reducible refine' x_if  ?_)))
local macro_rules | `(tactic| walk_at "rd") => `(tactic| ((with_reducible refine' x_sl  ?_)))
local macro_rules | `(tactic| walk_at "rd") => `(tactic| ((with_reducible refine' x_no  ?_)))
local macro_rules | `(tactic| walk_at "rd") => `(tactic| ((with_reducible refine' x_part  ?_)))
local macro_rules | `(tactic| walk_at "rd") => `(tactic| ((with_reducible refine' x_int  ?_)))
local macro_rules | `(tactic| walk_at "rd") => `(tactic| ((with_reducible refine' x_seq  ?_)))
local macro_rules | `(tactic| walk_at "rd") => `(tactic| ((with_reducible refine' x_next  ?_)))
local macro_rules | `(tactic| walk_at "rd") => `(tactic| ((with_reducible refine' x_brk  ?_)))
local macro_rules | `(tactic| walk_at "rd") => `(tactic| ((with_reducible refine' x_cont  ?_)))
local macro_rules | `(tactic| walk_at "rd") => `(tactic| ((with_reducible refine' x_drop  ?_)))
local macro_rules | `(tactic| walk_at "rd") => `(tactic| ((with_reducible refine' x_ret  ?_)))
local macro_rules | `(tactic| walk_at "rd") => `(tactic| ((with_reducible refine' x_retN  ?_)))
local macro_rules | `(tactic| walk_at "rd") => `(tactic| ((with_reducible refine' x_asg  ?_)))
local macro_rules | `(tactic| walk_at "rd") => `(tactic| ((with_reducible refine' x_gnil  ?_)))
local macro_rules | `(tactic| walk_at "rd") => `(tactic| ((with_reducible refine' x_gcons  ?_)))
local macro_rules | `(tactic| walk_at "rd") => `(tactic| ((with_reducible refine' x_gsub  ?_)))
local macro_rules | `(tactic| walk_at "rd") => `(tactic| ((with_reducible refine' x_par  ?_)))
local macro_rules | `(tactic| walk_at "rd") => `(tactic| ((with_reducible refine' x_ifS  ?_)))
local macro_rules | `(tactic| walk_at "rd") => `(tactic| ((with_reducible refine' x_ipI  ?_)))
local macro_rules | `(tactic| walk_at "rd") => `(tactic| ((with_reducible refine' x_augS  ?_)))
local macro_rules | `(tactic| walk_at "rd") => `(tactic| ((with_reducible refine' x_abs  ?_)))
local macro_rules | `(tactic| walk_at "rd") => `(tactic| ((with_reducible refine' x_toI  ?_)))
local macro_rules | `(tactic| walk_at "rd") => `(tactic| ((with_reducible refine' x_toIb  ?_)))
local macro_rules | `(tactic| walk_at "rd") => `(tactic| ((with_reducible refine' x_min2  ?_)))
local macro_rules | `(tactic| walk_at "rd") => `(tactic| ((with_reducible refine' x_bm  ?_)))
local macro_rules | `(tactic| walk_at "rd") => `(tactic| ((with_reducible refine' x_bm0  ?_)))
local macro_rules | `(tactic| walk_at "rd") => `(tactic| ((with_reducible refine' x_bmF  ?_)))
local macro_rules | `(tactic| walk_at "rd") => `(tactic| ((with_reducible refine' x_lrg  ?_)))
local macro_rules | `(tactic| walk_at "rd") => `(tactic| ((with_reducible refine' x_yes  ?_)))
local macro_rules | `(tactic| walk_at "rd") => `(tactic| ((with_reducible refine' x_rg1  ?_)))
local macro_rules | `(tactic| walk_at "rd") => `(tactic| ((with_reducible refine' x_for  ?_)))
local macro_rules | `(tactic| walk_at "rd") => `(tactic| ((with_reducible refine' x_lc  ?_)))
local macro_rules | `(tactic| walk_at "rd") => `(tactic| ((with_reducible refine' x_iL  ?_)))
local macro_rules | `(tactic| walk_at "rd") => `(tactic| ((with_reducible refine' x_iT  ?_)))
local macro_rules | `(tactic| walk_at "rd") => `(tactic| ((with_reducible refine' x_iR1  ?_)))
local macro_rules | `(tactic| walk_at "rd") => `(tactic| ((with_reducible refine' x_iR2  ?_)))
local macro_rules | `(tactic| walk_at "rd") => `(tactic| ((with_reducible refine' x_iE  ?_)))
local macro_rules | `(tactic| walk_at "rd") => `(tactic| ((with_reducible refine' x_iET  ?_)))
local macro_rules | `(tactic| walk_at "rd") => `(tactic| ((with_reducible refine' x_name  ?_); try simp only [List.set_cons_zero, List.set_cons_succ]))
local macro_rules | `(tactic| walk_at "rd") => `(tactic| ((with_reducible refine' x_new ?s0 ?_); (case s0 => walk_at "sz"); intro _ _))
local macro_rules | `(tactic| walk_at "rd") => `(tactic| ((with_reducible refine' x_newF ?s0 ?_); (case s0 => walk_at "sz"); intro _ _ _ _ _))
local macro_rules | `(tactic| walk_at "rd") => `(tactic| ((with_reducible refine' x_iteT  ?_)))
local macro_rules | `(tactic| walk_at "rd") => `(tactic| ((with_reducible refine' x_iteF  ?_)))
local macro_rules | `(tactic| walk_at "rd") => `(tactic| ((with_reducible refine' x_neNil ?s0 ?s1 ?_); (case s0 => walk_at "lkL"); (case s1 => walk_at "lkL")))
local macro_rules | `(tactic| walk_at "rd") => `(tactic| ((with_reducible refine' x_two  ?_); try simp only [List.set_cons_zero, List.set_cons_succ]))
local macro_rules | `(tactic| walk_at "rd") => `(tactic| ((with_reducible refine' x_getL ?s0 ?s1 ?_); (case s0 => walk_at "lkL"); (case s1 => walk_at "at")))
local macro_rules | `(tactic| walk_at "rd") => `(tactic| ((with_reducible refine' x_var ?s0 ?_); (case s0 => exact rfl)))
local macro_rules | `(tactic| walk_at "rd") => `(tactic| ((with_reducible refine' x_eq ?s0 ?_); (case s0 => exact rfl)))
local macro_rules | `(tactic| walk_at "rd") => `(tactic| ((with_reducible refine' x_ne ?s0 ?_); (case s0 => exact rfl)))
local macro_rules | `(tactic| walk_at "rd") => `(tactic| ((with_reducible refine' x_I ?s0 ?_); (case s0 => walk_at "side")))
local macro_rules | `(tactic| walk_at "rd") => `(tactic| ((with_reducible refine' x_ixL ?s0 ?s1 ?_); (case s0 => walk_at "lkL"); (case s1 => walk_at "at")))
local macro_rules | `(tactic| walk_at "rd") => `(tactic| ((with_reducible refine' x_ixT ?s0 ?s1 ?_); (case s0 => walk_at "lkT"); (case s1 => walk_at "at")))
local macro_rules | `(tactic| walk_at "rd") => `(tactic| ((with_reducible refine' x_slL ?s0 ?_); (case s0 => walk_at "lkL")))
local macro_rules | `(tactic| walk_at "rd") => `(tactic| ((with_reducible refine' x_gtup ?s0 ?s1 ?_); (case s0 => walk_at "lkT"); (case s1 => exact rfl)))
local macro_rules | `(tactic| walk_at "rd") => `(tactic| ((with_reducible refine' x_setL ?s0 ?s1 ?_); (case s0 => walk_at "lk"); (case s1 => walk_at "at"); try simp only [Int.reduceToNat, List.set]))
local macro_rules | `(tactic| walk_at "rd") => `(tactic| ((with_reducible refine' x_aug ?s0 ?_); (case s0 => exact rfl)))
local macro_rules | `(tactic| walk_at "rd") => `(tactic| ((with_reducible refine' x_lenS ?s0 ?_); (case s0 => walk_at "lkL")))
local macro_rules | `(tactic| walk_at "rd") => `(tactic| ((with_reducible refine' x_lenT ?s0 ?_); (case s0 => walk_at "lkT")))
local macro_rules | `(tactic| walk_at "rd") => `(tactic| ((with_reducible refine' x_tupS ?s0 ?_); (case s0 => walk_at "lkL")))
local macro_rules | `(tactic| walk_at "rd") => `(tactic| ((with_reducible refine' x_tupF1 ?s0 ?_); (case s0 => walk_at "lkL")))
local macro_rules | `(tactic| walk_at "rd") => `(tactic| ((with_reducible refine' x_insert ?s0 ?s1 ?s2 ?s3 ?_); (case s0 => walk_at "lk"); (case s1 => walk_at "side"); (case s2 => walk_at "side"); (case s3 => walk_at "side")))
local macro_rules | `(tactic| walk_at "rd") => `(tactic| ((with_reducible refine' x_append ?s0 ?s1 ?_); (case s0 => walk_at "lk"); (case s1 => walk_at "side")))
local macro_rules | `(tactic| walk_at "rd") => `(tactic| ((with_reducible refine' x_reverse ?s0 ?_); (case s0 => walk_at "lk")))
local macro_rules | `(tactic| walk_at "rd") => `(tactic| ((with_reducible refine' x_dc  ?_)))
local macro_rules | `(tactic| walk_at "rd") => `(tactic| ((with_reducible refine' x_while  ?_)))
local macro_rules | `(tactic| walk_at "rd") => `(tactic| ((with_reducible refine' x_din  ?_)))
local macro_rules | `(tactic| walk_at "rd") => `(tactic| ((with_reducible refine' x_dnotin  ?_)))
local macro_rules | `(tactic| walk_at "rd") => `(tactic| ((with_reducible refine' x_dput  ?_)))
local macro_rules | `(tactic| walk_at "rd") => `(tactic| ((with_reducible refine' x_dget  ?_)))
local macro_rules | `(tactic| walk_at "rd") => `(tactic| ((with_reducible refine' x_pop ?s0 ?s1 ?_); (case s0 => walk_at "lk"); (case s1 => walk_at "at")))
local macro_rules | `(tactic| walk_at "rd") => `(tactic| ((with_reducible refine' x_dgI ?s0 ?_); (case s0 => walk_at "lk")))
local macro_rules | `(tactic| walk_at "rd") => `(tactic| ((with_reducible refine' x_dpI ?s0 ?s1 ?_); (case s0 => walk_at "lk"); (case s1 => walk_at "side")))
local macro_rules | `(tactic| walk_at "rd") => `(tactic| ((with_reducible refine' x_listD ?s0 ?_); (case s0 => walk_at "lk"); intro _ _))
local macro_rules | `(tactic| walk_at "rd") => `(tactic| ((with_reducible refine' x_truthL ?s0 ?_); (case s0 => walk_at "lkL")))
local macro_rules | `(tactic| walk_at "rd") => `(tactic| ((with_reducible refine' x_inL ?s0 ?s1 ?s2 ?_); (case s0 => walk_at "lkL"); (case s1 => exact rfl); (case s2 => first | assumption | exact flat_ints _)))
local macro_rules | `(tactic| walk_at "rd") => `(tactic| ((with_reducible refine' x_notInL ?s0 ?s1 ?s2 ?_); (case s0 => walk_at "lkL"); (case s1 => exact rfl); (case s2 => first | assumption | exact flat_ints _)))
local macro_rules | `(tactic| walk_at "rd") => `(tactic| ((with_reducible refine' x_kw  ?_)))
local macro_rules | `(tactic| walk_at "rd") => `(tactic| ((with_reducible refine' x_ckw  ?_)))
local macro_rules | `(tactic| walk_at "rd") => `(tactic| ((with_reducible refine' x_iR3  ?_)))
local macro_rules | `(tactic| walk_at "rd") => `(tactic| ((with_reducible refine' x_par3  ?_); try simp only [List.set_cons_zero, List.set_cons_succ]))
local macro_rules | `(tactic| walk_at "rd") => `(tactic| ((with_reducible refine' x_three  ?_); try simp only [List.set_cons_zero, List.set_cons_succ]))
local macro_rules | `(tactic| walk_at "rd") => `(tactic| ((with_reducible refine' x_orT  ?_)))
local macro_rules | `(tactic| walk_at "rd") => `(tactic| ((with_reducible refine' x_truN  ?_)))
local macro_rules | `(tactic| walk_at "rd") => `(tactic| ((with_reducible refine' x_truT ?s0 ?_); (case s0 => walk_at "lkT")))
local macro_rules | `(tactic| walk_at "rd") => `(tactic| ((with_reducible refine' x_glst ?s0 ?s1 ?_); (case s0 => walk_at "lkL"); (case s1 => exact rfl)))
local macro_rules | `(tactic| walk_at "rd") => `(tactic| ((with_reducible refine' x_chain  ?_)))
local macro_rules | `(tactic| walk_at "rd") => `(tactic| ((with_reducible refine' x_isiII  ?_)))
local macro_rules | `(tactic| walk_at "rd") => `(tactic| ((with_reducible refine' x_isiIB  ?_)))
local macro_rules | `(tactic| walk_at "rd") => `(tactic| ((with_reducible refine' x_revL  ?_)))
local macro_rules | `(tactic| walk_at "rd") => `(tactic| ((with_reducible refine' x_kwx  ?_)))
local macro_rules | `(tactic| walk_at "rd") => `(tactic| ((with_reducible refine' x_rg2  ?_)))
local macro_rules | `(tactic| walk_at "rd") => `(tactic| ((with_reducible refine' x_int2  ?_)))
local macro_rules | `(tactic| walk_at "rd") => `(tactic| ((with_reducible refine' x_dget2  ?_)))
def topS (i : Nat) : Stmt := PySem.Challenge.pw_slotfall_k25_nodes_compared.main.body.getD i (.Pass ⟨0, 0, 0, 0⟩)
abbrev sNoNodeInit : Stmt := inClass (topS 2) 0
theorem scNoNodeInit : FnScope ["self", "node"] ["self", "node"] (defScope sNoNodeInit) := ⟨rfl, rfl, rfl, by decide +kernel, rfl, by decide +kernel, by decide +kernel⟩
abbrev sNoReferenceInit : Stmt := inClass (topS 3) 0
theorem scNoReferenceInit : FnScope ["self", "node"] ["self", "node"] (defScope sNoReferenceInit) := ⟨rfl, rfl, rfl, by decide +kernel, rfl, by decide +kernel, by decide +kernel⟩
abbrev sNoSlotInit : Stmt := inClass (topS 4) 0
theorem scNoSlotInit : FnScope ["self", "slot"] ["self", "slot"] (defScope sNoSlotInit) := ⟨rfl, rfl, rfl, by decide +kernel, rfl, by decide +kernel, by decide +kernel⟩
abbrev sNotFreedInit : Stmt := inClass (topS 5) 0
theorem scNotFreedInit : FnScope ["self", "node"] ["self", "node"] (defScope sNotFreedInit) := ⟨rfl, rfl, rfl, by decide +kernel, rfl, by decide +kernel, by decide +kernel⟩
abbrev sNoPositionInit : Stmt := inClass (topS 6) 0
theorem scNoPositionInit : FnScope ["self", "position"] ["self", "position"] (defScope sNoPositionInit) := ⟨rfl, rfl, rfl, by decide +kernel, rfl, by decide +kernel, by decide +kernel⟩
abbrev sUndoErrorInit : Stmt := inClass (topS 7) 0
theorem scUndoErrorInit : FnScope ["self", "count"] ["self", "count"] (defScope sUndoErrorInit) := ⟨rfl, rfl, rfl, by decide +kernel, rfl, by decide +kernel, by decide +kernel⟩
abbrev sIsInteger : Stmt := topS 9
theorem scIsInteger : FnScope ["value"] ["value"] (defScope sIsInteger) := ⟨rfl, rfl, rfl, by decide +kernel, rfl, by decide +kernel, by decide +kernel⟩
abbrev sNeedFreed : Stmt := topS 11
theorem scNeedFreed : FnScope ["freed", "value"] ["freed", "value"] (defScope sNeedFreed) := ⟨rfl, rfl, rfl, by decide +kernel, rfl, by decide +kernel, by decide +kernel⟩
abbrev sNodeBefore : Stmt := topS 13
theorem scNodeBefore : FnScope ["tree", "first", "second", "limit", "nodes"] ["tree", "first", "second", "limit"] (defScope sNodeBefore) := ⟨rfl, rfl, rfl, by decide +kernel, rfl, by decide +kernel, by decide +kernel⟩
abbrev sNodesIn : Stmt := topS 14
theorem scNodesIn : FnScope ["tree", "node", "entry"] ["tree"] (defScope sNodesIn) := ⟨rfl, rfl, rfl, by decide +kernel, rfl, by decide +kernel, by decide +kernel⟩
abbrev sSlotsTo : Stmt := topS 15
theorem scSlotsTo : FnScope ["tree", "node", "slots", "slot"] ["tree", "node"] (defScope sSlotsTo) := ⟨rfl, rfl, rfl, by decide +kernel, rfl, by decide +kernel, by decide +kernel⟩
abbrev sNodeRank : Stmt := topS 16
theorem scNodeRank : FnScope ["tree", "node", "limit", "rank", "piece", "slot", "number"] ["tree", "node", "limit"] (defScope sNodeRank) := ⟨rfl, rfl, rfl, by decide +kernel, rfl, by decide +kernel, by decide +kernel⟩
abbrev sQPen : Stmt := topS 18
theorem scQPen : FnScope ["_law_script"] ["_law_script"] (defScope sQPen) := ⟨rfl, rfl, rfl, by decide +kernel, rfl, by decide +kernel, by decide +kernel⟩
abbrev sQDraw : Stmt := topS 19
theorem scQDraw : FnScope ["_law_pen_here", "_law_bound", "_law_digit", "_law_at", "_law_cell", "_law_great", "_law_mixed"] ["_law_pen_here", "_law_bound"] (defScope sQDraw) := ⟨rfl, rfl, rfl, by decide +kernel, rfl, by decide +kernel, by decide +kernel⟩
abbrev sQOrder : Stmt := topS 20
theorem scQOrder : FnScope ["_law_pen_here", "_law_size_here", "_law_left", "_law_k"] ["_law_pen_here", "_law_size_here"] (defScope sQOrder) := ⟨rfl, rfl, rfl, by decide +kernel, rfl, by decide +kernel, by decide +kernel⟩
abbrev sQSize : Stmt := topS 21
theorem scQSize : FnScope ["_law_pen_here", "_law_most", "_law_way"] ["_law_pen_here", "_law_most"] (defScope sQSize) := ⟨rfl, rfl, rfl, by decide +kernel, rfl, by decide +kernel, by decide +kernel⟩
abbrev sQTree : Stmt := topS 22
theorem scQTree : FnScope ["_law_pen_here", "_law_most", "_law_size_here", "_law_spare", "_law_names", "_law_deep", "_law_k", "_law_unused", "_law_found", "_law_parent", "_law_left", "_law_slot"] ["_law_pen_here", "_law_most"] (defScope sQTree) := ⟨rfl, rfl, rfl, by decide +kernel, rfl, by decide +kernel, by decide +kernel⟩
abbrev sQWalk : Stmt := topS 23
theorem scQWalk : FnScope ["_law_given", "_law_cap", "_law_child_at", "_law_v", "_law_entry", "_law_log", "_law_places", "_law_shelf", "_law_stack", "_law_here", "_law_at", "_law_child"] ["_law_given", "_law_cap"] (defScope sQWalk) := ⟨rfl, rfl, rfl, by decide +kernel, rfl, by decide +kernel, by decide +kernel⟩
abbrev sQLimit : Stmt := topS 24
theorem scQLimit : FnScope ["_law_pen_here", "_law_size_here", "_law_some"] ["_law_pen_here", "_law_size_here"] (defScope sQLimit) := ⟨rfl, rfl, rfl, by decide +kernel, rfl, by decide +kernel, by decide +kernel⟩
abbrev sQError : Stmt := topS 25
theorem scQError : FnScope ["_law_ask", "_law_caught", "e"] ["_law_ask"] (defScope sQError) := ⟨rfl, rfl, rfl, by decide +kernel, rfl, by decide +kernel, by decide +kernel⟩
abbrev sQPairs : Stmt := topS 26
theorem scQPairs : FnScope ["_law_pen_here", "_law_nodes", "_law_found", "_law_v", "_law_k", "_law_other"] ["_law_pen_here", "_law_nodes"] (defScope sQPairs) := ⟨rfl, rfl, rfl, by decide +kernel, rfl, by decide +kernel, by decide +kernel⟩
abbrev sQRight : Stmt := topS 27
theorem scQRight : FnScope ["_law_pen_here", "_law_given", "_law_cap", "_law_log", "_law_places", "_law_one", "_law_other", "_law_due", "_law_found"] ["_law_pen_here", "_law_given", "_law_cap"] (defScope sQRight) := ⟨rfl, rfl, rfl, by decide +kernel, rfl, by decide +kernel, by decide +kernel⟩
abbrev sQRefused : Stmt := topS 28
theorem scQRefused : FnScope ["_law_pen_here", "_law_given", "_law_cap", "_law_size_here", "_law_some", "_law_v", "_law_nodes", "_law_found", "_law_odd", "_law_other"] ["_law_pen_here", "_law_given", "_law_cap"] (defScope sQRefused) := ⟨rfl, rfl, rfl, by decide +kernel, rfl, by decide +kernel, by decide +kernel⟩
abbrev sLaw : Stmt := topS 29
theorem scLaw : FnScope ["_law_script", "_law_pen_here", "_law_most", "_law_given", "_law_turn", "_law_cap"] ["_law_script"] (defScope sLaw) := ⟨rfl, rfl, rfl, by decide +kernel, rfl, by decide +kernel, by decide +kernel⟩

theorem boot'_LookupError : bootBuiltins "LookupError" = some (.type "LookupError") := by decide +kernel
structure Txt (mg : Str → Option Value) : Prop where
  b_len : mg "len" = none
  b_LookupError : mg "LookupError" = none
  b_abs : mg "abs" = none
  b_int : mg "int" = none
  b_bool : mg "bool" = none
  b_list : mg "list" = none
  b_tuple : mg "tuple" = none
  b_min : mg "min" = none
  b_max : mg "max" = none
  b_sum : mg "sum" = none
  b_any : mg "any" = none
  b_all : mg "all" = none
  b_repr : mg "repr" = none
  b_sorted : mg "sorted" = none
  b_isinstance : mg "isinstance" = none
  b_range : mg "range" = none
  b_enumerate : mg "enumerate" = none

/-- the pen at p over the cells at c: at most n cells drawn -/
def PenAt (H : Hp) (p c : Addr) (n : Nat) : Prop := ∃ (cs : List Int) (pl r : Int), H p = some (.lst [.ref c, .int pl, .int r]) ∧ H c = some (.lst (cs.map V.int)) ∧ cs.length ≤ 63 ∧ 0 ≤ pl ∧ pl ≤ n ∧ 0 ≤ r
theorem PenAt.ne {H : Hp} {p c : Addr} {n : Nat} (h : PenAt H p c n) : c ≠ p := by
  obtain ⟨cs, pl, r, h1, h2, _⟩ := h
  rintro rfl
  rw [h1] at h2
  have e := HO.lst.inj (Option.some.inj h2)
  cases cs with
  | nil => cases e
  | cons z t => cases (List.cons.inj e).1
def spDraw : Sp := fun vs H Q _ => ∃ (p c : Addr) (n : Nat) (m : Int), vs = [.ref p, .int m] ∧ PenAt H p c n ∧ n < 1000000 ∧ 0 < m ∧ m < 1073741824 ∧
  ∀ d H', 0 ≤ d → d < m → Kx [p] H H' → PenAt H' p c (n + 1) → Q (.int d) H'
theorem at_mod {cs : List Int} (i : Int) (h : ¬ (!cs.isEmpty) = false) : (0 : Int) < (cs.map V.int).length ∧ ∃ z, atI (cs.map V.int) (i % ((cs.map V.int).length : Int)) = some (.int z) := by
  have hl : 0 < cs.length := by
    cases cs with
    | nil => exact absurd rfl h
    | cons z t => exact Nat.succ_pos _
  have h0 : (0 : Int) < (cs.map V.int).length := by
    rw [List.length_map]
    omega
  refine ⟨h0, ?_⟩
  have h1 := Int.emod_nonneg i (Int.ne_of_gt h0)
  have h2 := Int.emod_lt_of_pos i h0
  generalize i % ((cs.map V.int).length : Int) = k at h1 h2
  rw [List.length_map] at h2
  obtain ⟨j, rfl⟩ : ∃ j : Nat, k = j := ⟨k.toNat, by omega⟩
  have hj : j < cs.length := by omega
  exact ⟨cs[j], atI_nat (by rw [List.getElem?_map, List.getElem?_eq_getElem hj]; rfl)⟩
theorem draw_bound {a pl : Int} (h0 : 0 ≤ a) (h1 : a < 2147483647) (h2 : 0 ≤ pl) (h3 : pl ≤ 1000000) : (a * (2 * pl + 17) + 90011).natAbs < 2 ^ 64 := by
  have e1 : 0 ≤ a * (2 * pl + 17) := Int.mul_nonneg h0 (by omega)
  have e2 : a * (2 * pl + 17) ≤ 2147483647 * 2000017 := Int.mul_le_mul (by omega) (by omega) (by omega) (by decide)
  generalize a * (2 * pl + 17) = x at e1 e2
  omega
theorem draw_bound1 {a pl : Int} (h0 : 0 ≤ a) (h1 : a < 2147483587) (h2 : 0 ≤ pl) (h3 : pl ≤ 1000000) : (a + 40009 * pl + 6007 * pl * pl + 13).natAbs < 2 ^ 64 := by
  have e3 : 0 ≤ 6007 * pl * pl := Int.mul_nonneg (by omega) h2
  have e4 : 6007 * pl * pl ≤ 6007 * 1000000 * 1000000 := Int.mul_le_mul (by omega) (by omega) (by omega) (by decide)
  generalize 6007 * pl * pl = y at e3 e4
  omega
section Xtra
local macro_rules | `(tactic| walk_at "side") => `(tactic| exact ⟨by decide, by decide, draw_bound (Int.emod_nonneg _ (by decide)) (Int.emod_lt_of_pos _ (by decide)) (by assumption) (by omega)⟩)
local macro_rules | `(tactic| walk_at "side") => `(tactic| exact ⟨by decide, by decide, draw_bound1 (Int.emod_nonneg _ (by decide)) (Int.emod_lt_of_pos _ (by decide)) (by assumption) (by omega)⟩)
section
variable {P : Program} {w : World} {K : PySem.W.Frag} {mg : Str → Option Value} {base : Heap}

theorem ok_draw {f : Addr} {fd : FuncData} (F : Fun K "_law_draw" "_law_draw" sQDraw f fd) (T : Txt mg) : FnOk P w K mg base CX0 1 f fd ["_law_pen_here", "_law_bound"] spDraw := by
  refine F.ok scQDraw (fun vs H Q E h => ?_) (fun cdv A outer s H vs Q E hr h => ?_)
  · obtain ⟨p, c, n, m, rfl, _⟩ := h
    rfl
  · obtain ⟨p, c, n, m, rfl, hpen, hn, hm0, hm1, k⟩ := h
    have ncp := hpen.ne
    obtain ⟨cs, pl, r, hp, hcs, hl, h0, h1, h2⟩ := hpen
    refine ⟨_, (pss_cons (ps_if (pt_cmpR op_gt (pe_ix ix_list (pv 0) pe_int (fun _ _ => rfl)) pe_int (nomark _)) (pss_cons (ps_set (i := 2) scQDraw.nd rfl (Or.inl rfl) (pe_op op_mod (pe_ix ix_list (pv 0) pe_int (fun _ _ => rfl)) (pv 1)))
      (pss_cons (ps_asg (pe_op op_fdiv (pe_ix ix_list (pv 0) pe_int (fun _ _ => rfl)) (pv 1)) (pg_sub (pv 0) pe_int set_list))
      (pss_one (ps_ret (pv 2))))) pss_nil)
      (pss_cons (ps_set (i := 3) scQDraw.nd rfl (Or.inl rfl) (pe_ix ix_list (pv 0) pe_int (fun _ _ => rfl)))
      (pss_cons (ps_asg (pe_op op_add (pv 3) pe_int) (pg_sub (pv 0) pe_int set_list))
      (pss_cons (ps_set (i := 4) scQDraw.nd rfl (Or.inl rfl) (pe_op op_add (pe_op op_mul pe_int (pv 3)) pe_int))
      (pss_cons (ps_if (pt_cmpR (op_neD hr.units) (pe_ix ix_list (pv 0) pe_int (fun _ _ => rfl)) (pe_lst pa_nil) (nomark _)) (pss_one (ps_set (i := 4) scQDraw.nd rfl (Or.inl rfl) (pe_ix ix_list (pe_ix ix_list (pv 0) pe_int (fun _ _ => rfl)) (pe_op op_mod (pv 3) (pe_callB call_len_seq (by rfl) T.b_len boot'_len (pa_cons (pe_ix ix_list (pv 0) pe_int (fun _ _ => rfl)) pa_nil))) (fun _ _ => rfl)))) pss_nil)
      (pss_cons (ps_if ((pw_and (pt_cmpR op_lt (pv 3) (pe_callB call_len_seq (by rfl) T.b_len boot'_len (pa_cons (pe_ix ix_list (pv 0) pe_int (fun _ _ => rfl)) pa_nil)) (nomark _)) (pw_and1 (pt_cmpR op_ge (pe_callB call_abs (by rfl) T.b_abs boot'_abs (pa_cons (pv 4) pa_nil)) (pe_op op_pow pe_int pe_int) (nomark _))))).pt (pss_cons (ps_set (i := 5) scQDraw.nd rfl (Or.inl rfl) (pe_op op_add (pe_op op_mul pe_int (pe_op op_sub (pe_callB call_abs (by rfl) T.b_abs boot'_abs (pa_cons (pv 4) pa_nil)) (pe_op op_pow pe_int pe_int))) (pe_callTy call_int1 (by rfl) T.b_int boot'_int (pa_cons (pe_cmpR op_lt (pv 4) pe_int (nomark _)) pa_nil))))
      (pss_cons (ps_asg (pe_op op_fdiv (pv 5) (pv 1)) (pg_sub (pv 0) pe_int set_list))
      (pss_one (ps_ret (pe_op op_mod (pv 5) (pv 1)))))) pss_nil)
      (pss_cons (ps_set (i := 6) scQDraw.nd rfl (Or.inl rfl) (pe_op op_mod (pe_op op_pow (pe_op op_add (pe_op op_add (pe_op op_add (pe_op op_mod (pv 4) pe_int) (pe_op op_mul pe_int (pv 3))) (pe_op op_mul (pe_op op_mul pe_int (pv 3)) (pv 3))) pe_int) pe_int) pe_int))
      (pss_cons (ps_set (i := 6) scQDraw.nd rfl (Or.inl rfl) (pe_op op_mod (pe_op op_pow (pe_op op_add (pe_op op_mul (pv 6) (pe_op op_add (pe_op op_mul pe_int (pv 3)) pe_int)) pe_int) pe_int) pe_int))
      (pss_one (ps_ret (pe_op op_mod (pe_op op_fdiv (pv 6) pe_int) (pv 1)))))))))))), ?_⟩
    refine x_start (σ' := [some (.ref p), some (.int m), none, none, none, none, none]) rfl ?_
    try dsimp only [cxOf]
    have fin : ∀ d H1 pl' r', 0 ≤ d → d < m → Kx [p] H H1 → H1 p = some (.lst [.ref c, .int pl', .int r']) → 0 ≤ pl' → pl' ≤ pl + 1 → 0 ≤ r' → Q (.int d) H1 := by
      intro d H1 pl' r' a1 a2 a3 a4 a5 a6 a7
      exact k d H1 a1 a2 a3 ⟨cs, pl', r', a4, a3 c _ (by simpa using ncp) hcs, hl, a5, by omega, a7⟩
    have kx : ∀ o, Kx [p] H (upd H p o) := fun o => (Kx.refl _ _).wr (.inr (by simp))
    repeat walk_at "rd"
    refine ite2 (fun hc => ?_) (fun hc => ?_)
    · repeat walk_at "rd"
      exact fin _ _ pl (r / m) (Int.emod_nonneg _ (by omega)) (Int.emod_lt_of_pos _ hm0) (kx _) upd_same h0 (by omega) (Int.ediv_nonneg h2 (by omega))
    · repeat walk_at "rd"
      generalize hH1 : upd H p (.lst [.ref c, .int (pl + 1), .int r]) = H1
      rename_i q nq
      rw [hH1] at nq
      have p1 : H1 p = some (.lst [.ref c, .int (pl + 1), .int r]) := by rw [← hH1]; exact upd_same
      have k1 : Kx [p] H H1 := by rw [← hH1]; exact kx _
      generalize hH2 : upd H1 q (.lst []) = H2
      have p2 : H2 p = some (.lst [.ref c, .int (pl + 1), .int r]) := by rw [← hH2]; exact lk_ne p1 nq
      have c2 : H2 c = some (.lst (cs.map V.int)) := by rw [← hH2]; exact lk_ne (k1 c _ (by simpa using ncp) hcs) nq
      have q2 : H2 q = some (.lst []) := by rw [← hH2]; exact upd_same
      have k2 : Kx [p] H H2 := by rw [← hH2]; exact k1.new nq
      repeat walk_at "rd"
      refine ite2 (fun hc2 => ?_) (fun hc2 => ?_)
      · obtain ⟨hz0, z, hz⟩ := at_mod (cs := cs) pl (by simpa using hc2)
        repeat walk_at "rd"
        refine ite2 (fun hc3 => ?_) (fun hc3 => ?_)
        · repeat walk_at "rd"
          refine ite2 (fun hc4 => ?_) (fun hc4 => ?_)
          · have hc5 := of_decide_eq_true hc4
            repeat walk_at "rd"
            refine fin _ _ (pl + 1) _ (Int.emod_nonneg _ (by omega)) (Int.emod_lt_of_pos _ hm0) (k2.wr (.inr (by simp))) upd_same (by omega) (by omega) (Int.ediv_nonneg ?_ (by omega))
            have h18 : (10 : Int) ^ (18 : Int).toNat = 1000000000000000000 := by decide
            split <;> omega
          · repeat walk_at "rd"
            exact fin _ _ (pl + 1) r (Int.emod_nonneg _ (by omega)) (Int.emod_lt_of_pos _ hm0) k2 p2 (by omega) (by omega) h2
        · repeat walk_at "rd"
          exact fin _ _ (pl + 1) r (Int.emod_nonneg _ (by omega)) (Int.emod_lt_of_pos _ hm0) k2 p2 (by omega) (by omega) h2
      · repeat walk_at "rd"
        refine ite2 (fun hc3 => ?_) (fun hc3 => ?_)
        · repeat walk_at "rd"
          refine ite2 (fun hc4 => ?_) (fun hc4 => ?_)
          · have hc5 := of_decide_eq_true hc4
            repeat walk_at "rd"
            refine fin _ _ (pl + 1) _ (Int.emod_nonneg _ (by omega)) (Int.emod_lt_of_pos _ hm0) (k2.wr (.inr (by simp))) upd_same (by omega) (by omega) (Int.ediv_nonneg ?_ (by omega))
            have h18 : (10 : Int) ^ (18 : Int).toNat = 1000000000000000000 := by decide
            split <;> omega
          · repeat walk_at "rd"
            exact fin _ _ (pl + 1) r (Int.emod_nonneg _ (by omega)) (Int.emod_lt_of_pos _ hm0) k2 p2 (by omega) (by omega) h2
        · repeat walk_at "rd"
          exact fin _ _ (pl + 1) r (Int.emod_nonneg _ (by omega)) (Int.emod_lt_of_pos _ hm0) k2 p2 (by omega) (by omega) h2
end

end Xtra


section
variable {P : Program} {w : World} {K : PySem.W.Frag} {mg : Str → Option Value} {base : Heap}

def spPen (K : PySem.W.Frag) : Sp := fun vs H Q _ => ∃ (a : Addr) (ns : List Int), vs = [.ref a] ∧ SqL K H a (ns.map V.int) ∧
  ∀ p c H', H p = none → H c = none → Kx [] H H' → PenAt H' p c 0 → Q (.ref p) H'
theorem ok_pen {f : Addr} {fd : FuncData} (F : Fun K "_law_pen" "_law_pen" sQPen f fd) (T : Txt mg) : FnOk P w K mg base CX0 1 f fd ["_law_script"] (spPen K) := by
  refine F.ok scQPen (fun vs H Q E h => ?_) (fun cdv A outer s H vs Q E hr h => ?_)
  · obtain ⟨a, ns, rfl, _⟩ := h
    rfl
  · obtain ⟨a, ns, rfl, ha, k⟩ := h
    refine ⟨_, (pss_one (ps_ret (pe_lst (pa_cons (pe_callTy call_list_of (by rfl) T.b_list boot'_list (pa_cons (pe_slice sl_list (pv 0) po_none (po_some pe_int)) pa_nil)) (pa_cons pe_int (pa_cons pe_int pa_nil)))))), ?_⟩
    refine x_start (σ' := [some (.ref a)]) rfl ?_
    try dsimp only [cxOf]
    repeat walk_at "rd"
    intro t nt
    rw [cut63, ← List.map_take]
    repeat walk_at "rd"
    intro c nc
    repeat walk_at "rd"
    rename_i p np
    have ntc : t ≠ c := ne_of_none upd_same nc
    have ncp : c ≠ p := ne_of_none upd_same np
    have nc0 : H c = none := by rwa [upd_ne ntc.symm] at nc
    have np0 : H p = none := by
      have e1 := np
      rw [upd_ne ncp.symm] at e1
      exact ((Kx.refl [] H).new nt).fresh (by simp) e1
    refine k p c _ np0 nc0 ((((Kx.refl [] H).new nt).new nc).new np) ⟨ns.take 63, 0, 0, upd_same, ?_, ?_, by omega, by omega, by omega⟩
    · rw [upd_ne ncp, upd_same]
    · rw [List.length_take]
      exact Nat.min_le_left _ _
theorem x_draw {H : Hp} {p c : Addr} {n : Nat} {m : Int} {Q : VK} {E : XK} (h : PenAt H p c n) (hn : n < 1000000) (h0 : 0 < m) (h1 : m < 1073741824)
    (q : ∀ d H', 0 ≤ d → d < m → Kx [p] H H' → PenAt H' p c (n + 1) → Q (.int d) H') : spDraw ([V.ref p, V.int m] ++ []) H Q E := ⟨p, c, n, m, rfl, h, hn, h0, h1, q⟩
theorem PenAt.up {H H' : Hp} {p c : Addr} {n m : Nat} (h : PenAt H p c n) (e1 : H' p = H p) (e2 : H' c = H c) (l : n ≤ m) : PenAt H' p c m := by
  obtain ⟨cs, pl, r, h1, h2, h3, h4, h5, h6⟩ := h
  exact ⟨cs, pl, r, e1.trans h1, e2.trans h2, h3, h4, by omega, h6⟩
theorem PenAt.keep {H H' : Hp} {S : List Addr} {p c : Addr} {n m : Nat} (h : PenAt H p c n) (k : Kx S H H') (hp : p ∉ S) (hc : c ∉ S) (l : n ≤ m) : PenAt H' p c m := by
  obtain ⟨cs, pl, r, h1, h2, h3, h4, h5, h6⟩ := h
  exact ⟨cs, pl, r, k _ _ hp h1, k _ _ hc h2, h3, h4, by omega, h6⟩
theorem PenAt.some {H : Hp} {p c : Addr} {n : Nat} (h : PenAt H p c n) : (∃ o, H p = some o) ∧ ∃ o, H c = some o := by
  obtain ⟨cs, pl, r, h1, h2, _⟩ := h
  exact ⟨⟨_, h1⟩, _, h2⟩
theorem penLst {H : Hp} {p c : Addr} {n : Nat} (h : PenAt H p c n) : ∃ xs, H p = some (.lst xs) := by
  obtain ⟨cs, pl, r, h1, h2, _⟩ := h
  exact ⟨_, h1⟩
/-- what is new, or a list that is new since H, may be written -/
theorem PenAt.upd {H : Hp} {p c q : Addr} {o : HO} {n m : Nat} (h : PenAt H p c n) (h1 : q ≠ p) (h2 : q ≠ c) (l : n ≤ m) : PenAt (upd H q o) p c m := h.up (upd_ne h1.symm) (upd_ne h2.symm) l
def spOrder : Sp := fun vs H Q _ => ∃ (p c : Addr) (n N : Nat), vs = [.ref p, .int N] ∧ PenAt H p c n ∧ N ≤ 1000 ∧ n ≤ 900000 ∧
  ∀ l ns H', H l = none → ns.Perm (List.range N) → Kx [p] H H' → H' l = some (.lst (natV ns)) → PenAt H' p c (n + N) → Q (.ref l) H'
theorem ok_order {f : Addr} {fd : FuncData} (F : Fun K "_law_order" "_law_order" sQOrder f fd) (T : Txt mg) (l_law_draw : Lo P w K mg base "_law_draw" 1 ["_law_pen_here", "_law_bound"] spDraw) :
    FnOk P w K mg base CX0 2 f fd ["_law_pen_here", "_law_size_here"] spOrder := by
  refine F.ok scQOrder (fun vs H Q E h => ?_) (fun cdv A outer s H vs Q E hr h => ?_)
  · obtain ⟨p, c, n, N, rfl, _⟩ := h
    rfl
  · obtain ⟨p, c, n, N, rfl, hpen, hN, hn, k⟩ := h
    refine ⟨_, (pss_cons (ps_set (i := 2) scQOrder.nd rfl (Or.inr rfl) (pe_listRg rfl (by rfl) T.b_list (prg_1 (by rfl) T.b_range (pv 1))))
      (pss_one (ps_ret (pe_lc (own := [("_law_k", 3)]) rfl scQOrder.nd (pi_range1 (by rfl) T.b_range (pa_cons (pv 1) pa_nil)) (blkOk_by (N := ["_law_pen_here", "_law_size_here", "_law_left", "_law_k"]) (sc := defScope sQOrder) (by decide +kernel)) (fun _ _ _ _ _ => (pg_name (i := 3) scQOrder.nd rfl (Or.inl rfl))) (fun _ _ _ _ _ => pts_nil) (fun _ _ _ _ _ => (pe_bmK (K := K) PySem.F.plainAttrs_list PySem.F.slot_list_pop PySem.F.type_list_pop mt_popAt (pv 2) (pa_cons (pe_lo l_law_draw (hr.mono (by decide)) (by rfl) (pa_cons (pv 0) (pa_cons (pe_callB (call_lenK (K := K)) (by rfl) T.b_len boot'_len (pa_cons (pv 2) pa_nil)) pa_nil))) pa_nil))))))), ?_⟩
    refine x_start (σ' := [some (.ref p), some (.int N), none, none]) rfl ?_
    try dsimp only [cxOf]
    repeat walk_at "rd"
    refine ⟨RgOk.of_le (by omega) (by omega) (by omega) (by omega), fun q nq => ?_⟩
    rw [rg_nat]
    obtain ⟨⟨op, hp⟩, oc, hc⟩ := hpen.some
    have nqp : q ≠ p := (ne_of_none hp nq).symm
    have nqc : q ≠ c := (ne_of_none hc nq).symm
    have k0 : Kx [p] H (upd H q (.lst (natV (List.range N)))) := (Kx.refl _ _).new nq
    have P0 := hpen.keep ((Kx.refl [] H).new (o := .lst (natV (List.range N))) nq) (by simp) (by simp) (Nat.le_refl _)
    have e0 : upd H q (.lst (natV (List.range N))) q = some (.lst (natV (List.range N))) := upd_same
    generalize upd H q (.lst (natV (List.range N))) = H0 at *
    repeat walk_at "rd"
    refine y_lcR1 (by omega) (by omega) (fun D nD => ⟨fun i H1 => ∃ as ls : List Nat, Kx [p] H H1 ∧ PenAt H1 p c (n + i) ∧ H1 D = some (.lst (natV as)) ∧ H1 q = some (.lst (natV ls)) ∧ as.length = i ∧ (as ++ ls).Perm (List.range N),
      ⟨[], _, k0.new nD, P0.keep ((Kx.refl [] H0).new nD) (by simp) (by simp) (by omega), upd_same, lk_ne e0 nD, rfl, .refl _⟩, fun _ _ _ _ => trivial, ?_, ?_⟩)
    · rintro i x H1 H1' hi ⟨as, ls, k1, P1, eD, eq, hlen, hperm⟩ ⟨rfl, rfl⟩
      have hl := hperm.length_eq
      rw [List.length_append, List.length_range] at hl
      have hi2 : i < N := by omega
      have nDp : D ≠ p := by
        obtain ⟨⟨o, ho⟩, _⟩ := P0.some
        exact (ne_of_none ho nD).symm
      have nDq : D ≠ q := (ne_of_none e0 nD).symm
      have nDc : D ≠ c := by
        obtain ⟨_, o, ho⟩ := P0.some
        exact (ne_of_none ho nD).symm
      repeat walk_at "rd"
      refine ⟨rfl, ?_⟩
      repeat walk_at "rd"
      refine ⟨ty_list (SqL.of eq), ?_⟩
      repeat walk_at "rd"
      rw [natV_len]
      refine x_draw P1 (by omega) (by omega) (by omega) fun d H2 d0 d1 k2 P2 => ?_
      have hd : d.toNat < ls.length := by omega
      have hz := List.getElem?_eq_getElem hd
      have eq2 : H2 q = some (.lst (natV ls)) := k2 q _ (by simpa using nqp) eq
      have eD2 : H2 D = some (.lst (natV as)) := k2 D _ (by simpa using nDp) eD
      repeat walk_at "rd"
      refine x_popAt (i := d.toNat) eq2 (by omega) (by omega) (natV_get hz) ?_
      refine ⟨natV as, lk_ne2 nDq eD2, small1000 (by rw [natV_len]; omega), as ++ [ls[d.toNat]], ls.eraseIdx d.toNat, ?_, ?_, ?_, ?_, ?_, ?_⟩
      · have nq0 : H q = none := nq
        have nD0 : H D = none := k0.fresh (by simpa using nDp) nD
        exact ((k1.trans k2).wr (.inl nq0)).wr (.inl nD0)
      · exact (P2.upd nqp nqc (Nat.le_refl _)).upd nDp nDc (by omega)
      · rw [upd_same]
        unfold natV
        rw [List.map_append]
        rfl
      · rw [upd_ne nDq.symm, upd_same, erase_nat]
      · rw [List.length_append, hlen]
        rfl
      · exact (erase_perm hz as).trans hperm
    rintro H1 ⟨as, ls, k1, P1, eD, eq, hlen, hperm⟩
    have nDp : D ≠ p := by
      obtain ⟨⟨o, ho⟩, _⟩ := P0.some
      exact (ne_of_none ho nD).symm
    have nD0 : H D = none := k0.fresh (by simpa using nDp) nD
    have hl := hperm.length_eq
    rw [List.length_append, List.length_range] at hl
    have hN2 : (N : Int).toNat = N := Int.toNat_natCast N
    rw [hN2] at hlen P1
    have hls : ls = [] := List.eq_nil_of_length_eq_zero (by omega)
    subst hls
    rw [List.append_nil] at hperm
    exact k D as H1 nD0 hperm k1 eD P1
def spSize : Sp := fun vs H Q _ => ∃ (p c : Addr) (n M : Nat), vs = [.ref p, .int M] ∧ PenAt H p c n ∧ 1 ≤ M ∧ M ≤ 1000 ∧ n ≤ 900000 ∧
  ∀ (z : Nat) H', 1 ≤ z → z ≤ M → Kx [p] H H' → PenAt H' p c (n + 4) → Q (.int z) H'
theorem ok_size {f : Addr} {fd : FuncData} (F : Fun K "_law_size" "_law_size" sQSize f fd) (T : Txt mg) (l_law_draw : Lo P w K mg base "_law_draw" 1 ["_law_pen_here", "_law_bound"] spDraw) :
    FnOk P w K mg base CX0 2 f fd ["_law_pen_here", "_law_most"] spSize := by
  refine F.ok scQSize (fun vs H Q E h => ?_) (fun cdv A outer s H vs Q E hr h => ?_)
  · obtain ⟨p, c, n, N, rfl, _⟩ := h
    rfl
  · obtain ⟨p, c, n, M, rfl, hpen, hM0, hM, hn, k⟩ := h
    refine ⟨_, (pss_cons (ps_set (i := 2) scQSize.nd rfl (Or.inl rfl) (pe_lo l_law_draw (hr.mono (by decide)) (by rfl) (pa_cons (pv 0) (pa_cons pe_int pa_nil))))
      (pss_one (ps_ret (pe_callB (call_min2 rfl) (by rfl) T.b_min boot'_min (pa_cons (pv 1) (pa_cons (pe_ix ix_list (pe_lst (pa_cons (pe_op op_add pe_int (pe_lo l_law_draw (hr.mono (by decide)) (by rfl) (pa_cons (pv 0) (pa_cons pe_int pa_nil)))) (pa_cons (pe_op op_add pe_int (pe_lo l_law_draw (hr.mono (by decide)) (by rfl) (pa_cons (pv 0) (pa_cons pe_int pa_nil)))) (pa_cons (pe_op op_add pe_int (pe_lo l_law_draw (hr.mono (by decide)) (by rfl) (pa_cons (pv 0) (pa_cons (pv 1) pa_nil)))) (pa_cons (pv 1) pa_nil))))) (pv 2) (fun _ _ => rfl)) pa_nil)))))), ?_⟩
    refine x_start (σ' := [some (.ref p), some (.int M), none]) rfl ?_
    try dsimp only [cxOf]
    repeat walk_at "rd"
    refine x_draw hpen (by omega) (by omega) (by omega) fun a0 H0 a0l a0h k0 P0 => ?_
    repeat walk_at "rd"
    refine x_draw P0 (by omega) (by omega) (by omega) fun a1 H1 a1l a1h k1 P1 => ?_
    replace k1 := k0.trans k1
    repeat walk_at "rd"
    refine x_draw P1 (by omega) (by omega) (by omega) fun a2 H2 a2l a2h k2 P2 => ?_
    replace k2 := k1.trans k2
    repeat walk_at "rd"
    refine x_draw P2 (by omega) (by omega) (by omega) fun a3 H3 a3l a3h k3 P3 => ?_
    replace k3 := k2.trans k3
    obtain ⟨z, hz, _, hat⟩ := at_i (zs := [2 + a1, 3 + a2, 1 + a3, (M : Int)]) a0l (by simpa using a0h)
    simp only [List.map_cons, List.map_nil] at hat
    simp only [List.mem_cons, List.not_mem_nil, or_false] at hz
    repeat walk_at "rd"
    rename_i q nq
    have hk : ∀ (x : Int), 1 ≤ x → x ≤ M → Q (.int x) (upd H3 q (.lst [V.int (2 + a1), V.int (3 + a2), V.int (1 + a3), V.int M])) := by
      intro x h1 h2
      have e : x = ((x.toNat : Nat) : Int) := by omega
      rw [e]
      exact k x.toNat _ (by omega) (by omega) (k3.new nq) (P3.keep ((Kx.refl [] H3).new nq) (by simp) (by simp) (by omega))
    refine hk _ ?_ ?_
    · split <;> omega
    · split <;> omega
end


section
variable {P : Program} {w : World} {K : PySem.W.Frag} {mg : Str → Option Value} {base : Heap}

def spTree (K : PySem.W.Frag) : Sp := fun vs H Q _ => ∃ (p c : Addr) (n M : Nat), vs = [.ref p, .int M] ∧ PenAt H p c n ∧ 1 ≤ M ∧ M ≤ 40 ∧ n ≤ 800000 ∧
  ∀ D H' T dep, H D = none → Kx [p] H H' → TreeAt K H' D T → TW T dep → 1 ≤ T.length → (∃ v : Nat, T[v]? = some (some none)) → PenAt H' p c (n + 300) → Q (.ref D) H'
theorem ok_tree {f : Addr} {fd : FuncData} (F : Fun K "_law_tree" "_law_tree" sQTree f fd) (T : Txt mg) (l_law_draw : Lo P w K mg base "_law_draw" 1 ["_law_pen_here", "_law_bound"] spDraw)
    (l_law_order : Lo P w K mg base "_law_order" 2 ["_law_pen_here", "_law_size_here"] spOrder) (l_law_size : Lo P w K mg base "_law_size" 2 ["_law_pen_here", "_law_most"] spSize) :
    FnOk P w K mg base CX0 3 f fd ["_law_pen_here", "_law_most"] (spTree K) := by
  refine F.ok scQTree (fun vs H Q E h => ?_) (fun cdv A outer s H vs Q E hr h => ?_)
  · obtain ⟨p, c, n, N, rfl, _⟩ := h
    rfl
  · obtain ⟨p, c, n, M, rfl, hpen, hM0, hM, hn, k⟩ := h
    refine ⟨_, (pss_cons (ps_set (i := 2) scQTree.nd rfl (Or.inl rfl) (pe_lo l_law_size (hr.mono (by decide)) (by rfl) (pa_cons (pv 0) (pa_cons (pv 1) pa_nil))))
      (pss_cons (ps_set (i := 3) scQTree.nd rfl (Or.inl rfl) (pe_callB (call_min2 rfl) (by rfl) T.b_min boot'_min (pa_cons (pe_op op_sub pe_int (pv 2)) (pa_cons (pe_ix ix_list (pe_lst (pa_cons pe_int (pa_cons pe_int (pa_cons (pe_lo l_law_draw (hr.mono (by decide)) (by rfl) (pa_cons (pv 0) (pa_cons pe_int pa_nil))) pa_nil)))) (pe_lo l_law_draw (hr.mono (by decide)) (by rfl) (pa_cons (pv 0) (pa_cons pe_int pa_nil))) (fun _ _ => rfl)) pa_nil))))
      (pss_cons (ps_set (i := 4) scQTree.nd rfl (Or.inl rfl) (pe_lo l_law_order (hr.mono (by decide)) (by rfl) (pa_cons (pv 0) (pa_cons (pe_op op_add (pv 2) (pv 3)) pa_nil))))
      (pss_cons (ps_set (i := 5) scQTree.nd rfl (Or.inl rfl) (pe_lo l_law_draw (hr.mono (by decide)) (by rfl) (pa_cons (pv 0) (pa_cons pe_int pa_nil))))
      (pss_cons (ps_setLc (i := 7) (own := [("_law_k", 6)]) rfl scQTree.nd rfl rfl (sw_true rfl rfl rfl (by decide +kernel)) (pi_range1 (by rfl) T.b_range (pa_cons (pv 2) pa_nil)) (blkOk_by (N := ["_law_pen_here", "_law_most", "_law_size_here", "_law_spare", "_law_names", "_law_deep", "_law_k", "_law_unused", "_law_found", "_law_parent", "_law_left", "_law_slot"]) (sc := defScope sQTree) (by decide +kernel)) (fun _ _ _ _ _ => (pg_name (i := 6) scQTree.nd rfl (Or.inl rfl))) (fun _ _ _ _ _ => pts_nil) (fun _ _ _ _ _ => (pe_listRg rfl (by rfl) T.b_list (prg_1 (by rfl) T.b_range pe_int))))
      (pss_cons (ps_set (i := 8) scQTree.nd rfl (Or.inl rfl) (pe_op op_rep (pe_lst (pa_cons pe_non pa_nil)) (pe_op op_add (pv 2) (pv 3))))
      (pss_cons (ps_asg (pe_tup pa_nil) (pg_sub (pv 8) (pe_ix ix_list (pv 4) pe_int (fun _ _ => rfl)) set_list))
      (pss_cons (ps_for PassesOwn.never rfl (pi_range2 (by rfl) T.b_range (pa_cons pe_int (pa_cons (pv 2) pa_nil))) (pg_name (i := 6) scQTree.nd rfl (Or.inl rfl))
      (pss_cons (ps_set (i := 9) scQTree.nd rfl (Or.inl rfl) (pe_ix ix_list (pe_lst (pa_cons (pe_lo l_law_draw (hr.mono (by decide)) (by rfl) (pa_cons (pv 0) (pa_cons (pv 6) pa_nil))) (pa_cons (pe_op op_sub (pv 6) pe_int) (pa_cons (pe_callB (call_max2 rfl) (by rfl) T.b_max boot'_max (pa_cons pe_int (pa_cons (pe_op op_sub (pe_op op_sub (pv 6) pe_int) (pe_lo l_law_draw (hr.mono (by decide)) (by rfl) (pa_cons (pv 0) (pa_cons pe_int pa_nil)))) pa_nil))) (pa_cons pe_int pa_nil))))) (pv 5) (fun _ _ => rfl)))
      (pss_cons (ps_set (i := 10) scQTree.nd rfl (Or.inl rfl) (pe_ix ix_list (pv 7) (pv 9) (fun _ _ => rfl)))
      (pss_cons (ps_set (i := 11) scQTree.nd rfl (Or.inl rfl) (pe_bm PySem.F.plainAttrs_list PySem.F.slot_list_pop PySem.F.type_list_pop mt_popAt (pv 10) (pa_cons (pe_ix ix_list (pe_lst (pa_cons pe_int (pa_cons (pe_lo l_law_draw (hr.mono (by decide)) (by rfl) (pa_cons (pv 0) (pa_cons (pe_callB call_len_seq (by rfl) T.b_len boot'_len (pa_cons (pv 10) pa_nil)) pa_nil))) pa_nil))) (pe_callTy call_int1 (by rfl) T.b_int boot'_int (pa_cons (pe_cmpR op_ne (pv 5) pe_int (nomark _)) pa_nil)) (fun _ _ => rfl)) pa_nil)))
      (pss_one (ps_asg (pe_tup (pa_cons (pe_ix ix_list (pv 4) (pv 9) (fun _ _ => rfl)) (pa_cons (pv 11) pa_nil))) (pg_sub (pv 8) (pe_ix ix_list (pv 4) (pv 6) (fun _ _ => rfl)) set_list)))))))
      (pss_one (ps_ret (pe_callTy call_tuple_of (by rfl) T.b_tuple boot'_tuple (pa_cons (pv 8) pa_nil)))))))))))), ?_⟩
    refine x_start (σ' := [some (.ref p), some (.int M), none, none, none, none, none, none, none, none, none, none]) rfl ?_
    try dsimp only [cxOf]
    have npfree : ∀ {H1 : Hp} {q m}, PenAt H1 p c m → H1 q = none → q ≠ p ∧ q ≠ c := fun hp1 hq => by
      obtain ⟨⟨o, ho⟩, o2, ho2⟩ := hp1.some
      exact ⟨fun e => (by rw [e, ho] at hq; cases hq), fun e => (by rw [e, ho2] at hq; cases hq)⟩
    repeat walk_at "rd"
    refine ⟨p, c, n, M, rfl, hpen, hM0, by omega, by omega, fun z H1 z0 zM k1 P1 => ?_⟩
    repeat walk_at "rd"
    refine x_draw P1 (by omega) (by omega) (by omega) fun a1 H2 a1l a1h k2 P2 => ?_
    replace k2 := k1.trans k2
    clear k1 P1
    repeat walk_at "rd"
    rename_i q nq
    obtain ⟨nqp, nqc⟩ := npfree P2 nq
    refine x_draw (P2.keep ((Kx.refl [] H2).new nq) (by simp) (by simp) (Nat.le_refl _)) (by omega) (by omega) (by omega) fun a2 H3 a2l a2h k3 P3 => ?_
    have hq3 : H3 q = some (.lst [V.int 0, V.int 1, V.int a1]) := k3 q _ (by simpa using nqp) upd_same
    have K3 := (k2.new nq).trans k3
    clear k3 P2 k2
    obtain ⟨sp, hat2, sp1⟩ : ∃ sp : Nat, atI [V.int 0, V.int 1, V.int a1] a2 = some (.int sp) ∧ sp ≤ 3 := by
      obtain ⟨z, hz, _, hz2⟩ := at_i (zs := [0, 1, a1]) a2l (by simpa using a2h)
      simp only [List.mem_cons, List.not_mem_nil, or_false] at hz
      refine ⟨z.toNat, ?_, by omega⟩
      rw [show ((z.toNat : Nat) : Int) = z by omega]
      exact hz2
    repeat walk_at "rd"
    obtain ⟨sq, hsq, hsq40⟩ : ∃ sq : Nat, (if (sp : Int) < 40 - (z : Int) then (sp : Int) else 40 - (z : Int)) = (sq : Int) ∧ z + sq ≤ 40 := by
      refine ⟨(if (sp : Int) < 40 - (z : Int) then (sp : Int) else 40 - (z : Int)).toNat, ?_, ?_⟩ <;> split <;> omega
    rw [hsq]
    repeat walk_at "rd"
    refine ⟨p, c, n + 6, z + sq, by rw [← Int.natCast_add]; rfl, P3, by omega, by omega, fun L ns H4 nL hperm k4 hL P4 => ?_⟩
    have K4 := K3.trans k4
    obtain ⟨nLp, nLc⟩ := npfree P3 nL
    clear k4 K3 P3 hq3 hat2
    have hnl : ns.length = z + sq := by rw [hperm.length_eq, List.length_range]
    repeat walk_at "rd"
    refine x_draw P4 (by omega) (by omega) (by omega) fun dp H5 dp0 dp1 k5 P5 => ?_
    have K5 := K4.trans k5
    have hL5 : H5 L = some (.lst (natV ns)) := k5 L _ (by simpa using nLp) hL
    clear k5 P4 K4 hL
    repeat walk_at "rd"
    have z40 : z ≤ 40 := by omega
    refine y_lcR1 (by omega) (by omega) (fun U nU => ⟨fun i H6 => ∃ rs : List Addr, rs.length = i ∧ RowsN (upd H5 U (.lst [])) H6 rs (List.replicate i (List.range 40)) ∧ H6 U = some (.lst (rs.map V.ref)) ∧ Kx [U] (upd H5 U (.lst [])) H6,
      ⟨[], rfl, ⟨rfl, List.nodup_nil, by simp, fun i r l h => by simp at h⟩, upd_same, Kx.refl _ _⟩, fun _ _ _ _ => trivial, ?_, ?_⟩)
    · rintro i x H6 H6' hi ⟨rs, hlen, hR, hU, kU⟩ ⟨rfl, rfl⟩
      rw [Int.toNat_natCast] at hi
      repeat walk_at "rd"
      refine ⟨rfl, ?_⟩
      repeat walk_at "rd"
      refine ⟨RgOk.of_le (by omega) (by omega) (by omega) (by omega), fun r nr => ?_⟩
      have nrU : r ≠ U := fun e => by rw [e, hU] at nr; cases nr
      have nrs : r ∉ rs := fun e => by
        obtain ⟨xs, hx⟩ := hR.some e
        rw [nr] at hx
        cases hx
      refine ⟨rs.map V.ref, lk_ne2 nrU.symm hU, small1000 (by rw [List.length_map]; omega), rs ++ [r], by rw [List.length_append, hlen]; rfl, ?_, ?_, ?_⟩
      · have nUrs : U ∉ rs := fun e => by
          have h1 := hR.fr U e
          rw [upd_same] at h1
          cases h1
        have h1 := (hR.upd nrs (o := .lst (rgV 0 40))).upd nUrs (o := .lst (rs.map V.ref ++ [V.ref r]))
        refine ⟨by rw [List.length_append, List.length_replicate, hlen]; rfl, ?_, ?_, ?_⟩
        · rw [List.nodup_append]
          refine ⟨hR.nd, by simp, fun a ha b hb => ?_⟩
          rw [List.mem_singleton.mp hb]
          rintro rfl
          exact nrs ha
        · intro b hb
          rcases List.mem_append.mp hb with hb | hb
          · exact hR.fr b hb
          · rw [List.mem_singleton.mp hb]
            exact kU.fresh (by simpa using nrU) nr
        · intro a b l h2 h3
          have e3 := List.eq_of_mem_replicate (List.mem_of_getElem? h3)
          by_cases ha : a < rs.length
          · rw [List.getElem?_append_left ha] at h2
            exact h1.at_ a b l h2 (by rw [e3, List.getElem?_replicate, if_pos (by omega)])
          · rw [List.getElem?_append_right (by omega)] at h2
            have h4 := List.mem_singleton.mp (List.mem_of_getElem? h2)
            subst h4
            rw [upd_ne nrU, upd_same, e3, ← rg_nat]
            rfl
      · rw [upd_same, List.map_append]
        rfl
      · exact (kU.new nr).wr (.inr (by simp))
    rintro H6 ⟨rs, hlen, hR0, hU, kU⟩
    rw [Int.toNat_natCast] at hlen hR0
    obtain ⟨nUp, nUc⟩ := npfree P5 nU
    have nUL : U ≠ L := (ne_of_none hL5 nU).symm
    have hkk : ∀ b o, b ≠ U → H5 b = some o → H6 b = some o := fun b o hb e => kU b o (by simpa using hb) (lk_ne e nU)
    have K6 : Kx [p] H H6 := Kx.cmb (K5.new nU) kU (K5.fresh (by simpa using nUp) nU)
    have P6 : PenAt H6 p c (n + 6 + (z + sq) + 1) := by
      obtain ⟨cs, pl, r, h1, h2, h3⟩ := P5
      exact ⟨cs, pl, r, hkk p _ nUp.symm h1, hkk c _ nUc.symm h2, h3⟩
    have hL6 : H6 L = some (.lst (natV ns)) := hkk L _ nUL.symm hL5
    have hrs : ∀ r ∈ rs, r ≠ U ∧ r ≠ L ∧ r ≠ p ∧ r ≠ c := by
      intro r hr
      have h1 := hR0.fr r hr
      have hne : r ≠ U := fun e => by rw [e, upd_same] at h1; cases h1
      rw [upd_ne hne] at h1
      obtain ⟨h3, h4⟩ := npfree P5 h1
      exact ⟨hne, fun e => (by rw [e, hL5] at h1; cases h1), h3, h4⟩
    have hrs0 : ∀ r ∈ rs, H r = none := by
      intro r hr
      have h1 := hR0.fr r hr
      obtain ⟨g1, _, g2, _⟩ := hrs r hr
      rw [upd_ne g1] at h1
      exact K5.fresh (by simpa using g2) h1
    clear hkk P5 K5 kU hL5
    repeat walk_at "rd"
    rename_i F1 nF1
    refine x_rep (xs := [V.non]) upd_same (by omega) (by omega) (Nat.le_of_lt (small1000 (by simp; omega))) fun F nF => ?_
    have hF0 : (List.replicate ((z : Int) + (sq : Int)).toNat [V.non]).flatten = List.replicate (z + sq) V.non := by
      rw [show ((z : Int) + (sq : Int)).toNat = z + sq by omega, List.flatten_replicate_singleton]
    rw [hF0]
    have nF1H : H6 F1 = none := nF1
    have nFF1 : F1 ≠ F := fun e => by rw [← e, upd_same] at nF; cases nF
    have nF6 : H6 F = none := by rwa [upd_ne nFF1.symm] at nF
    obtain ⟨nFp, nFc⟩ := npfree P6 nF6
    have nF0 : H F = none := K6.fresh (by simpa using nFp) nF6
    have nFL : F ≠ L := fun e => by rw [e, hL6] at nF6; cases nF6
    have nFU : F ≠ U := fun e => by rw [e, hU] at nF6; cases nF6
    have nFrs : F ∉ rs := fun e => by
      obtain ⟨xs, hx⟩ := hR0.some e
      rw [nF6] at hx
      cases hx
    have nF1rs : F1 ∉ rs := fun e => by
      obtain ⟨xs, hx⟩ := hR0.some e
      rw [nF1H] at hx
      cases hx
    obtain ⟨n0, hn0⟩ : ∃ n0, ns[0]? = some n0 := ⟨_, List.getElem?_eq_getElem (by omega)⟩
    have hn0N : n0 < z + sq := List.mem_range.mp (hperm.mem_iff.mp (List.mem_of_getElem? hn0))
    have hat0 : atI (natV ns) 0 = some (.int (n0 : Int)) := natV_at hn0
    have hix0 : ixN (List.replicate (z + sq) V.non).length (n0 : Int) = some n0 := ix_n (by rw [List.length_replicate]; exact hn0N)
    have PT0 := PTr.start (m := z) hperm hn0
    have hF7 : upd (upd H6 F1 (.lst [V.non])) F (.lst (List.replicate (z + sq) V.non)) F = some (.lst (List.replicate (z + sq) V.non)) := upd_same
    have k7 : Kx [] H6 (upd (upd H6 F1 (.lst [V.non])) F (.lst (List.replicate (z + sq) V.non))) := ((Kx.refl [] H6).new nF1).new nF
    have R7 := hR0.keep k7 (by simp)
    generalize (upd (upd H6 F1 (.lst [V.non])) F (.lst (List.replicate (z + sq) V.non))) = H7 at *
    have hL7 := k7 L _ (by simp) hL6
    have hU7 := k7 U _ (by simp) hU
    have K7 := K6.trans (k7.mono (by simp))
    have P7 := P6.keep k7 (by simp) (by simp) (Nat.le_refl _)
    clear k7 K6 P6 hR0 hL6 hU nF1 nF
    repeat walk_at "rd"
    rename_i t0 nt0
    have nt0F : t0 ≠ F := fun e => by rw [e, hF7] at nt0; cases nt0
    have TV0 : TreeV K (upd (upd H7 t0 (.tup [])) F (.lst ((List.replicate (z + sq) V.non).set n0 (.ref t0)))) ((List.replicate (z + sq) V.non).set n0 (.ref t0)) ((List.replicate (z + sq) (none : Ent)).set n0 (some none)) := by
      refine TreeV.set ⟨by simp, fun i e he => ?_⟩ (.root (SqT.of (lk_ne2 nt0F upd_same)))
      have := List.eq_of_mem_replicate (List.mem_of_getElem? he)
      subst this
      have hi := (List.getElem?_eq_some_iff.mp he).1
      rw [List.length_replicate] at hi
      exact ⟨.non, by rw [List.getElem?_replicate, if_pos hi], .non⟩
    have k8 : Kx [F] H7 (upd (upd H7 t0 (.tup [])) F (.lst ((List.replicate (z + sq) V.non).set n0 (.ref t0)))) := ((Kx.refl [F] H7).new nt0).wr (.inr (by simp))
    have hF8 : upd (upd H7 t0 (.tup [])) F (.lst ((List.replicate (z + sq) V.non).set n0 (.ref t0))) F = some (.lst ((List.replicate (z + sq) V.non).set n0 (.ref t0))) := upd_same
    have hlen8 : ((List.replicate (z + sq) V.non).set n0 (.ref t0)).length = z + sq := by rw [List.length_set, List.length_replicate]
    generalize (upd (upd H7 t0 (.tup [])) F (.lst ((List.replicate (z + sq) V.non).set n0 (.ref t0)))) = H8 at *
    generalize ((List.replicate (z + sq) V.non).set n0 (.ref t0)) = vs8 at *
    have R8 := R7.keep k8 (by simpa using fun r hr (e : r = F) => nFrs (e ▸ hr))
    have hL8 := k8 L _ (by simpa using nFL.symm) hL7
    have hU8 := k8 U _ (by simpa using nFU.symm) hU7
    have K8 := Kx.cmb K7 k8 nF0
    have P8 := P7.keep k8 (by simpa using nFp.symm) (by simpa using nFc.symm) (Nat.le_refl _)
    clear k8 K7 P7 R7 hL7 hU7 hF7 hix0 nt0
    refine y_forR2 (by omega) (by omega) (by omega) (by omega) ⟨fun i σ H9 => ∃ (y6 y9 y10 y11 : Option V) (vs9 : List V) (T9 : List Ent) (dep : Nat → Nat) (ls : List (List Nat)),
      σ = [some (.ref p), some (.int M), some (.int z), some (.int sq), some (.ref L), some (.int dp), y6, some (.ref U), some (.ref F), y9, y10, y11] ∧
      H9 F = some (.lst vs9) ∧ TreeV K H9 vs9 T9 ∧ PTr T9 dep ns (1 + i) (z + sq) ls ∧ RowsN (upd H5 U (.lst [])) H9 rs ls ∧ Kx [p] H H9 ∧ PenAt H9 p c (n + 60 + 3 * i) ∧ H9 L = some (.lst (natV ns)) ∧ H9 U = some (.lst (rs.map V.ref)),
      ⟨none, none, none, none, vs8, _, _, _, rfl, hF8, TV0, PT0, R8, K8, P8.up rfl rfl (by omega), hL8, hU8⟩, fun _ _ _ _ _ => trivial, ?_, ?_⟩
    · rintro i x σ H9 H9' hi ⟨y6, y9, y10, y11, vs9, T9, dep, ls, rfl, hF9, TV9, PT9, R9, K9, P9, hL9, hU9⟩ ⟨rfl, rfl⟩
      have hi2 : 1 + i < z := by omega
      repeat walk_at "rd"
      refine x_draw P9 (by omega) (by omega) (by omega) fun d1 Ha d10 d11 ka Pa => ?_
      repeat walk_at "rd"
      refine x_draw Pa (by omega) (by omega) (by omega) fun d2 Hb d20 d21 kb Pb => ?_
      replace kb := ka.trans kb
      clear ka Pa
      obtain ⟨j, hatj, hj⟩ : ∃ j : Nat, atI [V.int d1, V.int (1 + (i : Int) - 1), V.int (if 1 + (i : Int) - 1 - d2 > 0 then 1 + (i : Int) - 1 - d2 else 0), V.int 0] dp = some (.int j) ∧ j < 1 + i := by
        obtain ⟨y, hy, _, hy2⟩ := at_i (zs := [d1, 1 + (i : Int) - 1, if 1 + (i : Int) - 1 - d2 > 0 then 1 + (i : Int) - 1 - d2 else 0, 0]) dp0 (by simpa using dp1)
        simp only [List.mem_cons, List.not_mem_nil, or_false] at hy
        have hyy : 0 ≤ y ∧ y < 1 + (i : Int) := by
          rcases hy with h | h | h | h
          · omega
          · omega
          · split at h <;> omega
          · omega
        refine ⟨y.toNat, ?_, by omega⟩
        rw [show ((y.toNat : Nat) : Int) = y by omega]
        exact hy2
      have hnp : ∀ r ∈ rs, r ≠ p := fun r hr => (hrs r hr).2.2.1
      have Rb := R9.keep kb (by simpa using hnp)
      have hLb : Hb L = some (.lst (natV ns)) := kb L _ (by simpa using nLp) hL9
      have hUb : Hb U = some (.lst (rs.map V.ref)) := kb U _ (by simpa using nUp) hU9
      have hFb : Hb F = some (.lst vs9) := kb F _ (by simpa using nFp) hF9
      have TVb := TV9.keep (Kt.of1 kb (penLst P9).choose_spec)
      have Kb := K9.trans kb
      clear kb R9 hL9 hU9 hF9 TV9 K9 P9
      have hjr : j < rs.length := by omega
      obtain ⟨r, hr⟩ : ∃ r, rs[j]? = some r := ⟨_, List.getElem?_eq_getElem hjr⟩
      have hatr : atI (rs.map V.ref) (j : Int) = some (.ref r) := atI_nat (by rw [List.getElem?_map, hr]; rfl)
      have hrm := List.mem_of_getElem? hr
      obtain ⟨l, hl⟩ : ∃ l, ls[j]? = some l := ⟨_, List.getElem?_eq_getElem (by rw [← Rb.len]; exact hjr)⟩
      have hrl := Rb.at_ j r l hr hl
      obtain ⟨lnd, l40, llen⟩ := PT9.bnd j l hl
      have hl41 : l.length ≤ 40 := by
        have := lnd.length_le_of_subset (l₂ := List.range 40) fun y hy => List.mem_range.mpr (l40 y hy)
        rwa [List.length_range] at this
      repeat walk_at "rd"
      rename_i q1 nq1
      have hrp := hnp r hrm
      obtain ⟨_, hrL, _, hrc⟩ := hrs r hrm
      have hrU := (hrs r hrm).1
      have hrF : r ≠ F := fun e => nFrs (e ▸ hrm)
      refine ⟨ty_list (SqL.of (lk_ne hrl nq1)), ?_⟩
      have kc : Kx [] Hb (upd Hb q1 (.lst [V.int d1, V.int (1 + (i : Int) - 1), V.int (if 1 + (i : Int) - 1 - d2 > 0 then 1 + (i : Int) - 1 - d2 else 0), V.int 0])) := (Kx.refl [] Hb).new nq1
      generalize (upd Hb q1 (.lst [V.int d1, V.int (1 + (i : Int) - 1), V.int (if 1 + (i : Int) - 1 - d2 > 0 then 1 + (i : Int) - 1 - d2 else 0), V.int 0])) = Hc at *
      have hrlc := kc r _ (by simp) hrl
      have Pc := Pb.keep kc (by simp) (by simp) (Nat.le_refl _)
      repeat walk_at "rd"
      rw [natV_len]
      refine x_draw Pc (by omega) (by omega) (by omega) fun d3 Hd d30 d31 kd Pd => ?_
      have kbd := (kc.mono (by simp)).trans kd
      have Rd := Rb.keep kbd (by simpa using hnp)
      have hLd : Hd L = some (.lst (natV ns)) := kbd L _ (by simpa using nLp) hLb
      have hUd : Hd U = some (.lst (rs.map V.ref)) := kbd U _ (by simpa using nUp) hUb
      have hFd : Hd F = some (.lst vs9) := kbd F _ (by simpa using nFp) hFb
      have TVd := TVb.keep (Kt.of1 kbd (penLst Pb).choose_spec)
      have Kd := Kb.trans kbd
      have hrld := kbd r _ (by simpa using hrp) hrl
      clear kbd kd kc Rb hLb hUb hFb TVb Kb hrl hrlc Pb Pc hatj
      repeat walk_at "rd"
      rename_i q2 nq2
      obtain ⟨e, hate, he⟩ : ∃ e : Nat, atI [V.int 0, V.int d3] (if (!decide (V.int dp = V.int 2)) = true then 1 else 0) = some (.int e) ∧ e < l.length := by
        obtain ⟨y, hy, _, hy2⟩ := at_i (zs := [0, d3]) (w := if (!decide (V.int dp = V.int 2)) = true then 1 else 0) (by split <;> decide) (by split <;> simp)
        simp only [List.mem_cons, List.not_mem_nil, or_false] at hy
        refine ⟨y.toNat, ?_, by omega⟩
        rw [show ((y.toNat : Nat) : Int) = y by omega]
        exact hy2
      obtain ⟨sl, hsl⟩ : ∃ sl, l[e]? = some sl := ⟨_, List.getElem?_eq_getElem he⟩
      obtain ⟨m, hm⟩ : ∃ m, ns[j]? = some m := ⟨_, List.getElem?_eq_getElem (by omega)⟩
      obtain ⟨nk, hnk⟩ : ∃ nk, ns[1 + i]? = some nk := ⟨_, List.getElem?_eq_getElem (by omega)⟩
      have PTn := PT9.add (by omega) hnk hj hm hl hsl
      have hatm : atI (natV ns) (j : Int) = some (.int (m : Int)) := natV_at hm
      have hatk : atI (natV ns) (1 + (i : Int)) = some (.int (nk : Int)) := by
        rw [show 1 + (i : Int) = ((1 + i : Nat) : Int) by omega]
        exact natV_at hnk
      have hixk : ixN vs9.length (nk : Int) = some nk := ix_n (by rw [TVd.len, PT9.len]; exact PT9.lt hnk)
      repeat walk_at "rd"
      refine x_popAt (i := e) (y := .int (sl : Int)) (lk_ne hrld nq2) rfl (by omega) (natV_get hsl) ?_
      rw [erase_nat]
      have ke : Kx [r] Hd (upd (upd Hd q2 (.lst [V.int 0, V.int d3])) r (.lst (natV (l.eraseIdx e)))) := ((Kx.refl [r] Hd).new nq2).wr (.inr (by simp))
      have Re := (Rd.keep ((Kx.refl [] Hd).new (o := .lst [V.int 0, V.int d3]) nq2) (by simp)).set (l := l.eraseIdx e) hr
      generalize (upd (upd Hd q2 (.lst [V.int 0, V.int d3])) r (.lst (natV (l.eraseIdx e)))) = He at *
      have hLe : He L = some (.lst (natV ns)) := ke L _ (by simpa using hrL.symm) hLd
      have hUe : He U = some (.lst (rs.map V.ref)) := ke U _ (by simpa using hrU.symm) hUd
      have hFe : He F = some (.lst vs9) := ke F _ (by simpa using hrF.symm) hFd
      have TVe := TVd.keep (Kt.of1 ke hrld)
      have Ke := Kx.cmb Kd ke (hrs0 r hrm)
      have Pe := Pd.keep ke (by simpa using hrp.symm) (by simpa using hrc.symm) (Nat.le_refl _)
      clear ke Rd hLd hUd hFd TVd Kd hrld Pd hate
      repeat walk_at "rd"
      rename_i t nt
      have ntF : t ≠ F := fun e => by rw [e, hFe] at nt; cases nt
      refine ⟨_, _, _, _, vs9.set nk (.ref t), T9.set nk (some (some (m, sl))), fun v => if v = nk then dep m + 1 else dep v, _, rfl, upd_same, TreeV.set (TVe.keep (((Kt.refl He).new nt).wr (lk_ne hFe nt))) (.par (lk_ne2 ntF upd_same)), ?_, (Re.keep ((Kx.refl [] He).new nt) (by simp)).upd nFrs, (Ke.new nt).wr (.inl nF0), ?_, lk_ne2 nFL.symm (lk_ne hLe nt), lk_ne2 nFU.symm (lk_ne hUe nt)⟩
      · rw [show 1 + (i + 1) = 1 + i + 1 by omega]
        exact PTn
      · exact (Pe.keep ((Kx.refl [] He).new nt) (by simp) (by simp) (Nat.le_refl _)).upd nFp nFc (by omega)
    · rintro σ H9 ⟨y6, y9, y10, y11, vs9, T9, dep, ls, rfl, hF9, TV9, PT9, R9, K9, P9, hL9, hU9⟩
      have hzz : 1 + ((z : Int) - 1).toNat = z := by omega
      rw [hzz] at PT9
      repeat walk_at "rd"
      intro D nD
      have hnD : H D = none := K9.fresh (by
        obtain ⟨⟨o, ho⟩, _⟩ := P9.some
        simpa using (ne_of_none ho nD).symm) nD
      refine k D _ T9 dep hnD (K9.new nD) ⟨vs9, SqT.of upd_same, TV9.keep ((Kt.refl H9).new nD)⟩ (PT9.tw (by omega) (by omega)) (by rw [PT9.len]; omega) ?_ (P9.keep ((Kx.refl [] H9).new nD) (by simp) (by simp) (by omega))
      obtain ⟨⟨e, he⟩, h0⟩ := PT9.inn 0 n0 (by omega) hn0
      cases e with
      | none => exact ⟨n0, he⟩
      | some q =>
        obtain ⟨a, b⟩ := q
        have := (PT9.par n0 a b he).2.2
        omega
end


section
variable {P : Program} {w : World} {K : PySem.W.Frag} {mg : Str → Option Value} {base : Heap}

def spWalk (K : PySem.W.Frag) : Sp := fun vs H Q _ => ∃ (D : Addr) (T : List Ent) (dep : Nat → Nat) (c : Nat), vs = [.ref D, .int c] ∧ TreeAt K H D T ∧ TW T dep ∧ (∃ r : Nat, T[r]? = some (some none)) ∧ 1 ≤ c ∧
  ∀ (R L P : Addr) (ps : List Addr) H' log pls, H R = none → Kx [] H H' → H' R = some (.tup [.ref L, .ref P]) → H' L = some (.lst (natV log)) → H' P = some (.lst (ps.map V.ref)) → PlsAt H' ps pls → WO T c log pls [] → Q (.ref R) H'
theorem ok_walk {f : Addr} {fd : FuncData} (F : Fun K "_law_walk" "_law_walk" sQWalk f fd) (T : Txt mg) : FnOk P w K mg base CX0 1 f fd ["_law_given", "_law_cap"] (spWalk K) := by
  refine F.ok scQWalk (fun vs H Q E h => ?_) (fun cdv A outer s H vs Q E hr h => ?_)
  · obtain ⟨D, T, dep, c, rfl, _⟩ := h
    rfl
  · obtain ⟨D, Tr, dep, c, rfl, hT, wT, ⟨r0, hr0⟩, hc, k⟩ := h
    refine ⟨_, (pss_cons (ps_set (i := 2) scQWalk.nd rfl (Or.inl rfl) pe_dnewT)
      (pss_cons (ps_for PassesOwn.never rfl (pi_enumT (by rfl) T.b_enumerate (pa_cons (pv 0) pa_nil)) (pg_tup rfl (pgs_cons (pg_name (i := 3) scQWalk.nd rfl (Or.inl rfl)) (pgs_cons (pg_name (i := 4) scQWalk.nd rfl (Or.inl rfl)) pgs_nil)))
      (pss_one (ps_if ((pw_and (pt_cmpR op_notN1 (pv 4) pe_non (nomark _)) (pw_and1 (pt_cmpR (op_neD hr.units) (pv 4) (pe_tup pa_nil) (nomark _))))).pt (pss_one (ps_dput (hu_of hr) (pv 2) (pv 4) (pv 3) rfl)) pss_nil)))
      (pss_cons (ps_set (i := 5) scQWalk.nd rfl (Or.inl rfl) (pe_lst pa_nil))
      (pss_cons (ps_set (i := 6) scQWalk.nd rfl (Or.inl rfl) (pe_lst pa_nil))
      (pss_cons (ps_setLc (i := 7) (own := [("_law_v", 3), ("_law_entry", 4)]) rfl scQWalk.nd rfl rfl (sw_true rfl rfl rfl (by decide +kernel)) (pi_enumT (by rfl) T.b_enumerate (pa_cons (pv 0) pa_nil)) (blkOk_by (N := ["_law_given", "_law_cap", "_law_child_at", "_law_v", "_law_entry", "_law_log", "_law_places", "_law_shelf", "_law_stack", "_law_here", "_law_at", "_law_child"]) (sc := defScope sQWalk) (by decide +kernel)) (fun _ _ _ _ _ => (pg_tupK (K := K) (n := 2) rfl rfl (pgs_cons (pg_name (i := 3) scQWalk.nd rfl (Or.inl rfl)) (pgs_cons (pg_name (i := 4) scQWalk.nd rfl (Or.inl rfl)) pgs_nil)))) (fun _ _ _ _ _ => (pts_one (pt_cmpR (op_eqDK (K := K) hr.units) (pv 4) (pe_tup pa_nil) (nomark _)))) (fun _ _ _ _ _ => (pv 3)))
      (pss_cons (ps_while PassesOwn.never (pt_cmpR (op_neD hr.units) (pv 7) (pe_lst pa_nil) (nomark _))
      (pss_cons (ps_set (i := 8) scQWalk.nd rfl (Or.inl rfl) (pe_lst (pa_cons (pe_lst (pa_cons (pe_bm0 PySem.F.plainAttrs_list PySem.F.slot_list_pop PySem.F.type_list_pop mt_pop (pv 7)) (pa_cons pe_int pa_nil))) pa_nil)))
      (pss_cons (ps_expr (pe_bm PySem.F.plainAttrs_list PySem.F.slot_list_append PySem.F.type_list_append mt_append (pv 5) (pa_cons (pe_ix ix_list (pe_ix ix_list (pv 8) pe_int (fun _ _ => rfl)) pe_int (fun _ _ => rfl)) pa_nil)))
      (pss_one (ps_while PassesOwn.never (pt_cmpR (op_neD hr.units) (pv 8) (pe_lst pa_nil) (nomark _))
      (pss_cons (ps_asg (pe_ix ix_list (pv 8) (pe_un un_neg pe_int) (fun _ _ => rfl)) (pg_lst rfl (pgs_cons (pg_name (i := 9) scQWalk.nd rfl (Or.inl rfl)) (pgs_cons (pg_name (i := 10) scQWalk.nd rfl (Or.inl rfl)) pgs_nil))))
      (pss_one (ps_if (pt_cmpR op_eq (pv 10) pe_int (nomark _)) (pss_one (ps_expr (pe_bm0 PySem.F.plainAttrs_list PySem.F.slot_list_pop PySem.F.type_list_pop mt_pop (pv 8)))) (pss_cons (ps_asg (pe_op op_add (pv 10) pe_int) (pg_sub (pe_ix ix_list (pv 8) (pe_un un_neg pe_int) (fun _ _ => rfl)) pe_int set_list))
      (pss_cons (ps_expr (pe_bm PySem.F.plainAttrs_list PySem.F.slot_list_append PySem.F.type_list_append mt_append (pv 6) (pa_cons (pe_tup (pa_cons (pv 9) (pa_cons (pv 10) pa_nil))) pa_nil)))
      (pss_cons (ps_set (i := 11) scQWalk.nd rfl (Or.inl rfl) (pe_dget2 (hu_of hr) (pv 2) (pe_tup (pa_cons (pv 9) (pa_cons (pv 10) pa_nil))) pe_non ⟨rfl, rfl, rfl, rfl⟩))
      (pss_one (ps_if ((pw_and (pt_cmpR op_notN1 (pv 11) pe_non (nomark _)) (pw_and1 (pt_cmpR op_lt (pe_callB call_len_seq (by rfl) T.b_len boot'_len (pa_cons (pv 8) pa_nil)) (pv 1) (nomark _))))).pt (pss_cons (ps_expr (pe_bm PySem.F.plainAttrs_list PySem.F.slot_list_append PySem.F.type_list_append mt_append (pv 5) (pa_cons (pv 11) pa_nil)))
      (pss_one (ps_expr (pe_bm PySem.F.plainAttrs_list PySem.F.slot_list_append PySem.F.type_list_append mt_append (pv 8) (pa_cons (pe_lst (pa_cons (pv 11) (pa_cons pe_int pa_nil))) pa_nil))))) (pss_one (ps_if (pt_cmpR op_notN1 (pv 11) pe_non (nomark _)) (pss_one (ps_expr (pe_bm PySem.F.plainAttrs_list PySem.F.slot_list_append PySem.F.type_list_append mt_append (pv 7) (pa_cons (pv 11) pa_nil)))) pss_nil)))))))))))))))
      (pss_one (ps_ret (pe_tup (pa_cons (pv 5) (pa_cons (pv 6) pa_nil))))))))))), ?_⟩
    refine x_start (σ' := [some (.ref D), some (.int c), none, none, none, none, none, none, none, none, none, none]) rfl ?_
    try dsimp only [cxOf]
    obtain ⟨vs, hD, hV⟩ := id hT
    have h40 := wT.most
    repeat walk_at "rd"
    refine x_dnewT fun Dd nDd => ?_
    have kd0 : Kx [] H (upd H Dd (.dT [])) := (Kx.refl [] H).new nDd
    repeat walk_at "rd"
    refine y_forET (xs := vs) (kd0.sqT (by simp) hD) ⟨fun i σ H1 => ∃ (y3 y4 : Option V) (kvs : List (List Key × V)), σ = [some (.ref D), some (.int c), some (.ref Dd), y3, y4, none, none, none, none, none, none, none] ∧ Kx [] H H1 ∧ H1 Dd = some (.dT kvs) ∧ ChD kvs Tr i ∧ kvs.length ≤ i,
      ⟨none, none, [], rfl, kd0, upd_same, .nil _, Nat.le_refl _⟩, ?_, ?_, ?_⟩
    · rintro i σ H1 hi ⟨y3, y4, kvs, rfl, k1, _⟩
      exact k1.sqT (by simp) hD
    · rintro i x σ H1 H1' hi ⟨y3, y4, kvs, rfl, k1, hDd, hC, hkl⟩ ⟨t, x1, x2, rfl, nt, rfl, h1, h2⟩
      cases Option.some.inj h1
      rw [hV.len] at hi
      obtain ⟨e, hTi, hE⟩ := hent hV k1 h2
      have k2 : Kx [] H (upd H1 t (.tup [.int (i : Nat), x2])) := k1.new nt
      have hD2 := lk_ne (o := .tup [.int (i : Nat), x2]) hDd nt
      have hE2 := hE.keep ((Kt.refl H1).new (o := .tup [.int (i : Nat), x2]) nt)
      have ht2 : upd H1 t (.tup [.int (i : Nat), x2]) t = some (.tup [.int (i : Nat), x2]) := upd_same
      generalize upd H1 t (.tup [.int (i : Nat), x2]) = H2 at *
      repeat walk_at "rd"
      cases hE2 with
      | non =>
        refine iteN (by simp) (iteF ?_)
        repeat walk_at "rd"
        exact ⟨_, _, kvs, rfl, k2, hD2, hC.skip (by simp [hTi]), by omega⟩
      | root h =>
        refine iteP (by simp) ?_
        repeat walk_at "rd"
        rename_i u nu
        refine x_neU (EntV.root (K := K) ((Kt.new (Kt.refl H2) nu).sqT h)) (SqT.of upd_same) ?_
        repeat walk_at "rd"
        refine iteN (by simp) ?_
        repeat walk_at "rd"
        exact ⟨_, _, kvs, rfl, k2.new nu, lk_ne hD2 nu, hC.skip (by simp [hTi]), by omega⟩
      | par h =>
        rename_i a pp ss
        refine iteP (by simp) ?_
        repeat walk_at "rd"
        rename_i u nu
        have h3 : upd H2 u (.tup []) a = some _ := lk_ne h nu
        refine x_neU (EntV.par (K := K) h3) (SqT.of upd_same) ?_
        have hD3 := lk_ne (o := .tup []) hD2 nu
        have k3 : Kx [] H (upd H2 u (.tup [])) := k2.new nu
        generalize upd H2 u (.tup []) = H3 at *
        repeat walk_at "rd"
        refine iteP (by simp) ?_
        repeat walk_at "rd"
        refine x_dpT (k := [.inl (pp : Int), .inl (ss : Int)]) hD3 h3 (small1000 (by omega)) ?_
        refine ⟨_, _, _, rfl, k3.wr (.inl nDd), upd_same, hC.put wT hTi, ?_⟩
        have := length_putK kvs [.inl (pp : Int), .inl (ss : Int)] (V.int (i : Int))
        omega
    rintro σ H1 ⟨y3, y4, kvs, rfl, k1, hDd, hC, hkl⟩
    rw [hV.len] at hC
    repeat walk_at "rd"
    rename_i L nL P0 nP
    have kL := k1.new (o := .lst []) nL
    have eL : upd H1 L (.lst []) L = some (.lst []) := upd_same
    have hDd2 := lk_ne (o := .lst []) hDd nL
    have hDL : Dd ≠ L := ne_of_none hDd nL
    have nL0 : H L = none := k1.fresh (by simp) nL
    generalize upd H1 L (.lst []) = H2 at *
    clear nL hDd
    have hLP : L ≠ P0 := ne_of_none eL nP
    have hDP : Dd ≠ P0 := ne_of_none hDd2 nP
    have eL2 := lk_ne (o := .lst []) eL nP
    have eP : upd H2 P0 (.lst []) P0 = some (.lst []) := upd_same
    have hDd3 := lk_ne (o := .lst []) hDd2 nP
    have nP0 : H P0 = none := kL.fresh (by simp) nP
    have kP := kL.new (o := .lst []) nP
    generalize upd H2 P0 (.lst []) = H3 at *
    clear nP hDd2 eL kL k1
    refine y_lcET (xs := vs) (kP.sqT (by simp) hD) (fun Y nY => ⟨fun i H4 => Kx [] H3 H4 ∧ H4 Y = some (.lst (natV (rootsL Tr i))), ⟨(Kx.refl [] H3).new nY, upd_same⟩, ?_, ?_, ?_⟩)
    · rintro i H4 hi ⟨k4, _⟩
      exact (kP.trans k4).sqT (by simp) hD
    · rintro i x H4 H4' hi ⟨k4, hY⟩ ⟨t, x1, x2, rfl, nt, rfl, h1, h2⟩
      cases Option.some.inj h1
      rw [hV.len] at hi
      obtain ⟨e, hTi, hE⟩ := hent hV (kP.trans k4) h2
      have k5 : Kx [] H3 (upd H4 t (.tup [.int (i : Nat), x2])) := k4.new nt
      have hY2 := lk_ne (o := .tup [.int (i : Nat), x2]) hY nt
      have hE2 := hE.keep ((Kt.refl H4).new (o := .tup [.int (i : Nat), x2]) nt)
      have ht2 : upd H4 t (.tup [.int (i : Nat), x2]) t = some (.tup [.int (i : Nat), x2]) := upd_same
      generalize upd H4 t (.tup [.int (i : Nat), x2]) = H5 at *
      repeat walk_at "rd"
      refine ⟨rfl, ?_⟩
      repeat walk_at "rd"
      rename_i u nu
      refine x_eqU (hE2.keep ((Kt.refl H5).new nu)) (SqT.of upd_same) ?_
      repeat walk_at "rd"
      have k6 : Kx [] H3 (upd H5 u (.tup [])) := k5.new nu
      have hY3 := lk_ne (o := .tup []) hY2 nu
      have es := rootsL_succ Tr i
      by_cases he : e = some none
      · subst he
        refine iteP (by simp) ?_
        repeat walk_at "rd"
        refine ⟨_, hY3, small1000 (by rw [natV_len]; have := rootsL_len Tr i; omega), k6.wr (.inl nY), ?_⟩
        rw [upd_same, es, if_pos hTi]
        unfold natV
        rw [List.map_append]
        rfl
      · refine iteN (by simpa using he) ⟨k6, ?_⟩
        rw [es, if_neg, List.append_nil]
        · exact hY3
        · rw [hTi]
          exact fun z => he (Option.some.inj z)
    rintro H4 ⟨k4, hY⟩
    have hr40 := (List.getElem?_eq_some_iff.mp hr0).1
    rw [hV.len, rootsL_one wT hr0, if_pos hr40] at hY
    have hLY : L ≠ Y := ne_of_none eL2 nY
    have hPY : P0 ≠ Y := ne_of_none eP nY
    have hDY : Dd ≠ Y := ne_of_none hDd3 nY
    have nY0 : H Y = none := kP.fresh (by simp) nY
    have eL4 := k4 L _ (by simp) eL2
    have eP4 := k4 P0 _ (by simp) eP
    have eD4 := k4 Dd _ (by simp) hDd3
    have k04 := kP.trans k4
    clear k4 kP hDd3 eP eL2 nY
    repeat walk_at "rd"
    refine ⟨fun m σ H5 => ∃ (log : List Nat) (pls : List (Nat × Nat)) (shelf : List Nat) (ps : List Addr) (y8 y9 y10 y11 : Option V), σ = [some (.ref D), some (.int c), some (.ref Dd), y3, y4, some (.ref L), some (.ref P0), some (.ref Y), y8, y9, y10, y11] ∧ Kx [] H H5 ∧ H5 Dd = some (.dT kvs) ∧ H5 L = some (.lst (natV log)) ∧ H5 P0 = some (.lst (ps.map V.ref)) ∧ H5 Y = some (.lst (natV shelf)) ∧ PlsAt H5 ps pls ∧ WO Tr c log pls shelf ∧ m = 41 - log.length,
      ⟨_, [], [], [r0], [], none, none, none, none, rfl, k04, eD4, eL4, eP4, hY, ⟨rfl, fun i q p h => by simp at h⟩, WO.start wT hr0, rfl⟩, ?_⟩
    rintro m σ H5 ⟨log, pls, shelf, ps, y8, y9, y10, y11, rfl, k5, eD5, eL5, eP5, eY5, hps, wo, rfl⟩
    repeat walk_at "rd"
    rename_i N nN
    refine x_neNilN (SqL.of (lk_ne eY5 nN)) (SqL.of upd_same) ?_
    replace hps := hps.keep ((Kt.refl H5).new (o := .lst []) nN)
    replace eD5 := lk_ne (o := .lst []) eD5 nN
    replace eL5 := lk_ne (o := .lst []) eL5 nN
    replace eP5 := lk_ne (o := .lst []) eP5 nN
    replace eY5 := lk_ne (o := .lst []) eY5 nN
    replace k5 := k5.new (o := .lst []) nN
    generalize upd H5 N (.lst []) = H6 at *
    clear nN
    repeat walk_at "rd"
    rcases List.eq_nil_or_concat shelf with rfl | ⟨ys, x, rfl⟩
    · refine iteN rfl ?_
      repeat walk_at "rd"
      rename_i R nR
      exact k R L P0 ps _ log pls (k5.fresh (by simp) nR) (k5.new nR) upd_same (lk_ne eL5 nR) (lk_ne eP5 nR) (hps.keep ((Kt.refl H6).new nR)) wo
    · rw [List.concat_eq_append] at *
      refine iteP (by simp) (x_turn ?_)
      have hll := log_len wT wo.logs wo.lin
      have hat0 : (natV (ys ++ [x]))[(natV (ys ++ [x])).length - 1]? = some (.int (x : Int)) := by
        unfold natV
        rw [List.map_append]
        exact getLast_get _ _
      have hdl : (natV (ys ++ [x])).dropLast = natV ys := by
        unfold natV
        rw [List.map_append]
        exact List.dropLast_concat ..
      have hzl : (natV log).length < sizeLine := small1000 (by rw [natV_len]; omega)
      repeat walk_at "rd"
      refine ⟨ty_list (SqL.of eY5), ?_⟩
      repeat walk_at "rd"
      rename_i a na S nS
      rw [hdl] at na nS ⊢
      have k6 := k5.wr (o := .lst (natV ys)) (.inl nY0)
      have eY6 : upd H6 Y (.lst (natV ys)) Y = some (.lst (natV ys)) := upd_same
      have eD6 := lk_ne2 (o := .lst (natV ys)) hDY eD5
      have eL6 := lk_ne2 (o := .lst (natV ys)) hLY eL5
      have eP6 := lk_ne2 (o := .lst (natV ys)) hPY eP5
      have hps6 := hps.keep ((Kt.refl H6).wr (o := .lst (natV ys)) eY5)
      generalize upd H6 Y (.lst (natV ys)) = H7 at *
      clear eY5 eD5 eL5 eP5 hps k5
      have naL : a ≠ L := (ne_of_none eL6 na).symm
      have naP : a ≠ P0 := (ne_of_none eP6 na).symm
      have naY : a ≠ Y := (ne_of_none eY6 na).symm
      have naD : a ≠ Dd := (ne_of_none eD6 na).symm
      have naS : a ≠ S := ne_of_none upd_same nS
      have nSL : S ≠ L := (ne_of_none (lk_ne (o := .lst [V.int x, V.int 0]) eL6 na) nS).symm
      have nSP : S ≠ P0 := (ne_of_none (lk_ne (o := .lst [V.int x, V.int 0]) eP6 na) nS).symm
      have nSY : S ≠ Y := (ne_of_none (lk_ne (o := .lst [V.int x, V.int 0]) eY6 na) nS).symm
      have nSD : S ≠ Dd := (ne_of_none (lk_ne (o := .lst [V.int x, V.int 0]) eD6 na) nS).symm
      have nS0 : H S = none := (k6.new (o := .lst [V.int x, V.int 0]) na).fresh (by simp) nS
      have na0 : H a = none := k6.fresh (by simp) na
      have k7 := (k6.new (o := .lst [V.int x, V.int 0]) na).new (o := .lst [V.ref a]) nS
      have eS7 : upd (upd H7 a (.lst [V.int x, V.int 0])) S (.lst [V.ref a]) S = some (.lst [V.ref a]) := upd_same
      have ea7 : upd (upd H7 a (.lst [V.int x, V.int 0])) S (.lst [V.ref a]) a = some (.lst [V.int x, V.int 0]) := lk_ne2 naS upd_same
      have eD7 := lk_ne (o := .lst [V.ref a]) (lk_ne (o := .lst [V.int x, V.int 0]) eD6 na) nS
      have eL7 := lk_ne (o := .lst [V.ref a]) (lk_ne (o := .lst [V.int x, V.int 0]) eL6 na) nS
      have eP7 := lk_ne (o := .lst [V.ref a]) (lk_ne (o := .lst [V.int x, V.int 0]) eP6 na) nS
      have eY7 := lk_ne (o := .lst [V.ref a]) (lk_ne (o := .lst [V.int x, V.int 0]) eY6 na) nS
      have hps7 := hps6.keep (((Kt.refl H7).new (o := .lst [V.int x, V.int 0]) na).new (o := .lst [V.ref a]) nS)
      generalize upd (upd H7 a (.lst [V.int x, V.int 0])) S (.lst [V.ref a]) = H8 at *
      clear eY6 eD6 eL6 eP6 hps6 k6 na nS
      refine ⟨ty_list (SqL.of eL7), ?_⟩
      repeat walk_at "rd"
      have k8 := k7.wr (o := .lst (natV log ++ [V.int x])) (.inl nL0)
      have eL8 : upd H8 L (.lst (natV log ++ [V.int x])) L = some (.lst (natV (log ++ [x]))) := by
        rw [upd_same]
        unfold natV
        rw [List.map_append]
        rfl
      have eD8 := lk_ne2 (o := .lst (natV log ++ [V.int x])) hDL eD7
      have eP8 := lk_ne2 (o := .lst (natV log ++ [V.int x])) hLP.symm eP7
      have eY8 := lk_ne2 (o := .lst (natV log ++ [V.int x])) hLY.symm eY7
      have eS8 := lk_ne2 (o := .lst (natV log ++ [V.int x])) nSL eS7
      have ea8 := lk_ne2 (o := .lst (natV log ++ [V.int x])) naL ea7
      have hps8 := hps7.keep ((Kt.refl H8).wr (o := .lst (natV log ++ [V.int x])) eL7)
      generalize upd H8 L (.lst (natV log ++ [V.int x])) = H9 at *
      clear eL7 eD7 eP7 eY7 eS7 ea7 hps7 k7
      have ws0 := wo.pop wT
      refine ⟨fun m σ H5 => ∃ (log' : List Nat) (pls stk : List (Nat × Nat)) (shelf : List Nat) (ps sa : List Addr) (y9 y10 y11 : Option V), σ = [some (.ref D), some (.int c), some (.ref Dd), y3, y4, some (.ref L), some (.ref P0), some (.ref Y), some (.ref S), y9, y10, y11] ∧ Kx [] H H5 ∧ H5 Dd = some (.dT kvs) ∧
          H5 L = some (.lst (natV log')) ∧ H5 P0 = some (.lst (ps.map V.ref)) ∧ H5 Y = some (.lst (natV shelf)) ∧ H5 S = some (.lst (stkL sa)) ∧ StkV H5 sa stk ∧ (∀ b ∈ sa, b ≠ Dd ∧ b ≠ L ∧ b ≠ P0 ∧ b ≠ Y ∧ b ≠ S ∧ H b = none) ∧ PlsAt H5 ps pls ∧ WS Tr c log' pls stk shelf (RR Tr c x) ∧
          m = 42 * (41 - log'.length) + (stk.map fun e => 41 - e.2).sum ∧ log.length < log'.length,
        ⟨_, log ++ [x], pls, [(x, 0)], ys, ps, [a], y9, y10, y11, rfl, k8, eD8, eL8, eP8, eY8, eS8, .cons ea8 (by simp) .nil, by
          intro b hb
          rw [List.mem_singleton.mp hb]
          exact ⟨naD, naL, naP, naY, naS, na0⟩, hps8, ws0, rfl, by rw [List.length_append]; exact Nat.lt_succ_self _⟩, ?_⟩
      clear k8 eD8 eL8 eP8 eY8 eS8 ea8 hps8 ws0 wo hat0 hdl hzl
      rintro m σ G ⟨log', pls, stk, shelf, ps, sa, y9, y10, y11, rfl, kG, gD, gL, gP, gY, gS, hsv, hsa, hps, ws, rfl, hlt⟩
      have hl' := log_len wT ws.logs ws.lin
      have hsl := shelf_len ws.ys fun y hy => (ws.yin y hy).1
      have hkl2 := stk_len wT ws
      have hcnt := ws.cnt
      repeat walk_at "rd"
      rename_i N nN
      refine x_neStk (lk_ne gS nN) (hsv.keep ((Kx.refl [] G).new nN) (by simp)) (SqL.of upd_same) ?_
      replace hps := hps.keep ((Kt.refl G).new (o := .lst []) nN)
      replace hsv := hsv.keep ((Kx.refl [] G).new (o := .lst []) nN) (by simp)
      replace gD := lk_ne (o := .lst []) gD nN
      replace gL := lk_ne (o := .lst []) gL nN
      replace gP := lk_ne (o := .lst []) gP nN
      replace gY := lk_ne (o := .lst []) gY nN
      replace gS := lk_ne (o := .lst []) gS nN
      replace kG := kG.new (o := .lst []) nN
      generalize upd G N (.lst []) = G1 at *
      clear nN
      repeat walk_at "rd"
      cases hsv with
      | nil =>
        refine iteN rfl ?_
        repeat walk_at "rd"
        exact ⟨_, by omega, log', pls, shelf, ps, _, _, _, _, rfl, kG, gD, gL, gP, gY, hps, ws.stop, rfl⟩
      | cons h1 h2 h3 =>
        rename_i a' sr h t r
        obtain ⟨g1, g2, g3, g4, g5, g6⟩ := hsa a' List.mem_cons_self
        have hsr : ∀ b ∈ sr, b ≠ Dd ∧ b ≠ L ∧ b ≠ P0 ∧ b ≠ Y ∧ b ≠ S ∧ H b = none := fun b hb => hsa b (List.mem_cons_of_mem _ hb)
        rw [stkL_cons] at gS
        have hat : atI (stkL sr ++ [V.ref a']) (-1) = some (.ref a') := atI_last _ _
        refine iteP rfl (x_turn ?_)
        repeat walk_at "rd"
        refine ite2 (fun ht => ?_) (fun ht => ?_)
        · have ht2 : t = 40 := by
            have := of_decide_eq_true ht
            injection this with e
            omega
          subst ht2
          have hgl := getLast_get (stkL sr) (V.ref a')
          have hdl : (stkL sr ++ [V.ref a']).dropLast = stkL sr := List.dropLast_concat ..
          repeat walk_at "rd"
          refine ⟨ty_list (SqL.of gS), ?_⟩
          repeat walk_at "rd"
          rw [hdl]
          refine ⟨_, ?_, log', pls, r, shelf, ps, sr, _, _, _, rfl, kG.wr (.inl nS0), lk_ne2 nSD.symm gD, lk_ne2 nSL.symm gL, lk_ne2 nSP.symm gP, lk_ne2 nSY.symm gY, upd_same, ?_, hsr, hps.keep ((Kt.refl G1).wr gS), ws.pop wT, rfl, hlt⟩
          · simp only [List.map_cons, List.sum_cons]
            omega
          · exact h3.keep (S := [S]) ((Kx.refl [S] G1).wr (.inr (by simp))) fun b hb => by simpa using (hsr b hb).2.2.2.2.1
        · have ht2 : t < 40 := by
            have h40' : t ≤ 40 := (ws.sin (h, t) (by simp)).2.1
            have : t ≠ 40 := fun e => by
              subst e
              have := of_decide_eq_false (show decide (V.int ((40 : Nat) : Int) = V.int 40) = false from by simpa using ht)
              exact this rfl
            omega
          have hix1 : ixN ([V.int (h : Int), V.int (t : Int)] : List V).length 1 = some 1 := rfl
          repeat walk_at "rd"
          have i1 := kG.wr (o := .lst [V.int (h : Int), V.int ((t : Int) + 1)]) (.inl g6)
          have i2 := lk_ne2 (o := .lst [V.int (h : Int), V.int ((t : Int) + 1)]) g1.symm gD
          have i3 := lk_ne2 (o := .lst [V.int (h : Int), V.int ((t : Int) + 1)]) g2.symm gL
          have i4 := lk_ne2 (o := .lst [V.int (h : Int), V.int ((t : Int) + 1)]) g3.symm gP
          have i5 := lk_ne2 (o := .lst [V.int (h : Int), V.int ((t : Int) + 1)]) g4.symm gY
          have i6 := lk_ne2 (o := .lst [V.int (h : Int), V.int ((t : Int) + 1)]) g5.symm gS
          have i7 := h3.keep (S := [a']) (H' := upd G1 a' (.lst [V.int (h : Int), V.int ((t : Int) + 1)])) ((Kx.refl [a'] G1).wr (.inr (by simp))) fun b hb => by simpa using fun e : b = a' => h2 (e ▸ hb)
          have i8 := hps.keep ((Kt.refl G1).wr (o := .lst [V.int (h : Int), V.int ((t : Int) + 1)]) h1)
          have i9 : upd G1 a' (.lst [V.int (h : Int), V.int ((t : Int) + 1)]) a' = some (.lst [V.int (h : Int), V.int ((t + 1 : Nat) : Int)]) := by rw [upd_same]; rfl
          generalize upd G1 a' (.lst [V.int (h : Int), V.int ((t : Int) + 1)]) = G2 at *
          clear gD gL gP gY gS hps kG h3 h1
          refine ⟨ty_list (SqL.of i4), ?_⟩
          have hzp : (ps.map V.ref).length < sizeLine := small10k (by rw [List.length_map, i8.len]; omega)
          repeat walk_at "rd"
          rename_i q nq
          have nqP : q ≠ P0 := (ne_of_none i4 nq).symm
          have hz3 : ∀ {b : Addr} {o : HO}, G2 b = some o → b ≠ P0 → (upd (upd G2 q (.tup [V.int (h : Int), V.int (t : Int)])) P0 (.lst (ps.map V.ref ++ [V.ref q]))) b = some o := fun e n => lk_ne2 n (lk_ne e nq)
          have j1 := (i1.new (o := .tup [V.int (h : Int), V.int (t : Int)]) nq).wr (o := .lst (ps.map V.ref ++ [V.ref q])) (.inl nP0)
          have j2 := hz3 i2 hDP
          have j3 := hz3 i3 hLP
          have j4 : (upd (upd G2 q (.tup [V.int (h : Int), V.int (t : Int)])) P0 (.lst (ps.map V.ref ++ [V.ref q]))) P0 = some (.lst ((ps ++ [q]).map V.ref)) := by rw [upd_same, List.map_append]; rfl
          have j5 := hz3 i5 hPY.symm
          have j6 := hz3 i6 nSP
          have jk : Kx [P0] G2 (upd (upd G2 q (.tup [V.int (h : Int), V.int (t : Int)])) P0 (.lst (ps.map V.ref ++ [V.ref q]))) := ((Kx.refl [P0] G2).new nq).wr (.inr (by simp))
          have j7 := i7.keep jk fun b hb => by simpa using (hsr b hb).2.2.1
          have j8 := (i8.keep (Kt.of1 jk i4)).snoc (q := q) (p := (h, t)) (lk_ne2 nqP upd_same)
          have j9 := hz3 i9 g3
          generalize (upd (upd G2 q (.tup [V.int (h : Int), V.int (t : Int)])) P0 (.lst (ps.map V.ref ++ [V.ref q]))) = G3 at *
          clear i1 i2 i3 i4 i5 i6 i7 i8 i9 jk hz3 nq
          try refine x_dget2 ?_
          repeat walk_at "rd"
          refine ⟨Dd, rfl, .inr ⟨kvs, .inl j2⟩, ?_⟩
          repeat walk_at "rd"
          rename_i u nu
          refine x_dgT (k := [.inl (h : Int), .inl (t : Int)]) (lk_ne j2 nu) upd_same ?_
          have l1 := j1.new (o := .tup [V.int (h : Int), V.int (t : Int)]) nu
          have l2 := lk_ne (o := .tup [V.int (h : Int), V.int (t : Int)]) j2 nu
          have l3 := lk_ne (o := .tup [V.int (h : Int), V.int (t : Int)]) j3 nu
          have l4 := lk_ne (o := .tup [V.int (h : Int), V.int (t : Int)]) j4 nu
          have l5 := lk_ne (o := .tup [V.int (h : Int), V.int (t : Int)]) j5 nu
          have l6 := lk_ne (o := .tup [V.int (h : Int), V.int (t : Int)]) j6 nu
          have l7 := j7.keep ((Kx.refl [] G3).new (o := .tup [V.int (h : Int), V.int (t : Int)]) nu) (by simp)
          have l8 := j8.keep ((Kt.refl G3).new (o := .tup [V.int (h : Int), V.int (t : Int)]) nu)
          have l9 := lk_ne (o := .tup [V.int (h : Int), V.int (t : Int)]) j9 nu
          generalize (upd G3 u (.tup [V.int (h : Int), V.int (t : Int)])) = G4 at *
          clear j1 j2 j3 j4 j5 j6 j7 j8 j9 nu
          have hsa2 : ∀ b ∈ a' :: sr, b ≠ Dd ∧ b ≠ L ∧ b ≠ P0 ∧ b ≠ Y ∧ b ≠ S ∧ H b = none := hsa
          have hsv2 : StkV G4 (a' :: sr) ((h, t + 1) :: r) := .cons l9 h2 l7
          have hsl2 : stkL sr ++ [V.ref a'] = stkL (a' :: sr) := (stkL_cons _ _).symm
          rw [hsl2] at l6
          have hslen : (stkL (a' :: sr)).length = r.length + 1 := by rw [stkL_len, List.length_cons, l7.len]
          by_cases hb : ∃ b : Nat, Tr[b]? = some (some (some (h, t)))
          · obtain ⟨b, hb⟩ := hb
            have hbn : b < Tr.length := (List.getElem?_eq_some_iff.mp hb).1
            rw [(hC h t).1 b hbn hb]
            have hnl : log'.length < 41 := by omega
            have hmu : 42 * (41 - (log'.length + 1)) + (41 + ((41 - (t + 1)) + (r.map fun e => 41 - e.2).sum)) < 42 * (41 - log'.length) + ((41 - t) + (r.map fun e => 41 - e.2).sum) := by omega
            repeat walk_at "rd"
            refine iteP (by simp) ?_
            repeat walk_at "rd"
            rw [hslen]
            by_cases hcc : r.length + 1 < c
            · have wn := ws.near wT ht2 hb hcc
              have hzl : (natV log').length < sizeLine := small1000 (by rw [natV_len]; omega)
              refine iteP (decide_eq_true (by omega)) ?_
              repeat walk_at "rd"
              refine ⟨ty_list (SqL.of l3), ?_⟩
              repeat walk_at "rd"
              refine ⟨ty_list (SqL.of (lk_ne2 nSL l6)), ?_⟩
              have hzs : (stkL (a' :: sr)).length < sizeLine := small1000 (by rw [hslen]; rw [List.length_cons] at hkl2; omega)
              repeat walk_at "rd"
              rename_i z nz
              rw [Option.getD_some] at nz ⊢
              have m3 : upd G4 L (.lst (natV log' ++ [V.int (b : Int)])) L = some (.lst (natV (log' ++ [b]))) := by
                rw [upd_same]
                unfold natV
                rw [List.map_append]
                rfl
              have m1 := l1.wr (o := .lst (natV log' ++ [V.int (b : Int)])) (.inl nL0)
              have m2 := lk_ne2 (o := .lst (natV log' ++ [V.int (b : Int)])) hDL l2
              have m4 := lk_ne2 (o := .lst (natV log' ++ [V.int (b : Int)])) hLP.symm l4
              have m5 := lk_ne2 (o := .lst (natV log' ++ [V.int (b : Int)])) hLY.symm l5
              have m6 := lk_ne2 (o := .lst (natV log' ++ [V.int (b : Int)])) nSL l6
              have m7 := hsv2.keep (S := [L]) (H' := upd G4 L (.lst (natV log' ++ [V.int (b : Int)]))) ((Kx.refl [L] G4).wr (.inr (by simp))) fun b hb => by simpa using (hsa2 b hb).2.1
              have m8 := l8.keep ((Kt.refl G4).wr (o := .lst (natV log' ++ [V.int (b : Int)])) l3)
              generalize upd G4 L (.lst (natV log' ++ [V.int (b : Int)])) = G5 at *
              have nzL : z ≠ L := (ne_of_none m3 nz).symm
              have nzP : z ≠ P0 := (ne_of_none m4 nz).symm
              have nzY : z ≠ Y := (ne_of_none m5 nz).symm
              have nzS : z ≠ S := (ne_of_none m6 nz).symm
              have nzD : z ≠ Dd := (ne_of_none m2 nz).symm
              have nz0 : H z = none := m1.fresh (by simp) nz
              have nzs : z ∉ a' :: sr := fun e => by
                obtain ⟨xs, hx⟩ := m7.some z e
                rw [nz] at hx
                cases hx
              have kz : Kx [S] G5 (upd (upd G5 z (.lst [V.int (b : Int), V.int 0])) S (.lst (stkL (a' :: sr) ++ [V.ref z]))) := ((Kx.refl [S] G5).new nz).wr (.inr (by simp))
              refine ⟨_, ?_, log' ++ [b], pls ++ [(h, t)], (b, 0) :: (h, t + 1) :: r, shelf, ps ++ [q], z :: a' :: sr, _, _, _, rfl, (m1.new nz).wr (.inl nS0), kz _ _ (by simpa using nSD.symm) m2, kz _ _ (by simpa using nSL.symm) m3, kz _ _ (by simpa using nSP.symm) m4, kz _ _ (by simpa using nSY.symm) m5, ?_, .cons (lk_ne2 nzS upd_same) nzs (m7.keep kz fun b hb => by simpa using (hsa2 b hb).2.2.2.2.1), ?_, m8.keep (Kt.of1 kz m6), wn, rfl, ?_⟩
              · simp only [List.map_cons, List.sum_cons, List.length_append, List.length_singleton]
                omega
              · rw [upd_same, stkL_cons z]
              · intro b hb
                rcases List.mem_cons.mp hb with rfl | hb
                · exact ⟨nzD, nzL, nzP, nzY, nzS, nz0⟩
                · exact hsa2 b hb
              · rw [List.length_append]
                omega
            · have wf := ws.far wT hc ht2 hb hcc
              refine iteN (decide_eq_false (by omega)) ?_
              have hzy : (natV shelf).length < sizeLine := small1000 (by rw [natV_len]; omega)
              repeat walk_at "rd"
              refine iteP (by simp) ?_
              repeat walk_at "rd"
              refine ⟨ty_list (SqL.of l5), ?_⟩
              repeat walk_at "rd"
              refine ⟨_, ?_, log', pls ++ [(h, t)], (h, t + 1) :: r, shelf ++ [b], ps ++ [q], a' :: sr, _, _, _, rfl, l1.wr (.inl nY0), lk_ne2 hDY l2, lk_ne2 hLY l3, lk_ne2 hPY l4, ?_, lk_ne2 nSY l6, ?_, hsa2, l8.keep ((Kt.refl G4).wr l5), wf, rfl, hlt⟩
              · simp only [List.map_cons, List.sum_cons]
                omega
              · rw [upd_same]
                unfold natV
                rw [List.map_append]
                rfl
              · exact hsv2.keep (S := [Y]) ((Kx.refl [Y] G4).wr (.inr (by simp))) fun b hb => by simpa using (hsa2 b hb).2.2.2.1
          · have hb2 : ∀ b : Nat, Tr[b]? ≠ some (some (some (h, t))) := fun b e => hb ⟨b, e⟩
            rw [(hC h t).2 fun b _ => hb2 b]
            have wn := ws.slot wT ht2 hb2
            repeat walk_at "rd"
            refine iteN (by simp) (iteF ?_)
            repeat walk_at "rd"
            refine iteN (by simp) ?_
            repeat walk_at "rd"
            refine ⟨_, ?_, log', pls ++ [(h, t)], (h, t + 1) :: r, shelf, ps ++ [q], a' :: sr, _, _, _, rfl, l1, l2, l3, l4, l5, l6, hsv2, hsa2, l8, wn, rfl, hlt⟩
            simp only [List.map_cons, List.sum_cons]
            omega
end


section
variable {P : Program} {w : World} {K : PySem.W.Frag} {mg : Str → Option Value} {base : Heap}

def spSlotsTo (K : PySem.W.Frag) : Sp := fun vs H Q _ => ∃ (D : Addr) (T : List Ent) (v : Nat) (l : List Nat), vs = [.ref D, .int v] ∧ TreeAt K H D T ∧ PathTo T v l ∧ l.length ≤ 40 ∧
  ∀ p H', H p = none → Kx [] H H' → H' p = some (.lst (natV l)) → Q (.ref p) H'
theorem ok_slotsTo {f : Addr} {fd : FuncData} (F : Fun K "_slots_to" "_slots_to" sSlotsTo f fd) (T : Txt mg) : FnOk P w K mg base CX0 1 f fd ["tree", "node"] (spSlotsTo K) := by
  refine F.ok scSlotsTo (fun vs H Q E h => ?_) (fun cdv A outer s H vs Q E hr h => ?_)
  · obtain ⟨D, T, v, l, rfl, _⟩ := h
    rfl
  · obtain ⟨D, T, v, l, rfl, hT, hp, hl, k⟩ := h
    refine ⟨_, (pss_cons (ps_set (i := 2) scSlotsTo.nd rfl (Or.inl rfl) (pe_lst pa_nil))
      (pss_cons (ps_while PassesOwn.never (pt_cmpR (op_neD hr.units) (pe_ix ix_tup (pv 0) (pv 1) (fun _ _ => rfl)) (pe_tup pa_nil) (nomark _))
      (pss_cons (ps_asg (pe_ix ix_tup (pv 0) (pv 1) (fun _ _ => rfl)) (pg_tup rfl (pgs_cons (pg_name (i := 1) scSlotsTo.nd rfl (Or.inl rfl)) (pgs_cons (pg_name (i := 3) scSlotsTo.nd rfl (Or.inl rfl)) pgs_nil))))
      (pss_one (ps_expr (pe_bm PySem.F.plainAttrs_list PySem.F.slot_list_append PySem.F.type_list_append mt_append (pv 2) (pa_cons (pv 3) pa_nil))))))
      (pss_one (ps_ret (pe_revL (pv 2)))))), ?_⟩
    refine x_start (σ' := [some (.ref D), some (.int v), none, none]) rfl ?_
    try dsimp only [cxOf]
    obtain ⟨vs, hD, hV⟩ := hT
    repeat walk_at "rd"
    rename_i Z nZ
    refine ⟨fun m σ H1 => ∃ (v' : Nat) (l1 l2 : List Nat) (y3 : Option V), σ = [some (.ref D), some (.int v'), some (.ref Z), y3] ∧ PathTo T v' l1 ∧ l = l1 ++ l2 ∧ m = l1.length ∧ H1 Z = some (.lst (natV l2.reverse)) ∧ Kx [] H H1,
      ⟨_, v, l, [], none, rfl, hp, by simp, rfl, upd_same, (Kx.refl [] H).new nZ⟩, ?_⟩
    rintro m σ H1 ⟨v', l1, l2, y3, rfl, hp1, hl1, rfl, hZ, k1⟩
    obtain ⟨e, he⟩ : ∃ e, T[v']? = some e := by
      cases hp1 with
      | root h => exact ⟨_, h⟩
      | step h _ => exact ⟨_, h⟩
    obtain ⟨x, hx, hE⟩ := hV.at_ v' e he
    have hD1 := k1.sqT (by simp) hD
    have hE1 := hE.keep (Kt.of0 k1)
    have hat : atI vs (v' : Int) = some x := atI_nat hx
    repeat walk_at "rd"
    rename_i t nt
    refine x_neU (hE1.keep ((Kt.refl H1).new nt)) (SqT.of upd_same) ?_
    have k2 : Kx [] H1 (upd H1 t (.tup [])) := (Kx.refl [] H1).new nt
    generalize (upd H1 t (.tup [])) = H2 at *
    have hD2 := k2.sqT (by simp) hD1
    have hZ2 := k2 Z _ (by simp) hZ
    have hE2 := hE1.keep (Kt.of0 k2)
    have k3 := k1.trans k2
    cases hp1 with
    | root h =>
      cases (he.symm.trans h)
      repeat walk_at "rd"
      refine iteN (by simp) ?_
      repeat walk_at "rd"
      refine x_revR (SqL.of hZ2) fun p np => ?_
      refine k p _ (k3.fresh (by simp) np) (k3.new np) ?_
      rw [upd_same, hl1, List.nil_append]
      unfold natV
      rw [← List.map_reverse, List.reverse_reverse]
    | step h hp2 =>
      rename_i p s l0
      cases (he.symm.trans h)
      cases hE2 with
      | par hq =>
        rename_i a
        repeat walk_at "rd"
        refine iteP (by simp) (x_turn ?_)
        repeat walk_at "rd"
        refine ⟨ty_list (SqL.of hZ2), ?_⟩
        have hll : (natV l2.reverse).length < sizeLine := small1000 (by
          rw [natV_len, List.length_reverse]
          have := congrArg List.length hl1
          rw [List.length_append] at this
          omega)
        repeat walk_at "rd"
        refine ⟨_, by rw [List.length_append]; exact Nat.lt_succ_self _, p, l0, s :: l2, _, rfl, hp2, by rw [hl1, List.append_assoc]; rfl, rfl, ?_, k3.wr (.inl ?_)⟩
        · rw [upd_same, List.reverse_cons]
          unfold natV
          rw [List.map_append]
          rfl
        · exact nZ

def nodesL (T : List Ent) (n : Nat) : List Nat := (List.range n).filter fun v => decide (∃ e ∈ T[v]?, e ≠ none)
theorem nodesL_mem {T : List Ent} {n v : Nat} : v ∈ nodesL T n ↔ v < n ∧ Liv T v := by
  unfold nodesL
  rw [List.mem_filter, List.mem_range, decide_eq_true_eq]
  constructor
  · rintro ⟨h1, e, he, hn⟩
    cases e with
    | none => exact absurd rfl hn
    | some e => exact ⟨h1, e, he⟩
  · rintro ⟨h1, e, he⟩
    exact ⟨h1, some e, he, by simp⟩
theorem nodesL_succ (T : List Ent) (n : Nat) : nodesL T (n + 1) = nodesL T n ++ (if ∃ e ∈ T[n]?, e ≠ none then [n] else []) := by
  unfold nodesL
  rw [List.range_succ, List.filter_append]
  by_cases e : ∃ e ∈ T[n]?, e ≠ none
  · simp only [List.filter, decide_eq_true e, if_pos e]
  · simp only [List.filter, decide_eq_false e, if_neg e]
theorem nodesL_len (T : List Ent) (n : Nat) : (nodesL T n).length ≤ n := by
  unfold nodesL
  have := List.length_filter_le (fun v => decide (∃ e ∈ T[v]?, e ≠ none)) (List.range n)
  rwa [List.length_range] at this
def spNodes (K : PySem.W.Frag) : Sp := fun vs H Q _ => ∃ (D : Addr) (T : List Ent), vs = [.ref D] ∧ TreeAt K H D T ∧ T.length ≤ 40 ∧
  ∀ p H', H p = none → Kx [] H H' → H' p = some (.lst (natV (nodesL T T.length))) → Q (.ref p) H'
theorem ok_nodesIn {f : Addr} {fd : FuncData} (F : Fun K "_nodes_in" "_nodes_in" sNodesIn f fd) (T : Txt mg) : FnOk P w K mg base CX0 1 f fd ["tree"] (spNodes K) := by
  refine F.ok scNodesIn (fun vs H Q E h => ?_) (fun cdv A outer s H vs Q E hr h => ?_)
  · obtain ⟨D, T, rfl, _⟩ := h
    rfl
  · obtain ⟨D, Tr, rfl, hT, h40, k⟩ := h
    refine ⟨_, (pss_one (ps_ret (pe_lc (own := [("node", 1), ("entry", 2)]) rfl scNodesIn.nd (pi_enumT (by rfl) T.b_enumerate (pa_cons (pv 0) pa_nil)) (blkOk_by (N := ["tree", "node", "entry"]) (sc := defScope sNodesIn) (by decide +kernel)) (fun _ _ _ _ _ => (pg_tupK (K := K) (n := 2) rfl rfl (pgs_cons (pg_name (i := 1) scNodesIn.nd rfl (Or.inl rfl)) (pgs_cons (pg_name (i := 2) scNodesIn.nd rfl (Or.inl rfl)) pgs_nil)))) (fun _ _ _ _ _ => (pts_one (pt_cmpR op_notN1 (pv 2) pe_non (nomark _)))) (fun _ _ _ _ _ => (pv 1))))), ?_⟩
    refine x_start (σ' := [some (.ref D), none, none]) rfl ?_
    try dsimp only [cxOf]
    obtain ⟨vs, hD, hV⟩ := id hT
    repeat walk_at "rd"
    refine y_lcET (xs := vs) hD (fun Z nZ => ⟨fun i H1 => Kx [] H H1 ∧ H1 Z = some (.lst (natV (nodesL Tr i))), ⟨(Kx.refl [] H).new nZ, upd_same⟩, ?_, ?_, ?_⟩)
    · rintro i H1 hi ⟨k1, _⟩
      exact k1.sqT (by simp) hD
    · rintro i x H1 H1' hi ⟨k1, hZ⟩ ⟨t, x1, x2, rfl, nt, rfl, h1, h2⟩
      cases Option.some.inj h1
      rw [hV.len] at hi
      obtain ⟨e, hTi, hE⟩ := hent hV k1 h2
      have k2 : Kx [] H (upd H1 t (.tup [.int (i : Nat), x2])) := k1.new nt
      have hZ2 := lk_ne (o := .tup [.int (i : Nat), x2]) hZ nt
      have ht2 : upd H1 t (.tup [.int (i : Nat), x2]) t = some (.tup [.int (i : Nat), x2]) := upd_same
      generalize upd H1 t (.tup [.int (i : Nat), x2]) = H2 at *
      have es := nodesL_succ Tr i
      rw [hTi] at es
      have hZl : (natV (nodesL Tr i)).length < sizeLine := small1000 (by rw [natV_len]; have := nodesL_len Tr i; omega)
      repeat walk_at "rd"
      refine ⟨rfl, ?_⟩
      repeat walk_at "rd"
      cases e with
      | none =>
        cases hE
        refine iteN (by simp) ⟨k2, ?_⟩
        rw [es, if_neg (by simp), List.append_nil]
        exact hZ2
      | some e =>
        have hx : x2 ≠ .non := by
          cases hE <;> simp
        refine iteP (by simp [hx]) ?_
        repeat walk_at "rd"
        refine ⟨_, hZ2, hZl, k2.wr (.inl nZ), ?_⟩
        rw [upd_same, es, if_pos ⟨some e, rfl, by simp⟩]
        unfold natV
        rw [List.map_append]
        rfl
    · rintro H1 ⟨k1, hZ⟩
      rw [hV.len] at hZ
      repeat walk_at "rd"
      exact k Z H1 nZ k1 hZ

theorem stt_len (c : Nat) (l : List Nat) : (stt c l).1.length + 2 * (stt c l).2.length ≤ 2 * l.length := by
  rcases List.eq_nil_or_concat l with rfl | ⟨m, s, rfl⟩
  · exact Nat.le_refl _
  · rw [List.concat_eq_append, stt_snoc, List.length_append, List.length_singleton]
    have ih := stt_len c m
    unfold stp
    split
    · simp only [List.length_append, List.length_cons, List.length_map, List.length_nil]
      omega
    · simp only [List.length_append, List.length_cons, List.length_nil]
      omega
termination_by l.length
decreasing_by
  rename_i h
  rw [h, List.concat_eq_append, List.length_append]
  exact Nat.lt_succ_self _
theorem x_extend {H : Hp} {Q : VK} {a b : Addr} {xs zs : List V} (h : H a = some (.lst xs)) (h2 : H b = some (.lst zs)) (z : xs.length + zs.length ≤ sizeLine) (q : Q .non (upd H a (.lst (xs ++ zs)))) : rExtend (.ref a) [.ref b] H Q := ⟨a, b, xs, zs, rfl, rfl, h, h2, z, q⟩
def spRank (K : PySem.W.Frag) : Sp := fun vs H Q _ => ∃ (D : Addr) (T : List Ent) (dep : Nat → Nat) (v c : Nat), vs = [.ref D, .int v, .int c] ∧ TreeAt K H D T ∧ TW T dep ∧ Liv T v ∧
  ∀ p H', H p = none → Kx [] H H' → H' p = some (.lst ((rk T c v).map V.int)) → (rk T c v).length ≤ 100 → Q (.ref p) H'
theorem ok_rank {f : Addr} {fd : FuncData} (F : Fun K "_node_rank" "_node_rank" sNodeRank f fd) (T : Txt mg) (l_slots_to : Lo P w K mg base "_slots_to" 1 ["tree", "node"] (spSlotsTo K)) : FnOk P w K mg base CX0 2 f fd ["tree", "node", "limit"] (spRank K) := by
  refine F.ok scNodeRank (fun vs H Q E h => ?_) (fun cdv A outer s H vs Q E hr h => ?_)
  · obtain ⟨D, T, dep, v, c, rfl, _⟩ := h
    rfl
  · obtain ⟨D, Tr, dep, v, c, rfl, hT, wT, hv, k⟩ := h
    refine ⟨_, (pss_cons (ps_set (i := 3) scNodeRank.nd rfl (Or.inl rfl) (pe_lst pa_nil))
      (pss_cons (ps_set (i := 4) scNodeRank.nd rfl (Or.inl rfl) (pe_lst pa_nil))
      (pss_cons (ps_for PassesOwn.never rfl (pi_list (pe_lo l_slots_to (hr.mono (by decide)) (by rfl) (pa_cons (pv 0) (pa_cons (pv 1) pa_nil)))) (pg_name (i := 5) scNodeRank.nd rfl (Or.inl rfl))
      (pss_cons (ps_expr (pe_bm PySem.F.plainAttrs_list PySem.F.slot_list_append PySem.F.type_list_append mt_append (pv 4) (pa_cons (pv 5) pa_nil)))
      (pss_one (ps_if (pt_cmpR op_ge (pe_callB call_len_seq (by rfl) T.b_len boot'_len (pa_cons (pv 4) pa_nil)) (pv 2) (nomark _)) (pss_cons (ps_expr (pe_bm PySem.F.plainAttrs_list PySem.F.slot_list_extend PySem.F.type_list_extend mt_extend (pv 3) (pa_cons (pe_op op_cat (pe_lst (pa_cons pe_int pa_nil)) (pe_lc (own := [("number", 6)]) rfl scNodeRank.nd (pi_list (pv 4)) (blkOk_by (N := ["tree", "node", "limit", "rank", "piece", "slot", "number"]) (sc := defScope sNodeRank) (by decide +kernel)) (fun _ _ _ _ _ => (pg_name (i := 6) scNodeRank.nd rfl (Or.inl rfl))) (fun _ _ _ _ _ => pts_nil) (fun _ _ _ _ _ => (pe_op op_mul (pe_un un_neg pe_int) (pv 6))))) pa_nil)))
      (pss_one (ps_set (i := 4) scNodeRank.nd rfl (Or.inl rfl) (pe_lst pa_nil)))) pss_nil))))
      (pss_one (ps_ret (pe_op op_cat (pe_op op_cat (pv 3) (pe_lst (pa_cons pe_int pa_nil))) (pe_lc (own := [("number", 6)]) rfl scNodeRank.nd (pi_list (pv 4)) (blkOk_by (N := ["tree", "node", "limit", "rank", "piece", "slot", "number"]) (sc := defScope sNodeRank) (by decide +kernel)) (fun _ _ _ _ _ => (pg_name (i := 6) scNodeRank.nd rfl (Or.inl rfl))) (fun _ _ _ _ _ => pts_nil) (fun _ _ _ _ _ => (pe_op op_mul pe_int (pv 6)))))))))), ?_⟩
    refine x_start (σ' := [some (.ref D), some (.int v), some (.int c), none, none, none, none]) rfl ?_
    try dsimp only [cxOf]
    obtain ⟨l, hl1, hl2⟩ := wT.path _ v rfl hv
    obtain ⟨e, he⟩ := hv
    have hlim := wT.lim v e he
    have h40 := wT.most
    have hpa := pa_of hl1
    repeat walk_at "rd"
    rename_i R nR P0 nP
    have nRP : R ≠ P0 := ne_of_none upd_same nP
    have eP : upd (upd H R (.lst [])) P0 (.lst []) P0 = some (.lst []) := upd_same
    have eR : upd (upd H R (.lst [])) P0 (.lst []) R = some (.lst []) := lk_ne2 nRP upd_same
    have k1 : Kx [] H (upd (upd H R (.lst [])) P0 (.lst [])) := ((Kx.refl [] H).new nR).new nP
    have nP0 : H P0 = none := ((Kx.refl [] H).new nR).fresh (by simp) nP
    generalize upd (upd H R (.lst [])) P0 (.lst []) = H1 at *
    clear nP
    refine ⟨D, Tr, v, l, rfl, hT.keep (Kt.of0 k1), hl1, by omega, fun Z H2 nZ k2 hZ => ?_⟩
    have k12 := k1.trans k2
    have nZR : Z ≠ R := (ne_of_none eR nZ).symm
    repeat walk_at "rd"
    refine y_forL (xs := natV l) (SqL.of hZ) ⟨fun i σ H3 => ∃ (P1 : Addr) (y5 y6 : Option V), σ = [some (.ref D), some (.int v), some (.int c), some (.ref R), some (.ref P1), y5, y6] ∧ Kx [] H H3 ∧ H3 R = some (.lst ((stt c (l.take i)).1.map V.int)) ∧ H3 P1 = some (.lst (natV (stt c (l.take i)).2)) ∧ H P1 = none ∧ P1 ≠ R ∧ H3 Z = some (.lst (natV l)) ∧ P1 ≠ Z,
      ⟨P0, none, none, rfl, k12, k2 R _ (by simp) eR, k2 P0 _ (by simp) eP, nP0, nRP.symm, hZ, fun e => (by rw [← e, eP] at nZ; cases nZ)⟩, ?_, ?_, ?_⟩
    · rintro i σ H3 hi ⟨P1, y5, y6, rfl, k3, eR3, eP3, nP1, nPR, eZ3, nPZ⟩
      exact SqL.of eZ3
    · rintro i x σ H3 H3' hi ⟨P1, y5, y6, rfl, k3, eR3, eP3, nP1, nPR, eZ3, nPZ⟩ ⟨rfl, hx⟩
      rw [natV_len] at hi
      have hli := List.getElem?_eq_getElem hi
      have hx2 : (natV l)[i]? = some x := hx
      rw [natV_get hli] at hx2
      cases Option.some.inj hx2
      have ht : l.take (i + 1) = l.take i ++ [l[i]] := by rw [List.take_add_one, hli]; rfl
      have hs := stt_snoc c (l.take i) l[i]
      rw [← ht] at hs
      have hsl := stt_len c (l.take i)
      rw [List.length_take, Nat.min_eq_left (Nat.le_of_lt hi)] at hsl
      generalize l[i] = sl at *
      have nR0 : H R = none := nR
      have nZ0 : H Z = none := k1.fresh (by simp) nZ
      generalize stt c (l.take i) = S at *
      obtain ⟨X, p⟩ := S
      have hsl : X.length + 2 * p.length ≤ 2 * i := hsl
      have eR3 : H3' R = some (.lst (X.map V.int)) := eR3
      have eP3 : H3' P1 = some (.lst (natV p)) := eP3
      have hzp : (natV p).length < sizeLine := small1000 (by rw [natV_len]; omega)
      repeat walk_at "rd"
      refine ⟨ty_list (SqL.of eP3), ?_⟩
      repeat walk_at "rd"
      have nat1 : natV p ++ [V.int (sl : Int)] = natV (p ++ [sl]) := by
        unfold natV
        rw [List.map_append]
        rfl
      rw [nat1, natV_len, List.length_append, List.length_singleton]
      have k4 := k3.wr (o := .lst (natV (p ++ [sl]))) (.inl nP1)
      have eR4 := lk_ne2 (o := .lst (natV (p ++ [sl]))) nPR.symm eR3
      have eZ4 := lk_ne2 (o := .lst (natV (p ++ [sl]))) nPZ.symm eZ3
      have eP4 : upd H3' P1 (.lst (natV (p ++ [sl]))) P1 = some (.lst (natV (p ++ [sl]))) := upd_same
      generalize upd H3' P1 (.lst (natV (p ++ [sl]))) = H4 at *
      by_cases hc : c ≤ p.length + 1
      · have hst : stp c (X, p) sl = (X ++ 1 :: negI (p ++ [sl]), []) := by
          unfold stp
          rw [if_pos hc]
        rw [hst] at hs
        refine iteP (decide_eq_true (by omega)) ?_
        repeat walk_at "rd"
        refine ⟨ty_list (SqL.of eR4), ?_⟩
        repeat walk_at "rd"
        rename_i A nA
        have nAR : A ≠ R := (ne_of_none eR4 nA).symm
        have nA0 : H A = none := k4.fresh (by simp) nA
        have k5 := k4.new (o := .lst [V.int 1]) nA
        have eR5 := lk_ne (o := .lst [V.int 1]) eR4 nA
        have eZ5 := lk_ne (o := .lst [V.int 1]) eZ4 nA
        have eP5 := lk_ne (o := .lst [V.int 1]) eP4 nA
        have eA5 : upd H4 A (.lst [V.int 1]) A = some (.lst [V.int 1]) := upd_same
        generalize upd H4 A (.lst [V.int 1]) = H5 at *
        refine y_lcL (xs := natV (p ++ [sl])) (SqL.of eP5) (fun B nB => ⟨fun j H6 => Kx [] H5 H6 ∧ H6 B = some (.lst ((negI ((p ++ [sl]).take j)).map V.int)), ⟨(Kx.refl [] H5).new nB, upd_same⟩, ?_, ?_, ?_⟩)
        · rintro j H6 hj ⟨k6, _⟩
          exact k6.sqL (by simp) (SqL.of eP5)
        · rintro j x H6 H6' hj ⟨k6, eB⟩ ⟨rfl, hx⟩
          rw [natV_len] at hj
          have hxj : (natV (p ++ [sl]))[j]? = some x := hx
          rw [natV_get (List.getElem?_eq_getElem hj)] at hxj
          cases Option.some.inj hxj
          have htj : (p ++ [sl]).take (j + 1) = (p ++ [sl]).take j ++ [(p ++ [sl])[j]] := by rw [List.take_add_one, List.getElem?_eq_getElem hj]; rfl
          rw [List.length_append, List.length_singleton] at hj
          generalize (p ++ [sl])[j] = q at *
          have hzb : ((negI ((p ++ [sl]).take j)).map V.int).length < sizeLine := small1000 (by rw [List.length_map, List.length_map, List.length_take, List.length_append, List.length_singleton]; omega)
          repeat walk_at "rd"
          refine ⟨rfl, ?_⟩
          repeat walk_at "rd"
          refine ⟨_, eB, hzb, k6.wr (.inl nB), ?_⟩
          rw [upd_same, htj]
          simp [negI]
        rintro H6 ⟨k6, eB⟩
        rw [natV_len, List.take_length] at eB
        have nB0 : H B = none := k5.fresh (by simp) nB
        have nBR : B ≠ R := (ne_of_none eR5 nB).symm
        refine x_catL (k6 A _ (by simp) eA5) eB (Nat.le_of_lt (small1000 (by simp only [List.length_map, List.length_append, List.length_singleton]; omega))) fun C nC => ?_
        have k7 := (k5.trans k6).new (o := .lst ([V.int 1] ++ (negI (p ++ [sl])).map V.int)) nC
        have eR7 := lk_ne (o := .lst ([V.int 1] ++ (negI (p ++ [sl])).map V.int)) (k6 R _ (by simp) eR5) nC
        have eZ7 := lk_ne (o := .lst ([V.int 1] ++ (negI (p ++ [sl])).map V.int)) (k6 Z _ (by simp) eZ5) nC
        have eC7 : upd H6 C (.lst ([V.int 1] ++ (negI (p ++ [sl])).map V.int)) C = some (.lst ([V.int 1] ++ (negI (p ++ [sl])).map V.int)) := upd_same
        generalize upd H6 C (.lst ([V.int 1] ++ (negI (p ++ [sl])).map V.int)) = H7 at *
        repeat walk_at "rd"
        refine x_extend eR7 eC7 (Nat.le_of_lt (small1000 (by simp only [List.length_map, List.length_append, List.length_singleton]; omega))) ?_
        repeat walk_at "rd"
        rename_i E1 nE
        have k8 := k7.wr (o := .lst (X.map V.int ++ ([V.int 1] ++ (negI (p ++ [sl])).map V.int))) (.inl nR0)
        have eZ8 := lk_ne2 (o := .lst (X.map V.int ++ ([V.int 1] ++ (negI (p ++ [sl])).map V.int))) nZR eZ7
        have nER : E1 ≠ R := (ne_of_none upd_same nE).symm
        have nEZ : E1 ≠ Z := (ne_of_none eZ8 nE).symm
        refine ⟨E1, _, _, rfl, k8.new nE, ?_, ?_, k8.fresh (by simp) nE, nER, lk_ne eZ8 nE, nEZ⟩
        · rw [upd_ne nER.symm, upd_same, hs]
          simp
        · rw [upd_same, hs]
          rfl
      · have hst : stp c (X, p) sl = (X, p ++ [sl]) := by
          unfold stp
          rw [if_neg hc]
        rw [hst] at hs
        refine iteN (decide_eq_false (by omega)) ?_
        repeat walk_at "rd"
        exact ⟨P1, _, _, rfl, k4, by rw [hs]; exact eR4, by rw [hs]; exact eP4, nP1, nPR, eZ4, nPZ⟩
    · rintro σ H3 ⟨P1, y5, y6, rfl, k3, eR3, eP3, nP1, nPR, eZ3, nPZ⟩
      rw [natV_len, List.take_length] at eR3 eP3
      have hsl := stt_len c l
      have hrk : rk Tr c v = (stt c l).1 ++ 0 :: posI (stt c l).2 := by
        show rkL c (pa Tr v) = _
        rw [hpa]
        rfl
      generalize stt c l = S at *
      obtain ⟨X, p⟩ := S
      have hsl : X.length + 2 * p.length ≤ 2 * l.length := hsl
      have hrk : rk Tr c v = X ++ 0 :: posI p := hrk
      have eR3 : H3 R = some (.lst (X.map V.int)) := eR3
      have eP3 : H3 P1 = some (.lst (natV p)) := eP3
      repeat walk_at "rd"
      rename_i A nA
      refine x_catL (lk_ne eR3 nA) upd_same (Nat.le_of_lt (small1000 (by simp only [List.length_map, List.length_cons, List.length_nil]; omega))) fun C nC => ?_
      have k4 := (k3.new (o := .lst [V.int 0]) nA).new (o := .lst (X.map V.int ++ [V.int 0])) nC
      have eP4 := lk_ne (o := .lst (X.map V.int ++ [V.int 0])) (lk_ne (o := .lst [V.int 0]) eP3 nA) nC
      have eC4 : upd (upd H3 A (.lst [V.int 0])) C (.lst (X.map V.int ++ [V.int 0])) C = some (.lst (X.map V.int ++ [V.int 0])) := upd_same
      generalize upd (upd H3 A (.lst [V.int 0])) C (.lst (X.map V.int ++ [V.int 0])) = H4 at *
      clear nA nC
      repeat walk_at "rd"
      refine y_lcL (xs := natV p) (SqL.of eP4) (fun B nB => ⟨fun j H6 => Kx [] H4 H6 ∧ H6 B = some (.lst ((posI (p.take j)).map V.int)), ⟨(Kx.refl [] H4).new nB, upd_same⟩, ?_, ?_, ?_⟩)
      · rintro j H6 hj ⟨k6, _⟩
        exact k6.sqL (by simp) (SqL.of eP4)
      · rintro j x H6 H6' hj ⟨k6, eB⟩ ⟨rfl, hx⟩
        rw [natV_len] at hj
        have hxj : (natV p)[j]? = some x := hx
        rw [natV_get (List.getElem?_eq_getElem hj)] at hxj
        cases Option.some.inj hxj
        have htj : p.take (j + 1) = p.take j ++ [p[j]] := by rw [List.take_add_one, List.getElem?_eq_getElem hj]; rfl
        generalize p[j] = q at *
        have hzb : ((posI (p.take j)).map V.int).length < sizeLine := small1000 (by rw [List.length_map, List.length_map, List.length_take]; omega)
        repeat walk_at "rd"
        refine ⟨rfl, ?_⟩
        repeat walk_at "rd"
        refine ⟨_, eB, hzb, k6.wr (.inl nB), ?_⟩
        rw [upd_same, htj]
        simp [posI]
      rintro H6 ⟨k6, eB⟩
      rw [natV_len, List.take_length] at eB
      refine x_catL (k6 C _ (by simp) eC4) eB (Nat.le_of_lt (small1000 (by simp only [List.length_map, List.length_append, List.length_cons, List.length_nil]; omega))) fun G nG => ?_
      refine k G _ ((k4.trans k6).fresh (by simp) nG) ((k4.trans k6).new nG) ?_ ?_
      · rw [upd_same, hrk]
        simp
      · rw [hrk]
        simp only [List.length_map, List.length_append, List.length_cons]
        omega
end


section
variable {P : Program} {w : World} {K : PySem.W.Frag} {mg : Str → Option Value} {base : Heap}

def spLimit : Sp := fun vs H Q _ => ∃ (p c : Addr) (n M : Nat), vs = [.ref p, .int M] ∧ PenAt H p c n ∧ 1 ≤ M ∧ M ≤ 1000 ∧ n ≤ 900000 ∧
  ∀ (z : Nat) H', 1 ≤ z → z ≤ 10 ^ 30 → Kx [p] H H' → PenAt H' p c (n + 3) → Q (.int z) H'
theorem ok_limit {f : Addr} {fd : FuncData} (F : Fun K "_law_limit" "_law_limit" sQLimit f fd) (T : Txt mg) (l_law_draw : Lo P w K mg base "_law_draw" 1 ["_law_pen_here", "_law_bound"] spDraw) :
    FnOk P w K mg base CX0 2 f fd ["_law_pen_here", "_law_size_here"] spLimit := by
  refine F.ok scQLimit (fun vs H Q E h => ?_) (fun cdv A outer s H vs Q E hr h => ?_)
  · obtain ⟨p, c, n, N, rfl, _⟩ := h
    rfl
  · obtain ⟨p, c, n, M, rfl, hpen, hM0, hM, hn, k⟩ := h
    refine ⟨_, (pss_cons (ps_set (i := 2) scQLimit.nd rfl (Or.inl rfl) (pe_lst (pa_cons pe_int (pa_cons pe_int (pa_cons pe_int (pa_cons (pe_op op_add pe_int (pe_lo l_law_draw (hr.mono (by decide)) (by rfl) (pa_cons (pv 0) (pa_cons (pv 1) pa_nil)))) (pa_cons (pv 1) (pa_cons (pe_op op_add (pe_op op_add (pv 1) pe_int) (pe_lo l_law_draw (hr.mono (by decide)) (by rfl) (pa_cons (pv 0) (pa_cons pe_int pa_nil)))) (pa_cons (pe_op op_pow pe_int pe_int) (pa_cons (pe_op op_sub (pe_op op_pow pe_int pe_int) (pv 1)) pa_nil))))))))))
      (pss_one (ps_ret (pe_ix ix_list (pv 2) (pe_lo l_law_draw (hr.mono (by decide)) (by rfl) (pa_cons (pv 0) (pa_cons pe_int pa_nil))) (fun _ _ => rfl))))), ?_⟩
    refine x_start (σ' := [some (.ref p), some (.int M), none]) rfl ?_
    try dsimp only [cxOf]
    repeat walk_at "rd"
    refine x_draw hpen (by omega) (by omega) (by omega) fun a0 H0 a0l a0h k0 P0 => ?_
    repeat walk_at "rd"
    refine x_draw P0 (by omega) (by omega) (by omega) fun a1 H1 a1l a1h k1 P1 => ?_
    replace k1 := k0.trans k1
    repeat walk_at "rd"
    rename_i q nq
    have P2 := P1.keep ((Kx.refl [] H1).new (o := .lst [V.int 1, V.int 2, V.int 3, V.int (1 + a0), V.int M, V.int (M + 1 + a1), V.int (10 ^ (30 : Int).toNat), V.int (10 ^ (30 : Int).toNat - M)]) nq) (by simp) (by simp) (Nat.le_refl _)
    have nqp : q ≠ p := by
      obtain ⟨⟨o, ho⟩, _⟩ := P1.some
      exact (ne_of_none ho nq).symm
    refine x_draw P2 (by omega) (by omega) (by omega) fun a2 H2 a2l a2h k2 P3 => ?_
    have hq2 : H2 q = some (.lst [V.int 1, V.int 2, V.int 3, V.int (1 + a0), V.int M, V.int (M + 1 + a1), V.int (10 ^ (30 : Int).toNat), V.int (10 ^ (30 : Int).toNat - M)]) := k2 q _ (by simpa using nqp) upd_same
    have h30 : (10 : Int) ^ (30 : Int).toNat = 1000000000000000000000000000000 := by decide
    rw [h30] at hq2
    obtain ⟨z, hz, _, hat⟩ := at_i (zs := [1, 2, 3, 1 + a0, (M : Int), M + 1 + a1, 1000000000000000000000000000000, 1000000000000000000000000000000 - M]) a2l (by simpa using a2h)
    simp only [List.map_cons, List.map_nil] at hat
    simp only [List.mem_cons, List.not_mem_nil, or_false] at hz
    repeat walk_at "rd"
    have e : z = ((z.toNat : Nat) : Int) := by omega
    rw [e]
    refine k z.toNat _ (by omega) ?_ ((k1.new nq).trans k2) P3
    have h30n : (10 : Nat) ^ 30 = 1000000000000000000000000000000 := by decide
    rw [h30n]
    omega
end


section
variable {P : Program} {w : World} {K : PySem.W.Frag} {mg : Str → Option Value} {base : Heap}

def spIsIntD (K : PySem.W.Frag) : Sp := fun vs H Q _ => ∃ (v : V) (d : PyData), vs = [v] ∧ Dp K H v d ∧ Q (.bl (isI d)) H
theorem ok_isIntD {f : Addr} {fd : FuncData} (F : Fun K "is_integer" "is_integer" sIsInteger f fd) (T : Txt mg) : FnOk P w K mg base CX0 1 f fd ["value"] (spIsIntD K) := by
  refine F.ok scIsInteger (fun vs H Q E h => ?_) (fun cdv A outer s H vs Q E hr h => ?_)
  · obtain ⟨v, d, rfl, _⟩ := h
    rfl
  · obtain ⟨v, d, rfl, hd, k⟩ := h
    refine ⟨_, (pss_one (ps_ret (pe_and (pe_callB call_isi (by rfl) T.b_isinstance boot'_isinstance (pa_cons (pv 0) (pa_cons (pe_bltn (v := .ty "int") (by rfl) T.b_int boot'_int rfl) pa_nil))) (pe_one (pe_not (pe_callB call_isi (by rfl) T.b_isinstance boot'_isinstance (pa_cons (pv 0) (pa_cons (pe_bltn (v := .ty "bool") (by rfl) T.b_bool boot'_bool rfl) pa_nil)))))))), ?_⟩
    refine x_start (σ' := [some v]) rfl ?_
    try dsimp only [cxOf]
    have hd' := hd
    cases hd' <;>
    (repeat walk_at "rd"
     first
      | exact k
      | (refine x_isiDI hd ?_
         dsimp only [isIB, isI] at k ⊢
         repeat walk_at "rd"
         first
          | exact k
          | (refine x_isiDB hd ?_
             dsimp only [isB]
             repeat walk_at "rd"
             exact k)))
theorem inV_nat {z : Int} (ns : List Nat) : inV (.int z) (natV ns) = decide (z ∈ ns.map fun (n : Nat) => (n : Int)) := by
  have h := in_int (n := z) (ns.map fun (n : Nat) => (n : Int))
  rw [List.map_map] at h
  exact h
def spNeedN (K : PySem.W.Frag) : Sp := fun vs H Q _ => ∃ (a : Addr) (ns : List Nat) (v : Nat), vs = [.ref a, .int v] ∧ SqL K H a (natV ns) ∧ v ∈ ns ∧ Q .non H
theorem ok_needN {f : Addr} {fd : FuncData} (F : Fun K "need_freed" "need_freed" sNeedFreed f fd) (T : Txt mg) (l_is_integer : Lo P w K mg base "is_integer" 1 ["value"] (spIsIntD K)) : FnOk P w K mg base CX0 2 f fd ["freed", "value"] (spNeedN K) := by
  refine F.ok scNeedFreed (fun vs H Q E h => ?_) (fun cdv A outer s H vs Q E hr h => ?_)
  · obtain ⟨a, ns, v, rfl, _⟩ := h
    rfl
  · obtain ⟨a, ns, v, rfl, ha, hv, k⟩ := h
    refine ⟨_, (pss_one (ps_if ((pw_or (pt_not (pt_val (pe_lo l_is_integer (hr.mono (by decide)) (by rfl) (pa_cons (pv 1) pa_nil)))) (pw_or1 (pt_cmpR op_notIn_seq (pv 1) (pv 0) (by with_unfolding_all rfl))))).pt (pss_one ps_never) pss_nil)), ?_⟩
    refine x_start (σ' := [some (.ref a), some (.int v)]) rfl ?_
    try dsimp only [cxOf]
    repeat walk_at "rd"
    refine ⟨_, _, rfl, .int _, ?_⟩
    dsimp only [isI]
    repeat walk_at "rd"
    refine iteN (by decide) ?_
    repeat walk_at "rd"
    have ns' : (natV ns).all flatV = true := by
      unfold natV
      rw [List.all_map]
      exact List.all_eq_true.mpr fun _ _ => rfl
    refine x_notInL ha rfl ns' ?_
    rw [inV_nat, decide_eq_true (List.mem_map.mpr ⟨v, hv, rfl⟩)]
    repeat walk_at "rd"
    exact k
/-- a freed node passes; what is none is refused -/
def spNeed (K : PySem.W.Frag) (C : Addr) : Sp := fun vs H Q E => ∃ (a : Addr) (ns : List Nat) (v : V) (d : PyData), vs = [.ref a, v] ∧ SqL K H a (natV ns) ∧ Dp K H v d ∧ ((∃ n : Nat, d = .int n ∧ n ∈ ns ∧ Q .non H) ∨
  ((∀ z, d = .int z → ∀ n ∈ ns, z ≠ (n : Int)) ∧ ∀ dd H', H' dd = some (.xd [("node", v)]) → Kx [] H H' → E (.ref C) (some dd) H'))
theorem ok_need {f C_NotFreed : Addr} {fd : FuncData} (F : Fun K "need_freed" "need_freed" sNeedFreed f fd) (T : Txt mg) (l_is_integer : Lo P w K mg base "is_integer" 1 ["value"] (spIsIntD K))
    (n_NotFreed : LxB P w K mg base "NotFreed" C_NotFreed 1 ["self", "node"] (spI1 C_NotFreed "node") bmLE "LookupError.__new__") : FnOk P w K mg base (L2.CX P w) 3 f fd ["freed", "value"] (spNeed K C_NotFreed) := by
  refine F.okX scNeedFreed (fun vs H Q E h => ?_) (fun cdv A outer s H vs Q E hr h => ?_)
  · obtain ⟨a, ns, v, d, rfl, _⟩ := h
    rfl
  · obtain ⟨a, ns, v, d, rfl, ha, hd, hk⟩ := h
    refine ⟨_, (pss_one (ps_if ((pw_or (pt_not (pt_val (pe_lo l_is_integer (hr.mono (by decide)) (by rfl) (pa_cons (pv 1) pa_nil)))) (pw_or1 (pt_cmpR op_notIn_seq (pv 1) (pv 0) (by with_unfolding_all rfl))))).pt (pss_one (ps_raise rfl (takes_of rfl rfl rfl rfl) (pmk_lx n_NotFreed (hr.mono (by decide)) (by rfl) (pa_cons (pv 1) pa_nil)))) pss_nil)), ?_⟩
    refine x_start (σ' := [some (.ref a), some v]) rfl ?_
    try dsimp only [cxOf]
    repeat walk_at "rd"
    refine ⟨v, d, rfl, hd, ?_⟩
    have ns' : (natV ns).all flatV = true := by
      unfold natV
      rw [List.all_map]
      exact List.all_eq_true.mpr fun _ _ => rfl
    rcases hk with ⟨n, rfl, hn, hq⟩ | ⟨hbad, k⟩
    · cases hd
      dsimp only [isI]
      refine ⟨true, rfl, ?_⟩
      refine iteN (by decide) ?_
      repeat walk_at "rd"
      rw [inV_nat, decide_eq_true (List.mem_map.mpr ⟨n, hn, rfl⟩)]
      repeat walk_at "rd"
      exact hq
    · by_cases hi : isI d = true
      · have : ∃ z, d = .int z := by
          cases d with
          | int z => exact ⟨z, rfl⟩
          | _ => cases hi
        obtain ⟨z, rfl⟩ := this
        cases hd
        dsimp only [isI]
        refine ⟨true, rfl, ?_⟩
        refine iteN (by decide) ?_
        repeat walk_at "rd"
        rw [inV_nat, decide_eq_false (fun h => by obtain ⟨n, hn, e⟩ := List.mem_map.mp h; exact hbad z rfl n hn e.symm)]
        repeat walk_at "rd"
        refine iteP rfl ?_
        refine x_mk ?_
        repeat walk_at "rd"
        exact x_mkE fun dd H' nd e k' => k dd H' e k'
      · rw [Bool.not_eq_true] at hi
        rw [hi]
        refine ⟨false, rfl, ?_⟩
        refine iteP rfl ?_
        refine iteP rfl ?_
        refine x_mk ?_
        repeat walk_at "rd"
        exact x_mkE fun dd H' nd e k' => k dd H' e k'
theorem liv_lt {T : List Ent} {v : Nat} (h : Liv T v) : v < T.length := by
  obtain ⟨e, h⟩ := h
  exact (List.getElem?_eq_some_iff.mp h).1
/-- both are freed -/
def spNB (K : PySem.W.Frag) : Sp := fun vs H Q _ => ∃ (D : Addr) (T : List Ent) (dep : Nat → Nat) (u v c : Nat), vs = [.ref D, .int u, .int v, .int c] ∧ TreeAt K H D T ∧ TW T dep ∧ Liv T u ∧ Liv T v ∧ ∀ H', Kx [] H H' → Q (.bl (decide (rk T c u < rk T c v))) H'
theorem ok_nb {f : Addr} {fd : FuncData} {C : Addr} (F : Fun K "node_before" "node_before" sNodeBefore f fd) (T : Txt mg) (l_nodes_in : Lo P w K mg base "_nodes_in" 1 ["tree"] (spNodes K)) (l_need_freed : Lo P w K mg base "need_freed" 2 ["freed", "value"] (spNeedN K)) (l_node_rank : Lo P w K mg base "_node_rank" 2 ["tree", "node", "limit"] (spRank K)) : FnOk P w K mg base CX0 4 f fd ["tree", "first", "second", "limit"] (spNB K) := by
  refine F.ok scNodeBefore (fun vs H Q E h => ?_) (fun cdv A outer s H vs Q E hr h => ?_)
  · obtain ⟨D, T, dep, u, v, c, rfl, _⟩ := h
    rfl
  · obtain ⟨D, Tr, dep, u, v, c, rfl, hT, wT, hu, hv, k⟩ := h
    refine ⟨_, (pss_cons (ps_set (i := 4) scNodeBefore.nd rfl (Or.inl rfl) (pe_lo l_nodes_in (hr.mono (by decide)) (by rfl) (pa_cons (pv 0) pa_nil)))
      (pss_cons (ps_expr (pe_lo l_need_freed (hr.mono (by decide)) (by rfl) (pa_cons (pv 4) (pa_cons (pv 1) pa_nil))))
      (pss_cons (ps_expr (pe_lo l_need_freed (hr.mono (by decide)) (by rfl) (pa_cons (pv 4) (pa_cons (pv 2) pa_nil))))
      (pss_one (ps_ret (pe_cmpR (op_ltD hr.units) (pe_lo l_node_rank (hr.mono (by decide)) (by rfl) (pa_cons (pv 0) (pa_cons (pv 1) (pa_cons (pv 3) pa_nil)))) (pe_lo l_node_rank (hr.mono (by decide)) (by rfl) (pa_cons (pv 0) (pa_cons (pv 2) (pa_cons (pv 3) pa_nil)))) (nomark _))))))), ?_⟩
    refine x_start (σ' := [some (.ref D), some (.int u), some (.int v), some (.int c), none]) rfl ?_
    try dsimp only [cxOf]
    have h40 := wT.most
    repeat walk_at "rd"
    refine ⟨D, Tr, rfl, hT, h40, fun N H1 nN k1 hN => ?_⟩
    repeat walk_at "rd"
    refine ⟨N, _, u, rfl, SqL.of hN, nodesL_mem.mpr ⟨liv_lt hu, hu⟩, ?_⟩
    repeat walk_at "rd"
    refine ⟨N, _, v, rfl, SqL.of hN, nodesL_mem.mpr ⟨liv_lt hv, hv⟩, ?_⟩
    repeat walk_at "rd"
    refine ⟨D, Tr, dep, u, c, rfl, hT.keep (Kt.of0 k1), wT, hu, fun Z H2 nZ k2 hZ hl => ?_⟩
    replace k2 := k1.trans k2
    repeat walk_at "rd"
    refine ⟨D, Tr, dep, v, c, rfl, hT.keep (Kt.of0 k2), wT, hv, fun Y H3 nY k3 hY hl3 => ?_⟩
    exact x_ltI (SqL.of (k3 Z _ (by simp) hZ)) (SqL.of hY) (k H3 (k2.trans k3))
/-- the data d is no freed node of T -/
def NoLiv (T : List Ent) (d : PyData) : Prop := ∀ z, d = .int z → ∀ v : Nat, Liv T v → z ≠ (v : Int)
def spNBX (K : PySem.W.Frag) (C : Addr) : Sp := fun vs H Q E => ∃ (D : Addr) (T : List Ent) (dep : Nat → Nat) (x y b : V) (d1 d2 : PyData) (c : Nat), vs = [.ref D, x, y, .int c] ∧ TreeAt K H D T ∧ TW T dep ∧ Dp K H x d1 ∧ Dp K H y d2 ∧
  ((NoLiv T d1 ∧ b = x) ∨ ∃ u : Nat, d1 = .int u ∧ Liv T u ∧ NoLiv T d2 ∧ b = y) ∧ ∀ dd H', H' dd = some (.xd [("node", b)]) → Kx [] H H' → E (.ref C) (some dd) H'
theorem ok_nbX {f C_NotFreed : Addr} {fd : FuncData} (F : Fun K "node_before" "node_before" sNodeBefore f fd) (T : Txt mg) (l_nodes_in : Lo P w K mg base "_nodes_in" 1 ["tree"] (spNodes K)) (e_need_freed : LoX P w K mg base "need_freed" 3 ["freed", "value"] (spNeed K C_NotFreed)) (l_node_rank : Lo P w K mg base "_node_rank" 2 ["tree", "node", "limit"] (spRank K)) : FnOk P w K mg base (L2.CX P w) 4 f fd ["tree", "first", "second", "limit"] (spNBX K C_NotFreed) := by
  refine F.okX scNodeBefore (fun vs H Q E h => ?_) (fun cdv A outer s H vs Q E hr h => ?_)
  · obtain ⟨D, T, dep, x, y, b, d1, d2, c, rfl, _⟩ := h
    rfl
  · obtain ⟨D, Tr, dep, x, y, b, d1, d2, c, rfl, hT, wT, h1, h2, hb, k⟩ := h
    refine ⟨_, (pss_cons (ps_set (i := 4) scNodeBefore.nd rfl (Or.inl rfl) (pe_lo l_nodes_in (hr.mono (by decide)) (by rfl) (pa_cons (pv 0) pa_nil)))
      (pss_cons (ps_expr (pe_loX e_need_freed (takes_of rfl rfl rfl rfl) (hr.mono (by decide)) (by rfl) (pa_cons (pv 4) (pa_cons (pv 1) pa_nil))))
      (pss_cons (ps_expr (pe_loX e_need_freed (takes_of rfl rfl rfl rfl) (hr.mono (by decide)) (by rfl) (pa_cons (pv 4) (pa_cons (pv 2) pa_nil))))
      (pss_one (ps_ret (pe_cmpR (op_ltD hr.units) (pe_lo l_node_rank (hr.mono (by decide)) (by rfl) (pa_cons (pv 0) (pa_cons (pv 1) (pa_cons (pv 3) pa_nil)))) (pe_lo l_node_rank (hr.mono (by decide)) (by rfl) (pa_cons (pv 0) (pa_cons (pv 2) (pa_cons (pv 3) pa_nil)))) (nomark _))))))), ?_⟩
    refine x_start (σ' := [some (.ref D), some x, some y, some (.int c), none]) rfl ?_
    try dsimp only [cxOf]
    have h40 := wT.most
    repeat walk_at "rd"
    refine ⟨D, Tr, rfl, hT, h40, fun N H1 nN k1 hN => ?_⟩
    have nl : ∀ {d : PyData}, NoLiv Tr d → ∀ z, d = .int z → ∀ n ∈ nodesL Tr Tr.length, z ≠ (n : Int) := fun h z e n hn => h z e n (nodesL_mem.mp hn).2
    repeat walk_at "rd"
    refine x_cW ?_
    repeat walk_at "rd"
    rcases hb with ⟨hno, rfl⟩ | ⟨u, rfl, hu, hno, rfl⟩
    · exact ⟨N, _, _, d1, rfl, SqL.of hN, dpK k1 h1, .inr ⟨nl hno, fun dd H' e k' => k dd H' e (k1.trans k')⟩⟩
    · refine ⟨N, _, _, _, rfl, SqL.of hN, dpK k1 h1, .inl ⟨u, rfl, nodesL_mem.mpr ⟨liv_lt hu, hu⟩, ?_⟩⟩
      repeat walk_at "rd"
      refine x_cW ?_
      repeat walk_at "rd"
      exact ⟨N, _, _, d2, rfl, SqL.of hN, dpK k1 h2, .inr ⟨nl hno, fun dd H' e k' => k dd H' e (k1.trans k')⟩⟩
theorem ok_iNF {f : Addr} {fd : FuncData} {C : Addr} (F : Fun K "__init__" "NotFreed.__init__" sNotFreedInit f fd) (t : ExB K C bmLE "LookupError.__new__") (hno : PySem.W.takerIn K C "node" = some none) : FnOk P w K mg base CX0 1 f fd ["self", "node"] (spI1 C "node") := by
  refine F.ok scNotFreedInit (fun vs H Q E h => ?_) (fun cdv A outer s H vs Q E hr h => ?_)
  · obtain ⟨a, v, rfl, _⟩ := h
    rfl
  · obtain ⟨a, v, rfl, ha, k⟩ := h
    refine ⟨_, (pss_one (ps_stB exF_LE (pv 0) (pv 1))), ?_⟩
    refine x_start (σ' := [some (.ref a), some v]) rfl ?_
    try dsimp only [cxOf]
    refine ⟨v, rfl, .ref a, rfl, a, C, rfl, t, hno, ha, fun dx hd hne => ?_⟩
    exact k dx hd hne
end


section
variable {P : Program} {w : World} {K : PySem.W.Frag} {mg : Str → Option Value} {base : Heap}

def PairIn (H : Hp) (log : List Nat) (x : V) : Prop := ∃ (q : Addr) (u v : Nat), x = .ref q ∧ H q = some (.tup [.int u, .int v]) ∧ u ∈ log ∧ v ∈ log
theorem PairIn.keep {H H' : Hp} {log : List Nat} {x : V} (h : PairIn H log x) (k : Kt H H') : PairIn H' log x := by
  obtain ⟨q, u, v, rfl, h1, h2⟩ := h
  exact ⟨q, u, v, rfl, k _ _ h1 (by intro xs z; cases z), h2⟩
theorem PenAt.nep {H : Hp} {p c q : Addr} {n : Nat} (h : PenAt H p c n) (nq : H q = none) : q ≠ p := by
  obtain ⟨⟨o, ho⟩, _⟩ := h.some
  exact (ne_of_none ho nq).symm
theorem PenAt.nec {H : Hp} {p c q : Addr} {n : Nat} (h : PenAt H p c n) (nq : H q = none) : q ≠ c := by
  obtain ⟨_, o, ho⟩ := h.some
  exact (ne_of_none ho nq).symm
theorem PenAt.nw {H : Hp} {p c q : Addr} {o : HO} {n m : Nat} (h : PenAt H p c n) (nq : H q = none) (l : n ≤ m) : PenAt (L2.upd H q o) p c m := h.keep ((Kx.refl [] H).new nq) (by simp) (by simp) l
def spPairs (K : PySem.W.Frag) : Sp := fun vs H Q _ => ∃ (p c a : Addr) (n : Nat) (log : List Nat), vs = [.ref p, .ref a] ∧ PenAt H p c n ∧ n ≤ 900000 ∧ H a = some (.lst (natV log)) ∧ a ≠ p ∧ log.length ≤ 40 ∧
  ∀ Z rs H', H Z = none → Kx [p] H H' → H' Z = some (.lst rs) → (∀ x ∈ rs, PairIn H' log x) → rs.length ≤ 100 → PenAt H' p c (n + 160) → Q (.ref Z) H'
theorem ok_pairs {f : Addr} {fd : FuncData} (F : Fun K "_law_pairs" "_law_pairs" sQPairs f fd) (T : Txt mg) (l_law_draw : Lo P w K mg base "_law_draw" 1 ["_law_pen_here", "_law_bound"] spDraw) : FnOk P w K mg base CX0 2 f fd ["_law_pen_here", "_law_nodes"] (spPairs K) := by
  refine F.ok scQPairs (fun vs H Q E h => ?_) (fun cdv A outer s H vs Q E hr h => ?_)
  · obtain ⟨p, c, a, n, log, rfl, _⟩ := h
    rfl
  · obtain ⟨p, c, a, n, log, rfl, hpen, hn, ea, nap, hl, k⟩ := h
    refine ⟨_, (pss_cons (ps_if (pt_cmpR op_lt (pe_callB call_len_seq (by rfl) T.b_len boot'_len (pa_cons (pv 1) pa_nil)) pe_int (nomark _)) (pss_cons (ps_set (i := 2) scQPairs.nd rfl (Or.inl rfl) (pe_lst pa_nil))
      (pss_cons (ps_for PassesOwn.never rfl (pi_list (pv 1)) (pg_name (i := 3) scQPairs.nd rfl (Or.inr rfl))
      (pss_one (ps_expr (pe_bm PySem.F.plainAttrs_list PySem.F.slot_list_extend PySem.F.type_list_extend mt_extend (pv 2) (pa_cons (pe_lc (own := [("_law_other", 5)]) rfl scQPairs.nd (pi_list (pv 1)) (blkOk_by (N := ["_law_pen_here", "_law_nodes", "_law_found", "_law_v", "_law_k", "_law_other"]) (sc := defScope sQPairs) (by decide +kernel)) (fun _ _ _ _ _ => (pg_name (i := 5) scQPairs.nd rfl (Or.inl rfl))) (fun _ _ _ _ _ => pts_nil) (fun _ _ _ _ _ => (pe_tup (pa_cons (pv 3) (pa_cons (pv 5) pa_nil))))) pa_nil)))))
      (pss_one (ps_ret (pv 2))))) pss_nil)
      (pss_one (ps_ret (pe_lc (own := [("_law_k", 4)]) rfl scQPairs.nd (pi_range1 (by rfl) T.b_range (pa_cons pe_int pa_nil)) (blkOk_by (N := ["_law_pen_here", "_law_nodes", "_law_found", "_law_v", "_law_k", "_law_other"]) (sc := defScope sQPairs) (by decide +kernel)) (fun _ _ _ _ _ => (pg_name (i := 4) scQPairs.nd rfl (Or.inl rfl))) (fun _ _ _ _ _ => pts_nil) (fun _ _ _ _ _ => (pe_tup (pa_cons (pe_ix (ix_listK (K := K)) (pv 1) (pe_lo l_law_draw (hr.mono (by decide)) (by rfl) (pa_cons (pv 0) (pa_cons (pe_callB (call_lenK (K := K)) (by rfl) T.b_len boot'_len (pa_cons (pv 1) pa_nil)) pa_nil))) (fun _ _ => rfl)) (pa_cons (pe_ix (ix_listK (K := K)) (pv 1) (pe_lo l_law_draw (hr.mono (by decide)) (by rfl) (pa_cons (pv 0) (pa_cons (pe_callB (call_lenK (K := K)) (by rfl) T.b_len boot'_len (pa_cons (pv 1) pa_nil)) pa_nil))) (fun _ _ => rfl)) pa_nil)))))))), ?_⟩
    refine x_start (σ' := [some (.ref p), some (.ref a), none, none, none, none]) rfl ?_
    try dsimp only [cxOf]
    repeat walk_at "rd"
    have hll : (natV log).length = log.length := natV_len _
    by_cases hsm : log.length < 10
    · refine iteP (decide_eq_true (by omega)) ?_
      repeat walk_at "rd"
      rename_i Fo nFo
      have nFp := hpen.nep nFo
      refine y_forL (xs := natV log) (SqL.of (lk_ne ea nFo)) ⟨fun i σ H1 => ∃ (y3 y4 y5 : Option V) (rs : List V), σ = [some (.ref p), some (.ref a), some (.ref Fo), y3, y4, y5] ∧ Kx [] H H1 ∧ H1 Fo = some (.lst rs) ∧ (∀ x ∈ rs, PairIn H1 log x) ∧ rs.length = i * log.length, ⟨none, none, none, [], rfl, (Kx.refl [] H).new nFo, upd_same, (fun x hx => by cases hx), by simp⟩, ?_, ?_, ?_⟩
      · rintro i σ H1 hi ⟨y3, y4, y5, rs, rfl, k1, _⟩
        exact SqL.of (k1 a _ (by simp) ea)
      · rintro i x σ H1 H1' hi ⟨y3, y4, y5, rs, rfl, k1, eF, hrs, hlen⟩ ⟨rfl, hx⟩
        rw [hll] at hi
        have hci := List.getElem?_eq_getElem hi
        rw [natV_get hci] at hx
        cases Option.some.inj hx
        have hu := List.getElem_mem hi
        generalize log[i] = u at *
        have hmul : i * log.length ≤ 81 := Nat.mul_le_mul (show i ≤ 9 by omega) (show log.length ≤ 9 by omega)
        repeat walk_at "rd"
        refine ⟨ty_list (SqL.of eF), ?_⟩
        repeat walk_at "rd"
        refine y_lcL (xs := natV log) (SqL.of (k1 a _ (by simp) ea)) (fun U nU => ⟨fun j H2 => ∃ us : List V, Kx [] H1' H2 ∧ H2 U = some (.lst us) ∧ (∀ x ∈ us, PairIn H2 log x) ∧ us.length = j, ⟨[], (Kx.refl [] _).new nU, upd_same, (fun x hx => by cases hx), rfl⟩, ?_, ?_, ?_⟩)
        · rintro j H2 hj ⟨us, k2, _⟩
          exact SqL.of (k2 a _ (by simp) (k1 a _ (by simp) ea))
        · rintro j x H2 H2' hj ⟨us, k2, eU, hus, hul⟩ ⟨rfl, hx⟩
          rw [hll] at hj
          have hcj := List.getElem?_eq_getElem hj
          rw [natV_get hcj] at hx
          cases Option.some.inj hx
          have hv := List.getElem_mem hj
          generalize log[j] = v at *
          repeat walk_at "rd"
          refine ⟨rfl, ?_⟩
          repeat walk_at "rd"
          rename_i q nq
          have nqU : q ≠ U := (ne_of_none eU nq).symm
          refine ⟨us, lk_ne eU nq, small1000 (by omega), us ++ [.ref q], (k2.new nq).wr (.inl nU), upd_same, fun x hx => ?_, by rw [List.length_append, hul]; rfl⟩
          have kt : Kt H2' (upd (upd H2' q (.tup [V.int u, V.int v])) U (.lst (us ++ [.ref q]))) := ((Kt.refl _).new nq).wr (lk_ne eU nq)
          rcases List.mem_append.mp hx with hx | hx
          · exact (hus x hx).keep kt
          · rw [List.mem_singleton.mp hx]
            exact ⟨q, u, v, rfl, by rw [upd_ne nqU, upd_same], hu, hv⟩
        · rintro H2 ⟨us, k2, eU, hus, hul⟩
          rw [hll] at hul
          have eF2 := k2 Fo _ (by simp) eF
          refine ⟨Fo, U, _, _, rfl, rfl, eF2, eU, Nat.le_of_lt (small1000 (by omega)), ?_⟩
          have kt : Kt H1' (upd H2 Fo (.lst (rs ++ us))) := (Kt.of0 k2).wr eF2
          have kt2 : Kt H2 (upd H2 Fo (.lst (rs ++ us))) := (Kt.refl _).wr eF2
          refine ⟨_, _, _, _, rfl, (k1.trans k2).wr (.inl nFo), upd_same, fun x hx => ?_, by rw [List.length_append, hlen, hul, Nat.succ_mul]⟩
          rcases List.mem_append.mp hx with hx | hx
          · exact (hrs x hx).keep kt
          · exact (hus x hx).keep kt2
      · rintro σ H1 ⟨y3, y4, y5, rs, rfl, k1, eF, hrs, hlen⟩
        rw [hll] at hlen
        have hmul : log.length * log.length ≤ 81 := Nat.mul_le_mul (show log.length ≤ 9 by omega) (show log.length ≤ 9 by omega)
        repeat walk_at "rd"
        exact k Fo rs H1 nFo (k1.mono (by simp)) eF hrs (by omega) (hpen.keep k1 (by simp) (by simp) (by omega))
    · refine iteN (decide_eq_false (by omega)) ?_
      repeat walk_at "rd"
      refine y_lcR1 (by omega) (by omega) (fun U nU => ⟨fun j H2 => ∃ us : List V, Kx [p] H H2 ∧ PenAt H2 p c (n + 2 * j) ∧ H2 U = some (.lst us) ∧ (∀ x ∈ us, PairIn H2 log x) ∧ us.length = j, ⟨[], (Kx.refl [p] _).new nU, hpen.nw nU (by omega), upd_same, (fun x hx => by cases hx), rfl⟩, fun _ _ _ _ => trivial, ?_, ?_⟩)
      · rintro j x H2 H2' hj ⟨us, k2, P2, eU, hus, hul⟩ ⟨rfl, rfl⟩
        have hj80 : j < 80 := hj
        have nUp := hpen.nep nU
        have nUc := hpen.nec nU
        have ea2 := k2 a _ (by simpa using nap) ea
        repeat walk_at "rd"
        refine ⟨rfl, ?_⟩
        repeat walk_at "rd"
        rw [hll]
        refine x_draw P2 (by omega) (by omega) (by omega) fun d3 H3 d30 d31 k3 P3 => ?_
        have ea3 := k3 a _ (by simpa using nap) ea2
        have eU3 := k3 U _ (by simpa using nUp) eU
        have h3 := List.getElem?_eq_getElem (l := log) (i := d3.toNat) (by omega)
        have hu := List.getElem_mem (l := log) (n := d3.toNat) (by omega)
        have at3 : atI (natV log) d3 = some (.int (log[d3.toNat]'(by omega) : Nat)) := by
          have := natV_at h3
          rwa [show ((d3.toNat : Nat) : Int) = d3 by omega] at this
        generalize log[d3.toNat] = u at *
        repeat walk_at "rd"
        rw [hll]
        refine x_draw P3 (by omega) (by omega) (by omega) fun d4 H4 d40 d41 k4 P4 => ?_
        have ea4 := k4 a _ (by simpa using nap) ea3
        have eU4 := k4 U _ (by simpa using nUp) eU3
        have h4 := List.getElem?_eq_getElem (l := log) (i := d4.toNat) (by omega)
        have hv := List.getElem_mem (l := log) (n := d4.toNat) (by omega)
        have at4 : atI (natV log) d4 = some (.int (log[d4.toNat]'(by omega) : Nat)) := by
          have := natV_at h4
          rwa [show ((d4.toNat : Nat) : Int) = d4 by omega] at this
        generalize log[d4.toNat] = v at *
        repeat walk_at "rd"
        rename_i q nq
        have nqU : q ≠ U := (ne_of_none eU4 nq).symm
        have kt : Kt H2' (upd (upd H4 q (.tup [V.int u, V.int v])) U (.lst (us ++ [.ref q]))) := (((Kt.of k3 fun z hz => by rw [List.mem_singleton.mp hz]; obtain ⟨cs, pl, r, h, _⟩ := P2; exact ⟨_, h⟩).trans (Kt.of k4 fun z hz => by rw [List.mem_singleton.mp hz]; obtain ⟨cs, pl, r, h, _⟩ := P3; exact ⟨_, h⟩)).new nq).wr (lk_ne eU4 nq)
        refine ⟨us, lk_ne eU4 nq, small1000 (by omega), us ++ [.ref q], (((k2.trans k3).trans k4).new nq).wr (.inl nU), ((P4.nw nq (Nat.le_refl _)).upd nUp nUc (Nat.le_refl _)).keep (Kx.refl [] _) (by simp) (by simp) (by omega), upd_same, fun x hx => ?_, by rw [List.length_append, hul]; rfl⟩
        rcases List.mem_append.mp hx with hx | hx
        · exact (hus x hx).keep kt
        · rw [List.mem_singleton.mp hx]
          exact ⟨q, u, v, rfl, by rw [upd_ne nqU, upd_same], hu, hv⟩
      · rintro H2 ⟨us, k2, P2, eU, hus, hul⟩
        repeat walk_at "rd"
        have hul80 : us.length = 80 := hul
        exact k U us H2 nU k2 eU hus (by omega) (P2.keep (Kx.refl [] _) (by simp) (by simp) (show n + 2 * 80 ≤ n + 160 by omega))
end

theorem log_perm {T : List Ent} {dep : Nat → Nat} (w : TW T dep) {c : Nat} {log : List Nat} {pls : List (Nat × Nat)} (h : WO T c log pls []) : log.Perm (nodesL T T.length) := by
  refine (List.perm_ext_iff_of_nodup (nodup_lt h.logs) ?_).mpr fun v => ?_
  · unfold nodesL
    exact List.nodup_range.filter _
  · rw [nodesL_mem]
    constructor
    · intro hv
      obtain ⟨e, he⟩ := h.lin v hv
      exact ⟨(List.getElem?_eq_some_iff.mp he).1, e, he⟩
    · rintro ⟨_, hv⟩
      rcases h.cov v hv with h1 | ⟨y, hy, _⟩
      · exact h1
      · cases hy

section
variable {P : Program} {w : World} {K : PySem.W.Frag} {mg : Str → Option Value} {base : Heap}

theorem ord_at {T : List Ent} {c : Nat} {log : List Nat} (h : log.Pairwise fun a b => rk T c a < rk T c b) {i j u v : Nat} (hi : log[i]? = some u) (hj : log[j]? = some v) : decide (rk T c u < rk T c v) = decide (i < j) := by
  obtain ⟨hi1, hi2⟩ := List.getElem?_eq_some_iff.mp hi
  obtain ⟨hj1, hj2⟩ := List.getElem?_eq_some_iff.mp hj
  have pw := List.pairwise_iff_getElem.mp h
  rcases Nat.lt_trichotomy i j with hl | rfl | hl
  · have := pw i j hi1 hj1 hl
    rw [hi2, hj2] at this
    rw [decide_eq_true this, decide_eq_true hl]
  · rw [hi2] at hj2
    subst hj2
    rw [decide_eq_false (List.lt_irrefl _), decide_eq_false (Nat.lt_irrefl _)]
  · have := pw j i hj1 hi1 hl
    rw [hi2, hj2] at this
    rw [decide_eq_false (List.lt_asymm this), decide_eq_false (by omega)]
theorem inj_at {T : List Ent} {c : Nat} {log : List Nat} (h : log.Pairwise fun a b => rk T c a < rk T c b) {i j v : Nat} (hi : log[i]? = some v) (hj : log[j]? = some v) : i = j := by
  have h1 := ord_at h hi hj
  have h2 := ord_at h hj hi
  rw [decide_eq_false (List.lt_irrefl _)] at h1 h2
  have := of_decide_eq_false h1.symm
  have := of_decide_eq_false h2.symm
  omega
theorem x_index {H : Hp} {Q : VK} {a : Addr} {log : List Nat} {j v : Nat} (h : SqL K H a (natV log)) (hj : log[j]? = some v) (hu : ∀ i, log[i]? = some v → i = j) (q : Q (.int (j : Nat)) H) : rIndex K (.ref a) [.int (v : Nat)] H Q := by
  have hjl := (List.getElem?_eq_some_iff.mp hj).1
  have ns' : (natV log).all flatV = true := by
    unfold natV
    rw [List.all_map]
    exact List.all_eq_true.mpr fun _ _ => rfl
  refine ⟨a, natV log, .int (v : Nat), j, .int (v : Nat), rfl, rfl, h, rfl, ns', natV_get hj, by simp [eqV], fun m z' hm hz => ?_, q⟩
  have hml : m < log.length := by omega
  rw [natV_get (List.getElem?_eq_getElem hml)] at hz
  rw [← Option.some.inj hz]
  show (((log[m] : Nat) : Int) == ((v : Nat) : Int)) = false
  refine beq_eq_false_iff_ne.mpr fun e => ?_
  have : log[m]? = some v := by
    rw [List.getElem?_eq_getElem hml]
    congr 1
    omega
  have := hu m this
  omega
def spRight (K : PySem.W.Frag) : Sp := fun vs H Q _ => ∃ (D p cc : Addr) (n : Nat) (T : List Ent) (dep : Nat → Nat) (c : Nat), vs = [.ref p, .ref D, .int c] ∧ PenAt H p cc n ∧ n ≤ 800000 ∧ TreeAt K H D T ∧ TW T dep ∧ (∃ r : Nat, T[r]? = some (some none)) ∧ 1 ≤ c ∧
  ∀ H', Kx [p] H H' → PenAt H' p cc (n + 160) → Q (.bl true) H'
theorem ok_right {f : Addr} {fd : FuncData} (F : Fun K "_law_right" "_law_right" sQRight f fd) (T : Txt mg) (l_law_walk : Lo P w K mg base "_law_walk" 1 ["_law_given", "_law_cap"] (spWalk K)) (l_law_pairs : Lo P w K mg base "_law_pairs" 2 ["_law_pen_here", "_law_nodes"] (spPairs K))
    (x_node_before : Lkx P w K mg base "node_before" 4 ["tree", "first", "second", "limit"] ["limit"] (gApp 3 1) (spNB K)) (k_node_before : Lkw P w K mg base "node_before" 4 ["tree", "first", "second", "limit"] ["limit", "second", "first", "tree"] (gRev 4) (spNB K)) : FnOk P w K mg base CX0 5 f fd ["_law_pen_here", "_law_given", "_law_cap"] (spRight K) := by
  refine F.ok scQRight (fun vs H Q E h => ?_) (fun cdv A outer s H vs Q E hr h => ?_)
  · obtain ⟨D, p, cc, n, T, dep, c, rfl, _⟩ := h
    rfl
  · obtain ⟨D, p, cc, n, Tr, dep, c, rfl, hpen, hn, hT, wT, hrt, hc, k⟩ := h
    refine ⟨_, (pss_cons (ps_asg (pe_lo l_law_walk (hr.mono (by decide)) (by rfl) (pa_cons (pv 1) (pa_cons (pv 2) pa_nil))) (pg_tup rfl (pgs_cons (pg_name (i := 3) scQRight.nd rfl (Or.inl rfl)) (pgs_cons (pg_name (i := 4) scQRight.nd rfl (Or.inl rfl)) pgs_nil))))
      (pss_cons (ps_for PassesOwn.never rfl (pi_list (pe_lo l_law_pairs (hr.mono (by decide)) (by rfl) (pa_cons (pv 0) (pa_cons (pv 3) pa_nil)))) (pg_tup rfl (pgs_cons (pg_name (i := 5) scQRight.nd rfl (Or.inl rfl)) (pgs_cons (pg_name (i := 6) scQRight.nd rfl (Or.inl rfl)) pgs_nil)))
      (pss_cons (ps_set (i := 7) scQRight.nd rfl (Or.inl rfl) (pe_cmpR op_lt (pe_bm PySem.F.plainAttrs_list PySem.F.slot_list_index PySem.F.type_list_index mt_index (pv 3) (pa_cons (pv 5) pa_nil)) (pe_bm PySem.F.plainAttrs_list PySem.F.slot_list_index PySem.F.type_list_index mt_index (pv 3) (pa_cons (pv 6) pa_nil)) (nomark _)))
      (pss_cons (ps_set (i := 8) scQRight.nd rfl (Or.inl rfl) (pe_lkx x_node_before (hr.mono (by decide)) (by rfl) (pa_cons (pv 1) (pa_cons (pv 5) (pa_cons (pv 6) pa_nil))) (pk_cons (pv 2) pk_nil)))
      (pss_cons (ps_if (pt_cmpR op_ne (pe_callB call_reprB (by rfl) T.b_repr boot'_repr (pa_cons (pv 8) pa_nil)) (pe_callB call_reprB (by rfl) T.b_repr boot'_repr (pa_cons (pv 7) pa_nil)) (nomark _)) (pss_one (ps_ret pe_bl)) pss_nil)
      (pss_one (ps_if (pt_cmpR op_ne (pe_callB call_reprB (by rfl) T.b_repr boot'_repr (pa_cons (pe_lkw k_node_before (hr.mono (by decide)) (by rfl) (pk_cons (pv 2) (pk_cons (pv 5) (pk_cons (pv 6) (pk_cons (pv 1) pk_nil))))) pa_nil)) (pe_callB call_reprB (by rfl) T.b_repr boot'_repr (pa_cons (pe_and (pe_not (pv 7)) (pe_one (pe_cmpR op_ne (pv 5) (pv 6) (nomark _)))) pa_nil)) (nomark _)) (pss_one (ps_ret pe_bl)) pss_nil))))))
      (pss_one (ps_ret pe_bl)))), ?_⟩
    refine x_start (σ' := [some (.ref p), some (.ref D), some (.int c), none, none, none, none, none, none]) rfl ?_
    try dsimp only [cxOf]
    repeat walk_at "rd"
    refine ⟨D, Tr, dep, c, rfl, hT, wT, hrt, hc, fun R L Pp ps H1 log pls nR k1 eR eL eP hps hW => ?_⟩
    have P1 := hpen.keep k1 (by simp) (by simp) (Nat.le_refl _)
    have hperm := log_perm wT hW
    have h40 := wT.most
    have hlog : log.length ≤ 40 := by
      rw [hperm.length_eq]
      exact Nat.le_trans (nodesL_len Tr Tr.length) h40
    have nLp : L ≠ p := fun z => by
      obtain ⟨cs, pl, r, h, _⟩ := P1
      rw [z, h] at eL
      have e := HO.lst.inj (Option.some.inj eL)
      cases log with
      | nil => cases e
      | cons x r => cases e
    repeat walk_at "rd"
    refine ⟨p, cc, L, _, log, rfl, P1, by omega, eL, nLp, hlog, fun Z rs H2 nZ k2 eZ hrs hrl P2 => ?_⟩
    have eL2 := k2 L _ (by simpa using nLp) eL
    have hT2 := (hT.keep (Kt.of0 k1)).keep (Kt.of k2 fun z hz => by rw [List.mem_singleton.mp hz]; obtain ⟨cs, pl, r, h, _⟩ := P1; exact ⟨_, h⟩)
    repeat walk_at "rd"
    refine y_forL (SqL.of eZ) ⟨fun j σ H3 => ∃ (y5 y6 y7 y8 : Option V), σ = [some (.ref p), some (.ref D), some (.int c), some (.ref L), some (.ref Pp), y5, y6, y7, y8] ∧ Kx [] H2 H3, ⟨_, _, _, _, rfl, Kx.refl _ _⟩, ?_, ?_, ?_⟩
    · rintro j σ H3 hj ⟨y5, y6, y7, y8, rfl, k3⟩
      exact SqL.of (k3 Z _ (by simp) eZ)
    · rintro j x σ H3 H3' hj ⟨y5, y6, y7, y8, rfl, k3⟩ ⟨rfl, hx⟩
      obtain ⟨q, u, v, rfl, eq, hu, hv⟩ := (hrs _ (List.mem_of_getElem? hx)).keep (Kt.of0 k3)
      have eL3 := k3 L _ (by simp) eL2
      have hT3 := hT2.keep (Kt.of0 k3)
      obtain ⟨iu, hiu⟩ := List.getElem?_of_mem hu
      obtain ⟨iv, hiv⟩ := List.getElem?_of_mem hv
      have e1 : decide (((iu : Nat) : Int) < ((iv : Nat) : Int)) = decide (iu < iv) := by
        by_cases h : iu < iv
        · rw [decide_eq_true h, decide_eq_true (by omega)]
        · rw [decide_eq_false h, decide_eq_false (by omega)]
      repeat walk_at "rd"
      refine ⟨ty_list (SqL.of eL3), ?_⟩
      repeat walk_at "rd"
      refine x_index (SqL.of eL3) hiu (fun i h => inj_at hW.logs h hiu) ?_
      repeat walk_at "rd"
      refine ⟨ty_list (SqL.of eL3), ?_⟩
      repeat walk_at "rd"
      refine x_index (SqL.of eL3) hiv (fun i h => inj_at hW.logs h hiv) ?_
      repeat walk_at "rd"
      rw [e1]
      refine ⟨D, Tr, dep, u, v, c, rfl, hT3, wT, hW.lin u hu, hW.lin v hv, fun H4 k4 => ?_⟩
      rw [ord_at hW.logs hiu hiv]
      have hT4 := hT3.keep (Kt.of0 k4)
      repeat walk_at "rd"
      refine x_reprB ?_
      repeat walk_at "rd"
      refine x_reprB ?_
      repeat walk_at "rd"
      refine iteN (by simp) ?_
      repeat walk_at "rd"
      refine ⟨D, Tr, dep, v, u, c, rfl, hT4, wT, hW.lin v hv, hW.lin u hu, fun H5 k5 => ?_⟩
      rw [ord_at hW.logs hiv hiu]
      repeat walk_at "rd"
      refine x_reprB ?_
      repeat walk_at "rd"
      by_cases hlt : iu < iv
      · rw [decide_eq_true hlt, decide_eq_false (show ¬ iv < iu by omega)]
        repeat walk_at "rd"
        refine iteN (by decide) ?_
        repeat walk_at "rd"
        refine x_reprB ?_
        repeat walk_at "rd"
        refine iteN (by simp) ?_
        repeat walk_at "rd"
        exact ⟨_, _, _, _, rfl, (k3.trans k4).trans k5⟩
      · rw [decide_eq_false hlt]
        repeat walk_at "rd"
        refine iteP (by decide) ?_
        repeat walk_at "rd"
        have e2 : (!decide (V.int (u : Nat) = V.int (v : Nat))) = decide (iv < iu) := by
          by_cases h : u = v
          · subst h
            have := inj_at hW.logs hiu hiv
            rw [decide_eq_true rfl, decide_eq_false (by omega)]
            rfl
          · rw [decide_eq_false (fun z => h (by have := V.int.inj z; omega))]
            have : iu ≠ iv := fun z => h (by rw [z, hiv] at hiu; exact (Option.some.inj hiu).symm)
            rw [decide_eq_true (show iv < iu by omega)]
            rfl
        rw [e2]
        refine x_reprB ?_
        repeat walk_at "rd"
        refine iteN (by simp) ?_
        repeat walk_at "rd"
        exact ⟨_, _, _, _, rfl, (k3.trans k4).trans k5⟩
    · rintro σ H3 ⟨y5, y6, y7, y8, rfl, k3⟩
      repeat walk_at "rd"
      exact k _ ((k1.mono (by simp)).trans (k2.trans (k3.mono (by simp)))) (P2.keep k3 (by simp) (by simp) (Nat.le_refl _))
end


section
variable {P : Program} {w : World} {K : PySem.W.Frag} {mg : Str → Option Value} {base : Heap}

/-- what the text says of the class -/
structure NFx (K : PySem.W.Frag) (C_NotFreed C_MissingError C_NoNode C_NoPosition C_NoReference C_NoSlot C_UndoError : Addr) : Prop where
  xf : XfC K C_NotFreed
  ec : ExcC K C_NotFreed
  hno : PySem.W.findIn K (.ref C_NotFreed) "node" = some none
  i1 : PySem.W.kitOne K (.ref C_NotFreed) (.ref C_NotFreed) = some true
  i2 : PySem.W.kitAny K (.ref C_NotFreed) [.ref C_NoNode, .ref C_NoPosition, .ref C_NoReference, .ref C_NoSlot, .ref C_UndoError] = some false
  i3 : PySem.W.kitOne K (.ref C_NotFreed) (.type "LookupError") = some true
  te : PySem.W.exmOne K (.ref C_NotFreed) (.ref C_MissingError) = some true
/-- the lambda's run ends in NotFreed(v); back comes [v] -/
def TTerr (C : Addr) : (XK → Hp → VK → Prop) → Hp → VK → Prop := fun tl H Q => ∃ v : V, (∀ (E : XK) (Qn : VK), (∀ dd H', H' dd = some (.xd [("node", v)]) → Kx [] H H' → E (.ref C) (some dd) H') → tl E H Qn) ∧
  ∀ L H', H L = none → Kx [] H H' → H' L = some (.lst [v]) → Q (.ref L) H'
theorem gives_error {X : Cx} {C_NotFreed C_MissingError C_NoNode C_NoPosition C_NoReference C_NoSlot C_UndoError g : Addr} {cdg : Value} {q : Str} {k : Nat} (T : Txt X.mg) (c_NotFreed : X.mg "NotFreed" = some (.ref C_NotFreed)) (c_MissingError : X.mg "MissingError" = some (.ref C_MissingError)) (c_NoNode : X.mg "NoNode" = some (.ref C_NoNode)) (c_NoPosition : X.mg "NoPosition" = some (.ref C_NoPosition)) (c_NoReference : X.mg "NoReference" = some (.ref C_NoReference)) (c_NoSlot : X.mg "NoSlot" = some (.ref C_NoSlot)) (c_UndoError : X.mg "UndoError" = some (.ref C_UndoError)) (N : NFx X.K C_NotFreed C_MissingError C_NoNode C_NoPosition C_NoReference C_NoSlot C_UndoError) : Gives X ["_law_ask", "_law_caught", "e"] "_law_error" sQError g cdg "_law_ask" q k (TTerr C_NotFreed) := by
  rintro f c' s H Q tl hr act hc ⟨v, hraise, hq⟩
  generalize X.prog = P at *
  generalize X.w = w at *
  generalize X.K = K at *
  generalize X.mg = mg at *
  generalize X.base = base at *
  generalize X.A = A at *
  generalize X.stack = stk at *
  refine ⟨_, (pss_cons (ps_set (i := 1) scQError.nd rfl (Or.inl rfl) pe_non)
      (pss_cons (ps_try_kp (i := 2) rfl rfl rfl scQError.nd rfl rfl ⟨rfl, by decide, Or.inl c_MissingError⟩ (fun W pn xe tk po => (pss_one (ps_act (act W pn xe _ _ tk)))) (fun a oe cls d pn hz hf => by exact (pss_one (ps_set (i := 1) scQError.nd rfl (Or.inl rfl) (pv 2)))))
      (pss_cons (ps_if ((pw_or (pt_not (pt_val (pe_callB call_isK (by rfl) T.b_isinstance boot'_isinstance (pa_cons (pv 1) (pa_cons (pe_glob (v := .ref C_NotFreed) (by rfl) c_NotFreed rfl) pa_nil))))) (pw_or1 (pt_not (pt_val (pe_callB call_isK (by rfl) T.b_isinstance boot'_isinstance (pa_cons (pv 1) (pa_cons (pe_bltn (v := .ty "LookupError") (by rfl) T.b_LookupError boot'_LookupError rfl) pa_nil)))))))).pt (pss_one (ps_ret pe_non)) pss_nil)
      (pss_cons (ps_if (pt_val (pe_callB call_isK (by rfl) T.b_isinstance boot'_isinstance (pa_cons (pv 1) (pa_cons (pe_tup (pa_cons (pe_glob (v := .ref C_NoNode) (by rfl) c_NoNode rfl) (pa_cons (pe_glob (v := .ref C_NoPosition) (by rfl) c_NoPosition rfl) (pa_cons (pe_glob (v := .ref C_NoReference) (by rfl) c_NoReference rfl) (pa_cons (pe_glob (v := .ref C_NoSlot) (by rfl) c_NoSlot rfl) (pa_cons (pe_glob (v := .ref C_UndoError) (by rfl) c_UndoError rfl) pa_nil)))))) pa_nil)))) (pss_one (ps_ret pe_non)) pss_nil)
      (pss_one (ps_ret (pe_lst (pa_cons (pe_xk (pv 1)) pa_nil)))))))), ?_⟩
  refine x_start (σ' := [some (.ref f), none, none]) rfl ?_
  try dsimp only [cxOf]
  repeat walk_at "rd"
  refine ⟨rfl, hc, hraise _ _ fun dd H4 edd k4 => ?_⟩
  refine ⟨N.te, fun a4 na4 => ?_⟩
  repeat walk_at "rd"
  have k5 := k4.new (o := exk a4 (.ref C_NotFreed) (some dd)) na4
  have ea : upd H4 a4 (exk a4 (.ref C_NotFreed) (some dd)) a4 = some (exk a4 (.ref C_NotFreed) (some dd)) := upd_same
  have ed := lk_ne (o := exk a4 (.ref C_NotFreed) (some dd)) edd na4
  generalize upd H4 a4 (exk a4 (.ref C_NotFreed) (some dd)) = H5 at *
  refine x_isK1 N.ec ea ed (fun u h => h) N.i1 ?_
  repeat walk_at "rd"
  refine iteN (by decide) ?_
  repeat walk_at "rd"
  refine x_isK1 N.ec ea ed (fun u h => h) N.i3 ?_
  repeat walk_at "rd"
  refine iteN (by decide) ?_
  repeat walk_at "rd"
  rename_i tt ntt
  replace k5 := k5.new (o := .tup [V.ref C_NoNode, V.ref C_NoPosition, V.ref C_NoReference, V.ref C_NoSlot, V.ref C_UndoError]) ntt
  replace ea := lk_ne (o := .tup [V.ref C_NoNode, V.ref C_NoPosition, V.ref C_NoReference, V.ref C_NoSlot, V.ref C_UndoError]) ea ntt
  replace ed := lk_ne (o := .tup [V.ref C_NoNode, V.ref C_NoPosition, V.ref C_NoReference, V.ref C_NoSlot, V.ref C_UndoError]) ed ntt
  have et := upd_same (H := H5) (a := tt) (o := .tup [V.ref C_NoNode, V.ref C_NoPosition, V.ref C_NoReference, V.ref C_NoSlot, V.ref C_UndoError])
  generalize upd H5 tt (.tup [V.ref C_NoNode, V.ref C_NoPosition, V.ref C_NoReference, V.ref C_NoSlot, V.ref C_UndoError]) = H6 at *
  refine x_isKT N.ec ea ed (SqT.of et) (vals_refs [C_NoNode, C_NoPosition, C_NoReference, C_NoSlot, C_UndoError]) N.i2 ?_
  repeat walk_at "rd"
  refine x_xk ?_
  repeat walk_at "rd"
  refine ⟨a4, C_NotFreed, dd, _, v, rfl, N.xf, N.hno, ea, ed, rfl, ?_⟩
  repeat walk_at "rd"
  rename_i L nL
  exact hq L _ (k5.fresh (by simp) nL) (k5.new nL) upd_same
end


section
variable {P : Program} {w : World} {K : PySem.W.Frag} {mg : Str → Option Value} {base : Heap}

/-- all but the tables of code objects and S stay -/
def Ky (S : List Addr) (H H' : Hp) : Prop := ∀ b o, b ∉ S → H b = some o → (∀ ps, o ≠ .tbl ps) → H' b = some o
theorem GoodN.list {L : Nat} {ds : List PyData} {k w n : Nat} (h : ∀ d ∈ ds, GoodN L d k w) (hn : ds.length ≤ n) : GoodN L (.list ds) (k + 1) (n * (w + 1)) := by
  obtain ⟨a1, a2, a3, a4, a5⟩ := goodN_all h
  exact ⟨by simpa only [PyData.showable] using a1, by simpa only [PyData.hasDict] using a2, by simp only [PyData.depth]; omega, by simpa only [PyData.leavesShort] using a4, by simp only [PyData.weight]; exact Nat.le_trans a5 (Nat.mul_le_mul_right _ hn)⟩
theorem x_repr3 {H : Hp} {Q : VK} {t : Addr} {xs : List V} {d : PyData} (h : SqL K H t xs) (hx : DpAll K H xs [.list [d], .list [d], .list [d]]) (g : GoodN 130 d 3 1000) (q : Q (.str (PyData.list [.list [d], .list [d], .list [d]]).shown) H) : rRepr K [.ref t] H Q := by
  have g1 : GoodN 130 (.list [d]) 4 (1 * 1001) := GoodN.list (fun x hx => by rw [List.mem_singleton.mp hx]; exact g) (Nat.le_refl _)
  have g3 : GoodN 130 (.list [.list [d], .list [d], .list [d]]) 5 (3 * (1 * 1001 + 1)) := GoodN.list (fun x hx => by
    simp only [List.mem_cons, List.not_mem_nil, or_false, or_self] at hx
    rw [hx]
    exact g1) (Nat.le_refl _)
  exact ⟨t, _, rfl, .lst h hx, g3.sh, g3.nd, Nat.le_trans g3.dp (by decide), Nat.le_trans (PyData.shown_le 130 (by decide) _ g3.sl) (Nat.le_trans (Nat.add_le_add_right (Nat.mul_le_mul_left _ g3.wt) _) (by decide)), q⟩
theorem tabs_kx {T : List (Addr × Str)} {S : List Addr} {H H' : Hp} (k : Kx S H H') (hS : ∀ q ∈ S, ∃ xs, H q = some (.lst xs)) (t : LamX.Tabs T H) : LamX.Tabs T H' := by
  intro p hp
  obtain ⟨ps, h1, h2, h3⟩ := t p hp
  have out : ∀ {b : Addr} {o : HO}, H b = some o → (∀ xs, o ≠ .lst xs) → H' b = some o := fun {b o} e n => k b o (fun hm => by obtain ⟨xs, hx⟩ := hS b hm; rw [hx] at e; exact n xs (Option.some.inj e).symm) e
  refine ⟨ps, out h1 (fun _ z => nomatch z), h2, fun pos cv hc => ?_⟩
  obtain ⟨c, e1, e2⟩ := h3 pos cv hc
  exact ⟨c, e1, out e2 (fun _ z => by unfold LamX.CodeO at z; cases z)⟩
theorem extN_sqT {H H' : Hp} {a : Addr} {xs : List V} (e : LamX.ExtN H H') (h : SqT K H a xs) : SqT K H' a xs := by
  rcases h with (h | ⟨o, h⟩) | h
  · exact .inl (.inl (e _ _ h fun _ z => nomatch z))
  · exact .inl (.inr ⟨o, e _ _ h fun _ z => nomatch z⟩)
  · exact .inr h
theorem extN_tree {H H' : Hp} {D : Addr} {T : List Ent} (e : LamX.ExtN H H') (h : TreeAt K H D T) : TreeAt K H' D T := by
  obtain ⟨vs, h1, h2⟩ := h
  refine ⟨vs, extN_sqT e h1, h2.len, fun i en hi => ?_⟩
  obtain ⟨v, hv, hE⟩ := h2.at_ i en hi
  refine ⟨v, hv, ?_⟩
  cases hE with
  | non => exact .non
  | root h => exact .root (extN_sqT e h)
  | par h => exact .par (e _ _ h fun _ z => nomatch z)
theorem extN_pen {H H' : Hp} {p c : Addr} {n : Nat} (e : LamX.ExtN H H') (h : PenAt H p c n) : PenAt H' p c n := by
  obtain ⟨cs, pl, r, h1, h2, h3⟩ := h
  exact ⟨cs, pl, r, e _ _ h1 (fun _ z => nomatch z), e _ _ h2 (fun _ z => nomatch z), h3⟩
theorem Ky.of {S : List Addr} {H H' : Hp} (k : Kx S H H') : Ky S H H' := fun b o n e _ => k b o n e
theorem Ky.ext {S : List Addr} {H H' : Hp} (e : LamX.ExtN H H') : Ky S H H' := fun b o _ h n => e b o h n
theorem Ky.trans {S : List Addr} {H H1 H2 : Hp} (a : Ky S H H1) (b : Ky S H1 H2) : Ky S H H2 := fun c o n e t => b c o n (a c o n e t) t
theorem Ky.wr {S : List Addr} {H Hm H1 : Hp} {q : Addr} {o : HO} (a : Ky S H H1) (m : Ky S H Hm) (n : Hm q = none) (hq : q ∉ S) : Ky S H (upd H1 q o) := fun b u nb e nt => by
  have : b ≠ q := fun z => by
    have := m b u nb e nt
    rw [z, n] at this
    cases this
  rw [upd_ne this]
  exact a b u nb e nt
structure GoodR (d : PyData) : Prop where
  sh : d.showable = true
  nd : d.hasDict = false
  dp : d.depth ≤ 3
  sl : d.leavesShort 130 = true
  wt : d.weight ≤ 1000
def lamQ : Str := (envOfC "_law_refused" (defScope sQRefused) 0 0 .none).qual ++ "<lambda>"
def spRefused (K : PySem.W.Frag) (PR : Addr) : Sp := fun vs H Q _ => ∃ (D p cc : Addr) (n : Nat) (T : List Ent) (dep : Nat → Nat) (c : Nat), vs = [.ref p, .ref D, .int c] ∧ PenAt H p cc n ∧ n ≤ 800000 ∧ TreeAt K H D T ∧ TW T dep ∧ (∃ r : Nat, T[r]? = some (some none)) ∧ 1 ≤ c ∧ LamX.Tabs [(PR, lamQ)] H ∧
  ∀ H', Ky [p] H H' → PenAt H' p cc (n + 4) → LamX.Tabs [(PR, lamQ)] H' → Q (.bl true) H'
theorem ok_refused {f gE cR PR C_NotFreed C_MissingError C_NoNode C_NoPosition C_NoReference C_NoSlot C_UndoError : Addr} {fd fdE : FuncData} {cdE : Value} (F : FunC K "_law_refused" "_law_refused" sQRefused f fd (.ref cR)) (T : Txt mg) (TB : LamX.TabB base mg cR PR) (l_law_draw : Lo P w K mg base "_law_draw" 1 ["_law_pen_here", "_law_bound"] spDraw)
    (D_law_error : LamD K mg "_law_error" "_law_ask" sQError gE fdE cdE ["_law_ask", "_law_caught", "e"]) (c_NotFreed : mg "NotFreed" = some (.ref C_NotFreed)) (c_MissingError : mg "MissingError" = some (.ref C_MissingError)) (c_NoNode : mg "NoNode" = some (.ref C_NoNode)) (c_NoPosition : mg "NoPosition" = some (.ref C_NoPosition)) (c_NoReference : mg "NoReference" = some (.ref C_NoReference)) (c_NoSlot : mg "NoSlot" = some (.ref C_NoSlot)) (c_UndoError : mg "UndoError" = some (.ref C_UndoError)) (N : NFx K C_NotFreed C_MissingError C_NoNode C_NoPosition C_NoReference C_NoSlot C_UndoError)
    (e_node_before : LkxX P w K mg base "node_before" 4 ["tree", "first", "second", "limit"] ["limit"] (gApp 3 1) (spNBX K C_NotFreed)) : FnG P w K mg base 8 f fd ["_law_pen_here", "_law_given", "_law_cap"] (spRefused K PR) := by
  refine FnG.bodyC F scQRefused (fun vs H Q E h => ?_) (fun A outer s H vs Q E hgd hr h => ?_)
  · obtain ⟨D, p, cc, n, T, dep, c, rfl, _⟩ := h
    rfl
  · obtain ⟨D, p, cc, n, Tr, dep, c, rfl, hpen, hn, hT, wT, hrt, hc, hTab, k⟩ := h
    have hmT : (PR, lamQ) ∈ [(PR, lamQ)] := List.mem_singleton.mpr rfl
    have hu : ∀ q ∈ [(PR, lamQ)], q.1 = PR → q.2 = lamQ := fun q hq _ => by rw [List.mem_singleton.mp hq]
    have G_law_error : ∀ {X : Cx} (eK : X.K = K) (em : X.mg = mg) (q : Str) (m : Nat), Gives X ["_law_ask", "_law_caught", "e"] "_law_error" sQError gE cdE "_law_ask" q m (TTerr C_NotFreed) := fun {X} eK em q m => gives_error (X := X) (by rw [em]; exact T) (by rw [em]; exact c_NotFreed) (by rw [em]; exact c_MissingError) (by rw [em]; exact c_NoNode) (by rw [em]; exact c_NoPosition) (by rw [em]; exact c_NoReference) (by rw [em]; exact c_NoSlot) (by rw [em]; exact c_UndoError) (by rw [eK]; exact N)
    refine ⟨_, (pss_cons (ps_set (i := 3) scQRefused.nd rfl (Or.inl rfl) (pe_callB call_len_seq (by rfl) T.b_len boot'_len (pa_cons (pv 1) pa_nil)))
      (pss_cons (ps_set (i := 4) scQRefused.nd rfl (Or.inl rfl) (pe_lst (pa_cons pe_non (pa_cons pe_bl (pa_cons pe_bl (pa_cons (pe_un un_neg pe_int) (pa_cons (pv 3) (pa_cons pe_str (pa_cons (pe_tup (pa_cons pe_int pa_nil)) (pa_cons (pe_lst (pa_cons pe_int pa_nil)) (pa_cons (pe_op op_pow pe_int pe_int) (pa_cons (pe_tup pa_nil) (pa_cons (pe_op op_sub pe_int (pv 3)) pa_nil)))))))))))))
      (pss_cons (ps_set (i := 4) scQRefused.nd rfl (Or.inl rfl) (pe_op op_cat (pv 4) (pe_lc (own := [("_law_v", 5)]) rfl scQRefused.nd (pi_range1 (by rfl) T.b_range (pa_cons (pv 3) pa_nil)) (blkOk_by (N := ["_law_pen_here", "_law_given", "_law_cap", "_law_size_here", "_law_some", "_law_v", "_law_nodes", "_law_found", "_law_odd", "_law_other"]) (sc := defScope sQRefused) (by decide +kernel)) (fun _ _ _ _ _ => (pg_name (i := 5) scQRefused.nd rfl (Or.inl rfl))) (fun _ _ _ _ _ => (pts_one (pt_cmpR op_isN1 (pe_ix (ix_tupK (K := K)) (pv 1) (pv 5) (fun _ _ => rfl)) pe_non (nomark _)))) (fun _ _ _ _ _ => (pv 5)))))
      (pss_cons (ps_set (i := 8) scQRefused.nd rfl (Or.inr rfl) (pe_ix ix_list (pv 4) (pe_lo l_law_draw (hr.mono (by decide)) (by rfl) (pa_cons (pv 0) (pa_cons (pe_callB call_len_seq (by rfl) T.b_len boot'_len (pa_cons (pv 4) pa_nil)) pa_nil))) (fun _ _ => rfl)))
      (pss_cons (ps_set (i := 9) scQRefused.nd rfl (Or.inr rfl) (pe_ix ix_list (pv 4) (pe_lo l_law_draw (hr.mono (by decide)) (by rfl) (pa_cons (pv 0) (pa_cons (pe_callB call_len_seq (by rfl) T.b_len boot'_len (pa_cons (pv 4) pa_nil)) pa_nil))) (fun _ _ => rfl)))
      (pss_cons (ps_setLc (i := 6) (own := [("_law_v", 5)]) rfl scQRefused.nd rfl rfl (sw_true rfl rfl rfl (by decide +kernel)) (pi_range1 (by rfl) T.b_range (pa_cons (pv 3) pa_nil)) (blkOk_by (N := ["_law_pen_here", "_law_given", "_law_cap", "_law_size_here", "_law_some", "_law_v", "_law_nodes", "_law_found", "_law_odd", "_law_other"]) (sc := defScope sQRefused) (by decide +kernel)) (fun _ _ _ _ _ => (pg_name (i := 5) scQRefused.nd rfl (Or.inl rfl))) (fun _ _ _ _ _ => (pts_one (pt_cmpR op_notN1 (pe_ix (ix_tupK (K := K)) (pv 1) (pv 5) (fun _ _ => rfl)) pe_non (nomark _)))) (fun _ _ _ _ _ => (pv 5)))
      (pss_cons (ps_set (i := 5) scQRefused.nd rfl (Or.inr rfl) (pe_ix ix_list (pv 6) (pe_lo l_law_draw (hr.mono (by decide)) (by rfl) (pa_cons (pv 0) (pa_cons (pe_callB call_len_seq (by rfl) T.b_len boot'_len (pa_cons (pv 6) pa_nil)) pa_nil))) (fun _ _ => rfl)))
      (pss_cons (ps_set (i := 7) scQRefused.nd rfl (Or.inl rfl) (pe_lst (pa_cons (pe_lamW (k := 4) D_law_error (G_law_error rfl rfl _ _) TB rfl hmT hu (hr.mono (by decide)) (by rfl) (LamX.lamS_by (by show LamX.lamSB (defScope sQRefused) _ = true; decide +kernel)) (fun A outer s H E f c' hrL => by exact (pe_lkxX e_node_before (takes_of rfl rfl rfl rfl) (hrL.mono (by decide)) (by rfl) (pa_cons (pv 1) (pa_cons (pv 8) (pa_cons (pv 5) pa_nil))) (pk_cons (pv 2) pk_nil)))) pa_nil)))
      (pss_cons (ps_expr (pe_bm PySem.F.plainAttrs_list PySem.F.slot_list_append PySem.F.type_list_append mt_append (pv 7) (pa_cons (pe_lamW (k := 4) D_law_error (G_law_error rfl rfl _ _) TB rfl hmT hu (hr.mono (by decide)) (by rfl) (LamX.lamS_by (by show LamX.lamSB (defScope sQRefused) _ = true; decide +kernel)) (fun A outer s H E f c' hrL => by exact (pe_lkxX e_node_before (takes_of rfl rfl rfl rfl) (hrL.mono (by decide)) (by rfl) (pa_cons (pv 1) (pa_cons (pv 5) (pa_cons (pv 8) pa_nil))) (pk_cons (pv 2) pk_nil)))) pa_nil)))
      (pss_cons (ps_expr (pe_bm PySem.F.plainAttrs_list PySem.F.slot_list_append PySem.F.type_list_append mt_append (pv 7) (pa_cons (pe_lamW (k := 4) D_law_error (G_law_error rfl rfl _ _) TB rfl hmT hu (hr.mono (by decide)) (by rfl) (LamX.lamS_by (by show LamX.lamSB (defScope sQRefused) _ = true; decide +kernel)) (fun A outer s H E f c' hrL => by exact (pe_lkxX e_node_before (takes_of rfl rfl rfl rfl) (hrL.mono (by decide)) (by rfl) (pa_cons (pv 1) (pa_cons (pv 8) (pa_cons (pv 9) pa_nil))) (pk_cons (pv 2) pk_nil)))) pa_nil)))
      (pss_one (ps_ret (pe_cmpR op_eq (pe_callB (call_repr hgd hr.units) (by rfl) T.b_repr boot'_repr (pa_cons (pv 7) pa_nil)) (pe_callB (call_repr hgd hr.units) (by rfl) T.b_repr boot'_repr (pa_cons (pe_lst (pa_cons (pe_lst (pa_cons (pv 8) pa_nil)) (pa_cons (pe_lst (pa_cons (pv 8) pa_nil)) (pa_cons (pe_lst (pa_cons (pv 8) pa_nil)) pa_nil)))) pa_nil)) (nomark _)))))))))))))), ?_⟩
    refine x_start (σ' := [some (.ref p), some (.ref D), some (.int c), none, none, none, none, none, none, none]) rfl ?_
    try dsimp only [cxOf]
    obtain ⟨tvs, hD, hV⟩ := id hT
    have hlen : tvs.length = Tr.length := hV.len
    have h40 := wT.most
    obtain ⟨rt, hrt⟩ := hrt
    have hT1 : 1 ≤ Tr.length := by
      have := (List.getElem?_eq_some_iff.mp hrt).1
      omega
    have e50 : (10 : Int) ^ (50 : Int).toNat = 100000000000000000000000000000000000000000000000000 := by decide +kernel
    repeat walk_at "rd"
    rw [hlen, e50]
    rename_i t1 nt1 l1 nl1 t2 nt2 q nq
    have nqp := (((hpen.nw (o := .tup [.int 0]) nt1 (Nat.le_refl _)).nw (o := .lst [.int 0]) nl1 (Nat.le_refl _)).nw (o := .tup []) nt2 (Nat.le_refl _)).nep nq
    have nlp := (hpen.nw (o := .tup [.int 0]) nt1 (Nat.le_refl _)).nep nl1
    have t1p := hpen.nep nt1
    have t2p := ((hpen.nw (o := .tup [.int 0]) nt1 (Nat.le_refl _)).nw (o := .lst [.int 0]) nl1 (Nat.le_refl _)).nep nt2
    generalize hzs : [V.non, V.bl true, V.bl false, V.int (-1), V.int (Tr.length : Nat), V.str "0", V.ref t1, V.ref l1, V.int 100000000000000000000000000000000000000000000000000, V.ref t2, V.int (0 - (Tr.length : Nat))] = zs at *
    have hzl : zs.length = 11 := by rw [← hzs]; rfl
    have P2 := (((hpen.nw (o := .tup [.int 0]) nt1 (Nat.le_refl _)).nw (o := .lst [.int 0]) nl1 (Nat.le_refl _)).nw (o := .tup []) nt2 (Nat.le_refl _)).nw (o := .lst zs) nq (Nat.le_refl _)
    have k2 := ((((Kx.refl [] H).new (o := .tup [.int 0]) nt1).new (o := .lst [.int 0]) nl1).new (o := .tup []) nt2).new (o := .lst zs) nq
    have et1 := lk_ne (o := .lst zs) (lk_ne (o := .tup []) (lk_ne (o := .lst [.int 0]) (upd_same (H := H) (a := t1) (o := .tup [.int 0])) nl1) nt2) nq
    have el1 := lk_ne (o := .lst zs) (lk_ne (o := .tup []) (upd_same (H := upd H t1 (.tup [.int 0])) (a := l1) (o := .lst [.int 0])) nt2) nq
    have et2 := lk_ne (o := .lst zs) (upd_same (H := upd (upd H t1 (.tup [.int 0])) l1 (.lst [.int 0])) (a := t2) (o := .tup [])) nq
    have eq2 := upd_same (H := upd (upd (upd H t1 (.tup [.int 0])) l1 (.lst [.int 0])) t2 (.tup [])) (a := q) (o := .lst zs)
    generalize upd (upd (upd (upd H t1 (.tup [.int 0])) l1 (.lst [.int 0])) t2 (.tup [])) q (.lst zs) = H2 at *
    have hD2 := k2.sqT (by simp) hD
    have hV2 := hV.keep (Kt.of0 k2)
    refine y_lcR1 (by omega) (by omega) (fun U nU => ⟨fun i H3 => ∃ ns : List Nat, Kx [] H2 H3 ∧ H3 U = some (.lst (natV ns)) ∧ (∀ x ∈ ns, Tr[x]? = some none) ∧ ns.length ≤ i, ⟨[], (Kx.refl [] _).new nU, upd_same, (fun x hx => by cases hx), Nat.le_refl _⟩, fun _ _ _ _ => trivial, ?_, ?_⟩)
    · rintro i x H3 H3' hi ⟨ns, k3, eU, hns, hnl⟩ ⟨rfl, rfl⟩
      rw [Int.toNat_natCast] at hi
      have hTi := List.getElem?_eq_getElem hi
      obtain ⟨v, hv, hE⟩ := (hV2.keep (Kt.of0 k3)).at_ i _ hTi
      have hD3 := k3.sqT (by simp) hD2
      have hvA : atI tvs (0 + (i : Int)) = some v := by
        rw [Int.zero_add]
        exact atI_nat hv
      repeat walk_at "rd"
      refine ⟨rfl, ?_⟩
      repeat walk_at "rd"
      generalize Tr[i] = e at *
      cases hE with
      | non =>
        refine iteP rfl ?_
        repeat walk_at "rd"
        refine ⟨natV ns, eU, small1000 (by rw [natV_len]; omega), ns ++ [i], k3.wr (.inl nU), ?_, fun x hx => ?_, by rw [List.length_append, List.length_singleton]; omega⟩
        · rw [upd_same, Int.zero_add]
          unfold natV
          rw [List.map_append]
          rfl
        · rcases List.mem_append.mp hx with hx | hx
          · exact hns x hx
          · rw [List.mem_singleton.mp hx]
            exact hTi
      | root _ =>
        refine iteN (by simp) ⟨ns, k3, eU, hns, by omega⟩
      | par _ =>
        refine iteN (by simp) ⟨ns, k3, eU, hns, by omega⟩
    · rintro H3 ⟨ns, k3, eU, hns, hnl⟩
      rw [Int.toNat_natCast] at hnl
      have eq3 := k3 q _ (by simp) eq2
      have et13 := k3 t1 _ (by simp) et1
      have el13 := k3 l1 _ (by simp) el1
      have et23 := k3 t2 _ (by simp) et2
      have P3 := P2.keep k3 (by simp) (by simp) (Nat.le_refl _)
      replace k3 := k2.trans k3
      repeat walk_at "rd"
      refine x_catL eq3 eU (Nat.le_of_lt (small1000 (by rw [natV_len]; omega))) fun S nS => ?_
      have nSp := P3.nep nS
      have P4 := P3.nw (o := .lst (zs ++ natV ns)) nS (Nat.le_refl _)
      have k4 := k3.new (o := .lst (zs ++ natV ns)) nS
      have eS := upd_same (H := H3) (a := S) (o := .lst (zs ++ natV ns))
      have et14 := lk_ne (o := .lst (zs ++ natV ns)) et13 nS
      have el14 := lk_ne (o := .lst (zs ++ natV ns)) el13 nS
      have et24 := lk_ne (o := .lst (zs ++ natV ns)) et23 nS
      generalize upd H3 S (.lst (zs ++ natV ns)) = H4 at *
      have hsl : (zs ++ natV ns).length = 11 + ns.length := by rw [List.length_append, hzl, natV_len]
      have gi : ∀ {z : Int}, z.natAbs < 2 ^ 400 → GoodR (.int z) := fun h => ⟨(GoodN.int h).sh, rfl, by simp [PyData.depth], (GoodN.int h).sl, Nat.le_trans (GoodN.int h).wt (by decide)⟩
      have hat : ∀ i : Int, 0 ≤ i → i < 11 + ns.length → ∃ v d, atI (zs ++ natV ns) i = some v ∧ (∀ H' : Hp, H' t1 = some (.tup [.int 0]) → H' l1 = some (.lst [.int 0]) → H' t2 = some (.tup []) → Dp K H' v d) ∧ NoLiv Tr d ∧ GoodR d := by
        intro i i0 i1
        rcases Int.lt_or_le i 11 with h | h
        · have hz : ∀ v, atI zs i = some v → atI (zs ++ natV ns) i = some v := by
            intro v hv
            obtain ⟨j, rfl⟩ : ∃ j : Nat, i = j := ⟨i.toNat, by omega⟩
            refine atI_nat ?_
            rw [List.getElem?_append_left (by omega)]
            have hj : j < zs.length := by omega
            have h2 : atI zs (j : Int) = some (zs[j]'hj) := atI_nat (List.getElem?_eq_getElem hj)
            rw [h2] at hv
            rw [List.getElem?_eq_getElem hj]
            exact hv
          rw [← hzs] at hz
          rw [← hzs]
          have lv : ∀ {z : Int} , (z < 0 ∨ (Tr.length : Int) ≤ z) → NoLiv Tr (.int z) := fun h z e v hv => by
            have := liv_lt hv
            cases e
            omega
          have nl : ∀ {d : PyData}, isI d = false → NoLiv Tr d := fun h z e => by rw [e] at h; cases h
          rcases (show i = 0 ∨ i = 1 ∨ i = 2 ∨ i = 3 ∨ i = 4 ∨ i = 5 ∨ i = 6 ∨ i = 7 ∨ i = 8 ∨ i = 9 ∨ i = 10 by omega) with h | h | h | h | h | h | h | h | h | h | h <;> subst h
          · exact ⟨_, _, hz _ rfl, fun _ _ _ _ => .non, nl rfl, by constructor <;> decide +kernel⟩
          · exact ⟨_, _, hz _ rfl, fun _ _ _ _ => .bl true, nl rfl, by constructor <;> decide +kernel⟩
          · exact ⟨_, _, hz _ rfl, fun _ _ _ _ => .bl false, nl rfl, by constructor <;> decide +kernel⟩
          · exact ⟨_, _, hz _ rfl, fun _ _ _ _ => .int _, lv (.inl (by decide)), gi (by decide +kernel)⟩
          · exact ⟨_, _, hz _ rfl, fun _ _ _ _ => .int _, lv (.inr (Int.le_refl _)), gi (Nat.lt_of_le_of_lt (show (Tr.length : Int).natAbs ≤ 40 by omega) (by decide +kernel))⟩
          · exact ⟨_, _, hz _ rfl, fun _ _ _ _ => .str _, nl rfl, by constructor <;> decide +kernel⟩
          · exact ⟨_, .tuple [.int 0], hz _ rfl, fun _ h _ _ => .tup (SqT.of h) (.cons (.int 0) .nil), nl rfl, by constructor <;> decide +kernel⟩
          · exact ⟨_, .list [.int 0], hz _ rfl, fun _ _ h _ => .lst (SqL.of h) (.cons (.int 0) .nil), nl rfl, by constructor <;> decide +kernel⟩
          · exact ⟨_, _, hz _ rfl, fun _ _ _ _ => .int _, lv (.inr (by omega)), gi (by decide +kernel)⟩
          · exact ⟨_, .tuple [], hz _ rfl, fun _ _ _ h => .tup (SqT.of h) .nil, nl rfl, by constructor <;> decide +kernel⟩
          · exact ⟨_, _, hz _ rfl, fun _ _ _ _ => .int _, lv (.inl (by omega)), gi (Nat.lt_of_le_of_lt (show (0 - (Tr.length : Int)).natAbs ≤ 40 by omega) (by decide +kernel))⟩
        · obtain ⟨j, rfl⟩ : ∃ j : Nat, i = (11 + j : Nat) := ⟨(i - 11).toNat, by omega⟩
          have hj : j < ns.length := by omega
          have hx := List.getElem?_eq_getElem hj
          have hm := hns _ (List.getElem_mem hj)
          have hlt : ns[j] < Tr.length := (List.getElem?_eq_some_iff.mp hm).1
          refine ⟨_, _, atI_nat (by rw [List.getElem?_append_right (by omega), hzl, Nat.add_sub_cancel_left]; exact natV_get hx), fun _ _ _ _ => .int _, fun z e v hv => ?_, gi (Nat.lt_of_le_of_lt (show ((ns[j] : Nat) : Int).natAbs ≤ 40 by omega) (by decide +kernel))⟩
          cases e
          intro e2
          have e3 : ns[j] = v := by omega
          obtain ⟨e4, he4⟩ := hv
          rw [← e3, hm] at he4
          cases he4
      repeat walk_at "rd"
      rw [hsl]
      refine x_draw P4 (by omega) (by omega) (by omega) fun i5 H5 i50 i51 k5 P5 => ?_
      obtain ⟨odd, dodd, hodd, hdodd, hnodd, hgodd⟩ := hat i5 i50 (by omega)
      have eS5 := k5 S _ (by simpa using nSp) eS
      repeat walk_at "rd"
      rw [hsl]
      refine x_draw P5 (by omega) (by omega) (by omega) fun i6 H6 i60 i61 k6 P6 => ?_
      obtain ⟨oth, doth, hoth, hdoth, hnoth, hgoth⟩ := hat i6 i60 (by omega)
      have eS6 := k6 S _ (by simpa using nSp) eS5
      have k56 := k5.trans k6
      replace k6 := (k4.mono (by simp)).trans (k5.trans k6)
      have hT6 := hT.keep (Kt.of k6 fun z hz => by rw [List.mem_singleton.mp hz]; obtain ⟨cs, pl, r, h, _⟩ := hpen; exact ⟨_, h⟩)
      obtain ⟨tvs6, hD6, hV6⟩ := id hT6
      have et16 : H6 t1 = some (.tup [.int 0]) := k56 t1 _ (by simpa using t1p) et14
      have el16 : H6 l1 = some (.lst [.int 0]) := k56 l1 _ (by simpa using nlp) el14
      have et26 : H6 t2 = some (.tup []) := k56 t2 _ (by simpa using t2p) et24
      repeat walk_at "rd"
      refine y_lcR1 (by omega) (by omega) (fun U6 nU6 => ⟨fun i H7 => Kx [] H6 H7 ∧ H7 U6 = some (.lst (natV (nodesL Tr i))), ⟨(Kx.refl [] _).new nU6, upd_same⟩, fun _ _ _ _ => trivial, ?_, ?_⟩)
      · rintro i x H7 H7' hi ⟨k7, eU7⟩ ⟨rfl, rfl⟩
        rw [Int.toNat_natCast] at hi
        have hTi := List.getElem?_eq_getElem hi
        obtain ⟨v7, hv7, hE⟩ := (hV6.keep (Kt.of0 k7)).at_ i _ hTi
        have hD7 := k7.sqT (by simp) hD6
        have hvA : atI tvs6 (0 + (i : Int)) = some v7 := by
          rw [Int.zero_add]
          exact atI_nat hv7
        have es := nodesL_succ Tr i
        rw [hTi] at es
        have hZl : (natV (nodesL Tr i)).length < sizeLine := small1000 (by rw [natV_len]; have := nodesL_len Tr i; omega)
        repeat walk_at "rd"
        refine ⟨rfl, ?_⟩
        repeat walk_at "rd"
        generalize Tr[i] = e at *
        cases e with
        | none =>
          cases hE
          refine iteN (by simp) ⟨k7, ?_⟩
          rw [es, if_neg (by simp), List.append_nil]
          exact eU7
        | some e =>
          have hx : v7 ≠ .non := by
            cases hE <;> simp
          refine iteP (by simp [hx]) ?_
          repeat walk_at "rd"
          refine ⟨_, eU7, hZl, k7.wr (.inl nU6), ?_⟩
          rw [upd_same, es, if_pos ⟨some e, rfl, by simp⟩, Int.zero_add]
          unfold natV
          rw [List.map_append]
          rfl
      · rintro H7 ⟨k7, eU7⟩
        rw [Int.toNat_natCast] at eU7
        have P7 := P6.keep k7 (by simp) (by simp) (Nat.le_refl _)
        have nU6p := P6.nep nU6
        have hnl1 : 1 ≤ (nodesL Tr Tr.length).length := List.length_pos_of_mem (nodesL_mem.mpr ⟨(List.getElem?_eq_some_iff.mp hrt).1, ⟨_, hrt⟩⟩)
        have hnl2 := nodesL_len Tr Tr.length
        have hliv : ∀ x ∈ nodesL Tr Tr.length, Liv Tr x := fun x hx => (nodesL_mem.mp hx).2
        generalize nodesL Tr Tr.length = nodes at *
        repeat walk_at "rd"
        rw [natV_len]
        refine x_draw P7 (by omega) (by omega) (by omega) fun i8 H8 i80 i81 k8 P8 => ?_
        have h8 := List.getElem?_eq_getElem (l := nodes) (i := i8.toNat) (by omega)
        have hv := hliv _ (List.getElem_mem (l := nodes) (n := i8.toNat) (by omega))
        have at8 : atI (natV nodes) i8 = some (.int (nodes[i8.toNat]'(by omega) : Nat)) := by
          have := natV_at h8
          rwa [show ((i8.toNat : Nat) : Int) = i8 by omega] at this
        generalize nodes[i8.toNat] = v at *
        have eU8 := k8 U6 _ (by simpa using nU6p) eU7
        have kp := (k6.trans (k7.mono (by simp))).trans k8
        have penL : ∀ z ∈ [p], ∃ xs, H z = some (.lst xs) := fun z hz => by rw [List.mem_singleton.mp hz]; obtain ⟨cs, pl, r, h, _⟩ := hpen; exact ⟨_, h⟩
        have hT8 := hT.keep (Kt.of kp penL)
        have tab8 := tabs_kx kp penL hTab
        have et18 : H8 t1 = some (.tup [.int 0]) := k8 t1 _ (by simpa using t1p) (k7 t1 _ (by simp) et16)
        have el18 : H8 l1 = some (.lst [.int 0]) := k8 l1 _ (by simpa using nlp) (k7 l1 _ (by simp) el16)
        have et28 : H8 t2 = some (.tup []) := k8 t2 _ (by simpa using t2p) (k7 t2 _ (by simp) et26)
        repeat walk_at "rd"
        refine ⟨tab8, fun H9 x9 tab9 => ⟨odd, fun E Qn hE => ?_, fun L H10 nL k10 eL => ?_⟩⟩
        · refine x_cKW ?_
          repeat walk_at "rd"
          exact ⟨D, Tr, dep, odd, .int v, odd, dodd, .int v, c, rfl, extN_tree x9 hT8, wT, hdodd H9 (x9 _ _ et18 fun _ z => nomatch z) (x9 _ _ el18 fun _ z => nomatch z) (x9 _ _ et28 fun _ z => nomatch z), .int _, .inl ⟨hnodd, rfl⟩, hE⟩
        have P10 := (extN_pen x9 P8).keep k10 (by simp) (by simp) (Nat.le_refl _)
        have tab10 := tabs_kx k10 (fun z hz => by cases hz) tab9
        have hT10 := (extN_tree x9 hT8).keep (Kt.of0 k10)
        have y10 : Ky [p] H H10 := ((Ky.of kp).trans (Ky.ext x9)).trans (Ky.of (k10.mono (by simp)))
        have et110 : H10 t1 = some (.tup [.int 0]) := k10 t1 _ (by simp) (x9 _ _ et18 fun _ z => nomatch z)
        have el110 : H10 l1 = some (.lst [.int 0]) := k10 l1 _ (by simp) (x9 _ _ el18 fun _ z => nomatch z)
        have et210 : H10 t2 = some (.tup []) := k10 t2 _ (by simp) (x9 _ _ et28 fun _ z => nomatch z)
        repeat walk_at "rd"
        rename_i Fo nFo
        have P11 := P10.nw (o := .lst [.ref L]) nFo (Nat.le_refl _)
        have tab11 := tabs_kx ((Kx.refl [] H10).new (o := .lst [.ref L]) nFo) (fun z hz => by cases hz) tab10
        have hT11 := hT10.keep ((Kt.refl _).new (o := .lst [.ref L]) nFo)
        have y11 : Ky [p] H (upd H10 Fo (.lst [.ref L])) := y10.trans (Ky.of ((Kx.refl [p] H10).new nFo))
        have et111 := lk_ne (o := .lst [.ref L]) et110 nFo
        have el111 := lk_ne (o := .lst [.ref L]) el110 nFo
        have et211 := lk_ne (o := .lst [.ref L]) et210 nFo
        have eL11 := lk_ne (o := .lst [.ref L]) eL nFo
        have eF11 := upd_same (H := H10) (a := Fo) (o := .lst [.ref L])
        have nFp := P10.nep nFo
        have nFc := P10.nec nFo
        have nF8 : H10 Fo = none := nFo
        generalize hH11 : upd H10 Fo (.lst [.ref L]) = H11 at *
        refine ⟨ty_list (SqL.of eF11), ?_⟩
        repeat walk_at "rd"
        refine ⟨tab11, fun H12 x12 tab12 => ⟨odd, fun E Qn hE => ?_, fun L2 H13 nL2 k13 eL2 => ?_⟩⟩
        · refine x_cKW ?_
          repeat walk_at "rd"
          exact ⟨D, Tr, dep, .int v, odd, odd, .int v, dodd, c, rfl, extN_tree x12 hT11, wT, .int _, hdodd H12 (x12 _ _ et111 fun _ z => nomatch z) (x12 _ _ el111 fun _ z => nomatch z) (x12 _ _ et211 fun _ z => nomatch z), .inr ⟨v, rfl, hv, hnodd, rfl⟩, hE⟩
        have P13 := (extN_pen x12 P11).keep k13 (by simp) (by simp) (Nat.le_refl _)
        have tab13 := tabs_kx k13 (fun z hz => by cases hz) tab12
        have hT13 := (extN_tree x12 hT11).keep (Kt.of0 k13)
        have y13 : Ky [p] H H13 := (y11.trans (Ky.ext x12)).trans (Ky.of (k13.mono (by simp)))
        have et113 : H13 t1 = some (.tup [.int 0]) := k13 t1 _ (by simp) (x12 _ _ et111 fun _ z => nomatch z)
        have el113 : H13 l1 = some (.lst [.int 0]) := k13 l1 _ (by simp) (x12 _ _ el111 fun _ z => nomatch z)
        have et213 : H13 t2 = some (.tup []) := k13 t2 _ (by simp) (x12 _ _ et211 fun _ z => nomatch z)
        have eL13 : H13 L = some (.lst [odd]) := k13 L _ (by simp) (x12 _ _ eL11 fun _ z => nomatch z)
        have eF13 : H13 Fo = some (.lst [.ref L]) := k13 Fo _ (by simp) (x12 _ _ eF11 fun _ z => nomatch z)
        have nL2F : L2 ≠ Fo := fun z => by
          have := x12 _ _ eF11 fun _ z => nomatch z
          rw [← z, nL2] at this
          cases this
        have nLF : L ≠ Fo := ne_of_none eL nF8
        have l1F : l1 ≠ Fo := ne_of_none el110 nF8
        repeat walk_at "rd"
        have P14 := P13.upd (o := .lst ([.ref L] ++ [.ref L2])) nFp nFc (Nat.le_refl _)
        have kF14 : Kx [Fo] H13 (upd H13 Fo (.lst ([.ref L] ++ [.ref L2]))) := (Kx.refl [Fo] H13).wr (.inr (by simp))
        have tab14 := tabs_kx kF14 (fun z hz => by rw [List.mem_singleton.mp hz]; exact ⟨_, eF13⟩) tab13
        have hT14 := hT13.keep ((Kt.refl H13).wr (o := .lst ([.ref L] ++ [.ref L2])) eF13)
        have y14 : Ky [p] H (upd H13 Fo (.lst ([.ref L] ++ [.ref L2]))) := y13.wr y10 nF8 (by simpa using nFp)
        have et114 := kF14 t1 _ (by simpa using ne_of_none et110 nF8) et113
        have el114 := kF14 l1 _ (by simpa using l1F) el113
        have et214 := kF14 t2 _ (by simpa using ne_of_none et210 nF8) et213
        have eL14 := kF14 L _ (by simpa using nLF) eL13
        have eL214 := kF14 L2 _ (by simpa using nL2F) eL2
        have eF14 := upd_same (H := H13) (a := Fo) (o := .lst ([.ref L] ++ [.ref L2]))
        generalize upd H13 Fo (.lst ([.ref L] ++ [.ref L2])) = H14 at *
        refine ⟨ty_list (SqL.of eF14), ?_⟩
        repeat walk_at "rd"
        refine ⟨tab14, fun H15 x15 tab15 => ⟨odd, fun E Qn hE => ?_, fun L3 H16 nL3 k16 eL3 => ?_⟩⟩
        · refine x_cKW ?_
          repeat walk_at "rd"
          exact ⟨D, Tr, dep, odd, oth, odd, dodd, doth, c, rfl, extN_tree x15 hT14, wT, hdodd H15 (x15 _ _ et114 fun _ z => nomatch z) (x15 _ _ el114 fun _ z => nomatch z) (x15 _ _ et214 fun _ z => nomatch z), hdoth H15 (x15 _ _ et114 fun _ z => nomatch z) (x15 _ _ el114 fun _ z => nomatch z) (x15 _ _ et214 fun _ z => nomatch z), .inl ⟨hnodd, rfl⟩, hE⟩
        have P16 := (extN_pen x15 P14).keep k16 (by simp) (by simp) (Nat.le_refl _)
        have tab16 := tabs_kx k16 (fun z hz => by cases hz) tab15
        have y16 : Ky [p] H H16 := (y14.trans (Ky.ext x15)).trans (Ky.of (k16.mono (by simp)))
        have et116 : H16 t1 = some (.tup [.int 0]) := k16 t1 _ (by simp) (x15 _ _ et114 fun _ z => nomatch z)
        have el116 : H16 l1 = some (.lst [.int 0]) := k16 l1 _ (by simp) (x15 _ _ el114 fun _ z => nomatch z)
        have et216 : H16 t2 = some (.tup []) := k16 t2 _ (by simp) (x15 _ _ et214 fun _ z => nomatch z)
        have eL16 : H16 L = some (.lst [odd]) := k16 L _ (by simp) (x15 _ _ eL14 fun _ z => nomatch z)
        have eL216 : H16 L2 = some (.lst [odd]) := k16 L2 _ (by simp) (x15 _ _ eL214 fun _ z => nomatch z)
        have eF16 : H16 Fo = some (.lst ([.ref L] ++ [.ref L2])) := k16 Fo _ (by simp) (x15 _ _ eF14 fun _ z => nomatch z)
        have nL3F : L3 ≠ Fo := fun z => by
          have := x15 _ _ eF14 fun _ z => nomatch z
          rw [← z, nL3] at this
          cases this
        repeat walk_at "rd"
        have P17 := P16.upd (o := .lst ([.ref L] ++ [.ref L2] ++ [.ref L3])) nFp nFc (Nat.le_refl _)
        have kF17 : Kx [Fo] H16 (upd H16 Fo (.lst ([.ref L] ++ [.ref L2] ++ [.ref L3]))) := (Kx.refl [Fo] H16).wr (.inr (by simp))
        have tab17 := tabs_kx kF17 (fun z hz => by rw [List.mem_singleton.mp hz]; exact ⟨_, eF16⟩) tab16
        have y17 : Ky [p] H (upd H16 Fo (.lst ([.ref L] ++ [.ref L2] ++ [.ref L3]))) := y16.wr y10 nF8 (by simpa using nFp)
        have dodd17 := hdodd _ (kF17 t1 _ (by simpa using ne_of_none et110 nF8) et116) (kF17 l1 _ (by simpa using l1F) el116) (kF17 t2 _ (by simpa using ne_of_none et210 nF8) et216)
        have eL17 := kF17 L _ (by simpa using nLF) eL16
        have eL217 := kF17 L2 _ (by simpa using nL2F) eL216
        have eL317 := kF17 L3 _ (by simpa using nL3F) eL3
        have eF17 := upd_same (H := H16) (a := Fo) (o := .lst ([.ref L] ++ [.ref L2] ++ [.ref L3]))
        generalize upd H16 Fo (.lst ([.ref L] ++ [.ref L2] ++ [.ref L3])) = H17 at *
        have ggd : GoodN 130 dodd 3 1000 := ⟨hgodd.sh, hgodd.nd, hgodd.dp, hgodd.sl, hgodd.wt⟩
        refine x_repr3 (SqL.of eF17) (.cons (.lst (SqL.of eL17) (.cons dodd17 .nil)) (.cons (.lst (SqL.of eL217) (.cons dodd17 .nil)) (.cons (.lst (SqL.of eL317) (.cons dodd17 .nil)) .nil))) ggd ?_
        generalize hex : (PyData.list [.list [dodd], .list [dodd], .list [dodd]]).shown = ex
        repeat walk_at "rd"
        rename_i m1 nm1 m2 nm2 m3 nm3 M nM
        have kM := ((((Kx.refl [] H17).new (o := .lst [odd]) nm1).new (o := .lst [odd]) nm2).new (o := .lst [odd]) nm3).new (o := .lst [.ref m1, .ref m2, .ref m3]) nM
        have doddM := hdodd _ (kM t1 _ (by simp) (kF17 t1 _ (by simpa using ne_of_none et110 nF8) et116)) (kM l1 _ (by simp) (kF17 l1 _ (by simpa using l1F) el116)) (kM t2 _ (by simp) (kF17 t2 _ (by simpa using ne_of_none et210 nF8) et216))
        have em1 := lk_ne (o := .lst [.ref m1, .ref m2, .ref m3]) (lk_ne (o := .lst [odd]) (lk_ne (o := .lst [odd]) (upd_same (H := H17) (a := m1) (o := .lst [odd])) nm2) nm3) nM
        have em2 := lk_ne (o := .lst [.ref m1, .ref m2, .ref m3]) (lk_ne (o := .lst [odd]) (upd_same (H := upd H17 m1 (.lst [odd])) (a := m2) (o := .lst [odd])) nm3) nM
        have em3 := lk_ne (o := .lst [.ref m1, .ref m2, .ref m3]) (upd_same (H := upd (upd H17 m1 (.lst [odd])) m2 (.lst [odd])) (a := m3) (o := .lst [odd])) nM
        refine x_repr3 (SqL.of upd_same) (.cons (.lst (SqL.of em1) (.cons doddM .nil)) (.cons (.lst (SqL.of em2) (.cons doddM .nil)) (.cons (.lst (SqL.of em3) (.cons doddM .nil)) .nil))) ggd ?_
        rw [hex]
        repeat walk_at "rd"
        rw [decide_eq_true (show V.str ex = V.str ex from rfl)]
        exact k _ (y17.trans (Ky.of (kM.mono (by simp)))) (P17.keep kM (by simp) (by simp) (by omega)) (tabs_kx kM (fun z hz => by cases hz) tab17)
end


section
variable {P : Program} {w : World} {K : PySem.W.Frag} {mg : Str → Option Value} {base : Heap}

theorem ky_tree {H H' : Hp} {p D : Addr} {T : List Ent} (k : Ky [p] H H') (hp : ∃ xs, H p = some (.lst xs)) (h : TreeAt K H D T) : TreeAt K H' D T := by
  have out : ∀ {b : Addr} {o : HO}, H b = some o → (∀ xs, o ≠ .lst xs) → (∀ ps, o ≠ .tbl ps) → H' b = some o := fun {b o} e n m => k b o (fun hm => by
    obtain ⟨xs, hx⟩ := hp
    rw [List.mem_singleton.mp hm, hx] at e
    exact n xs (Option.some.inj e).symm) e m
  have sq : ∀ {a : Addr} {xs : List V}, SqT K H a xs → SqT K H' a xs := fun {a xs} h => by
    rcases h with (h | ⟨o, h⟩) | h
    · exact .inl (.inl (out h (fun _ z => nomatch z) fun _ z => nomatch z))
    · exact .inl (.inr ⟨o, out h (fun _ z => nomatch z) fun _ z => nomatch z⟩)
    · exact .inr h
  obtain ⟨vs, h1, h2⟩ := h
  refine ⟨vs, sq h1, h2.len, fun i en hi => ?_⟩
  obtain ⟨v, hv, hE⟩ := h2.at_ i en hi
  refine ⟨v, hv, ?_⟩
  cases hE with
  | non => exact .non
  | root h => exact .root (sq h)
  | par h => exact .par (out h (fun _ z => nomatch z) fun _ z => nomatch z)
theorem penL {H : Hp} {p c : Addr} {n : Nat} (h : PenAt H p c n) : ∃ xs, H p = some (HO.lst xs) := by
  obtain ⟨cs, pl, r, h, _⟩ := h
  exact ⟨_, h⟩
theorem penLs {H : Hp} {p c : Addr} {n : Nat} (h : PenAt H p c n) : ∀ z ∈ [p], ∃ xs, H z = some (HO.lst xs) := fun z hz => by
  rw [List.mem_singleton.mp hz]
  exact penL h
def spLaw (K : PySem.W.Frag) (PR : Addr) : Sp := fun vs H Q _ => ∃ (a : Addr) (ns : List Int), vs = [.ref a] ∧ SqL K H a (ns.map V.int) ∧ LamX.Tabs [(PR, lamQ)] H ∧ ∀ H', Q (.bl true) H'
theorem ok_law {f PR : Addr} {fd : FuncData} (F : Fun K "law" "law" sLaw f fd) (T : Txt mg) (l_law_pen : Lo P w K mg base "_law_pen" 1 ["_law_script"] (spPen K)) (l_law_tree : Lo P w K mg base "_law_tree" 3 ["_law_pen_here", "_law_most"] (spTree K))
    (l_law_limit : Lo P w K mg base "_law_limit" 2 ["_law_pen_here", "_law_size_here"] spLimit) (l_law_right : Lo P w K mg base "_law_right" 5 ["_law_pen_here", "_law_given", "_law_cap"] (spRight K)) (l_law_refused : Lk P w K mg base "_law_refused" 8 ["_law_pen_here", "_law_given", "_law_cap"] (spRefused K PR)) : FnG P w K mg base 9 f fd ["_law_script"] (spLaw K PR) := by
  refine FnG.body F scLaw (fun vs H Q E h => ?_) (fun cdv A outer s H vs Q E hgd hr h => ?_)
  · obtain ⟨a, ns, rfl, _⟩ := h
    rfl
  · obtain ⟨a, ns, rfl, ha, hTab, k⟩ := h
    refine ⟨_, (pss_cons (ps_set (i := 1) scLaw.nd rfl (Or.inl rfl) (pe_lo l_law_pen (hr.mono (by decide)) (by rfl) (pa_cons (pv 0) pa_nil)))
      (pss_cons (ps_for PassesOwn.never rfl (pi_tup (pe_tup (pa_cons pe_int (pa_cons pe_int pa_nil)))) (pg_name (i := 2) scLaw.nd rfl (Or.inl rfl))
      (pss_cons (ps_set (i := 3) scLaw.nd rfl (Or.inl rfl) (pe_lo l_law_tree (hr.mono (by decide)) (by rfl) (pa_cons (pv 1) (pa_cons (pv 2) pa_nil))))
      (pss_one (ps_for PassesOwn.never rfl (pi_range1 (by rfl) T.b_range (pa_cons pe_int pa_nil)) (pg_name (i := 4) scLaw.nd rfl (Or.inl rfl))
      (pss_cons (ps_set (i := 5) scLaw.nd rfl (Or.inl rfl) (pe_lo l_law_limit (hr.mono (by decide)) (by rfl) (pa_cons (pv 1) (pa_cons (pe_callB call_len_seq (by rfl) T.b_len boot'_len (pa_cons (pv 3) pa_nil)) pa_nil))))
      (pss_one (ps_if ((pw_or (pt_not (pt_val (pe_lo l_law_right (hr.mono (by decide)) (by rfl) (pa_cons (pv 1) (pa_cons (pv 3) (pa_cons (pv 5) pa_nil)))))) (pw_or1 (pt_not (pt_val (pe_lk l_law_refused hgd (hr.mono (by decide)) (by rfl) (pa_cons (pv 1) (pa_cons (pv 3) (pa_cons (pv 5) pa_nil))))))))).pt (pss_one (ps_ret pe_bl)) pss_nil)))))))
      (pss_one (ps_ret pe_bl)))), ?_⟩
    refine x_start (σ' := [some (.ref a), none, none, none, none, none]) rfl ?_
    try dsimp only [cxOf]
    repeat walk_at "rd"
    refine ⟨a, ns, rfl, ha, fun p c H1 np nc k1 P1 => ?_⟩
    have tab1 := tabs_kx k1 (fun z hz => by cases hz) hTab
    repeat walk_at "rd"
    rename_i tq ntq
    have P2 := P1.nw (o := .tup [V.int 9, V.int 40]) ntq (Nat.le_refl _)
    have tab2 := tabs_kx ((Kx.refl [] H1).new (o := .tup [V.int 9, V.int 40]) ntq) (fun z hz => by cases hz) tab1
    have eq2 := upd_same (H := H1) (a := tq) (o := .tup [V.int 9, V.int 40])
    generalize upd H1 tq (.tup [V.int 9, V.int 40]) = H2 at *
    have tqp : tq ≠ p := fun z => by obtain ⟨xs, h⟩ := (penL P2); rw [← z, eq2] at h; cases h
    refine y_forT (SqT.of eq2) ⟨fun i σ H3 => ∃ (y2 y3 y4 y5 : Option V), σ = [some (.ref a), some (.ref p), y2, y3, y4, y5] ∧ PenAt H3 p c (1000 * i) ∧ LamX.Tabs [(PR, lamQ)] H3 ∧ H3 tq = some (.tup [V.int 9, V.int 40]), ⟨none, none, none, none, rfl, P2.keep (Kx.refl [] _) (by simp) (by simp) (by omega), tab2, eq2⟩, ?_, ?_, ?_⟩
    · rintro i σ H3 hi ⟨y2, y3, y4, y5, rfl, P3, tab3, eq3⟩
      exact SqT.of eq3
    · rintro i x σ H3 H3' hi ⟨y2, y3, y4, y5, rfl, P3, tab3, eq3⟩ ⟨rfl, hx⟩
      have hi2 : i < 2 := hi
      obtain ⟨M, rfl, hM1, hM2⟩ : ∃ M : Nat, x = .int M ∧ 1 ≤ M ∧ M ≤ 40 := by
        rcases (show i = 0 ∨ i = 1 by omega) with h | h <;> subst h
        · exact ⟨9, (Option.some.inj hx).symm, by decide, by decide⟩
        · exact ⟨40, (Option.some.inj hx).symm, by decide, by decide⟩
      repeat walk_at "rd"
      refine ⟨p, c, _, M, rfl, P3, hM1, hM2, by omega, fun D H4 Tr dep nD k4 hT4 wT hT1 hrt P4 => ?_⟩
      have tab4 := tabs_kx k4 (penLs P3) tab3
      have eq4 := k4 tq _ (by simpa using tqp) eq3
      repeat walk_at "rd"
      refine y_forR1 (by decide) (by decide) ⟨fun j σ H5 => ∃ (y2 y4 y5 : Option V), σ = [some (.ref a), some (.ref p), y2, some (.ref D), y4, y5] ∧ PenAt H5 p c (1000 * i + 300 + 200 * j) ∧ LamX.Tabs [(PR, lamQ)] H5 ∧ H5 tq = some (.tup [V.int 9, V.int 40]) ∧ TreeAt K H5 D Tr, ⟨_, _, _, rfl, P4, tab4, eq4, hT4⟩, fun _ _ _ _ _ => trivial, ?_, ?_⟩
      · rintro j x σ H5 H5' hj ⟨y2, y4, y5, rfl, P5, tab5, eq5, hT5⟩ ⟨rfl, rfl⟩
        have hj3 : j < 3 := hj
        obtain ⟨tvs, hD, hV⟩ := id hT5
        have hlen := hV.len
        have h40 := wT.most
        repeat walk_at "rd"
        rw [hlen]
        refine ⟨p, c, _, Tr.length, rfl, P5, hT1, by omega, by omega, fun z H6 z1 z2 k6 P6 => ?_⟩
        have tab6 := tabs_kx k6 (penLs P5) tab5
        have eq6 := k6 tq _ (by simpa using tqp) eq5
        have hT6 := hT5.keep (Kt.of k6 (penLs P5))
        repeat walk_at "rd"
        refine ⟨D, p, c, _, Tr, dep, z, rfl, P6, by omega, hT6, wT, hrt, z1, fun H7 k7 P7 => ?_⟩
        have tab7 := tabs_kx k7 (penLs P6) tab6
        have eq7 := k7 tq _ (by simpa using tqp) eq6
        have hT7 := hT6.keep (Kt.of k7 (penLs P6))
        repeat walk_at "rd"
        refine iteN (by decide) ?_
        repeat walk_at "rd"
        refine ⟨D, p, c, _, Tr, dep, z, rfl, P7, by omega, hT7, wT, hrt, z1, tab7, fun H8 k8 P8 tab8 => ?_⟩
        have eq8 := k8 tq _ (by simpa using tqp) eq7 (fun _ z => nomatch z)
        have hT8 := ky_tree k8 (penL P7) hT7
        repeat walk_at "rd"
        try refine iteN (by decide) ?_
        repeat walk_at "rd"
        exact ⟨_, _, _, rfl, P8.keep (Kx.refl [] _) (by simp) (by simp) (by omega), tab8, eq8, hT8⟩
      · rintro σ H5 ⟨y2, y4, y5, rfl, P5, tab5, eq5, hT5⟩
        repeat walk_at "rd"
        exact ⟨_, _, _, _, rfl, P5.keep (Kx.refl [] _) (by simp) (by simp) (show 1000 * i + 300 + 200 * 3 ≤ 1000 * (i + 1) by omega), tab5, eq5⟩
    · rintro σ H3 ⟨y2, y3, y4, y5, rfl, P3, tab3, eq3⟩
      repeat walk_at "rd"
      exact k _
end

theorem all_mk {l : PySem.W.OpenLaw} {w : World} {K : PySem.W.Frag} {h : Heap} {mg : Str → Option Value} {fa : Addr} (X : K.In h) (G : h.Ns mainGlobals mg) (hfa : mg "law" = some (.ref fa))
    {C_NotFreed : Addr} (c_NotFreed : PySem.W.nsIn K mainGlobals "NotFreed" = some (some (.ref C_NotFreed)))
    {C_MissingError : Addr} (c_MissingError : PySem.W.nsIn K mainGlobals "MissingError" = some (some (.ref C_MissingError)))
    {C_NoNode : Addr} (c_NoNode : PySem.W.nsIn K mainGlobals "NoNode" = some (some (.ref C_NoNode)))
    {C_NoPosition : Addr} (c_NoPosition : PySem.W.nsIn K mainGlobals "NoPosition" = some (some (.ref C_NoPosition)))
    {C_NoReference : Addr} (c_NoReference : PySem.W.nsIn K mainGlobals "NoReference" = some (some (.ref C_NoReference)))
    {C_NoSlot : Addr} (c_NoSlot : PySem.W.nsIn K mainGlobals "NoSlot" = some (some (.ref C_NoSlot)))
    {C_UndoError : Addr} (c_UndoError : PySem.W.nsIn K mainGlobals "UndoError" = some (some (.ref C_UndoError)))
    (xi_NotFreed : PySem.W.excInitIn K C_NotFreed bmLE "LookupError.__new__" = true) (xo_NotFreed : PySem.W.excOver K C_NotFreed bmLE = true) (xd_NotFreed : PySem.W.hasDictIn K C_NotFreed = true) (xs_NotFreed : PySem.W.findIn K (.ref C_NotFreed) "__setattr__" = some (some (.builtin "object.__setattr__")))
    (xe_NotFreed : PySem.W.subIn K (.ref C_NotFreed) (.type "BaseException") = some true) (xt_NotFreed : PySem.W.typeIn K (.ref C_NotFreed) = some (.type "type")) (xk_NotFreed : PySem.W.keepIn K (.ref C_NotFreed) = true) (xn_NotFreed : PySem.W.takerIn K C_NotFreed "node" = some none)
    (xg_NotFreed : PySem.W.findIn K (.ref C_NotFreed) "__getattribute__" = some (some (.builtin "BaseException.__getattribute__"))) (xG_NotFreed : PySem.W.findIn K (.ref C_NotFreed) "__getattr__" = some none) (xf_NotFreed : PySem.W.findIn K (.ref C_NotFreed) "node" = some none)
    (xc_NotFreed : PySem.W.findIn K (.ref C_NotFreed) "__class__" = some (some (.builtin "object.__class__"))) (xh_NotFreed : PySem.W.specialIn K (.builtin "object.__class__") "__get__" = some (some (.builtin "getset_descriptor.__get__"))) (xT_NotFreed : PySem.W.takesIn K (.builtin "object.__class__") = some true) (xm_NotFreed : PySem.W.mroIn K C_NotFreed (.type "object") = some true)
    {f_iNotFreed : Addr} {od_iNotFreed an_iNotFreed : Option Addr} {sl_iNotFreed : Array (Option Value)} {oc_iNotFreed kV_iNotFreed dc_iNotFreed pm_iNotFreed cd_iNotFreed ct_iNotFreed : Value}
    (a_iNotFreed : PySem.W.findIn K (.ref C_NotFreed) "__init__" = some (some (.ref f_iNotFreed))) (t_iNotFreed : PySem.W.typeIn K (.ref f_iNotFreed) = some (.type "function"))
    (l_iNotFreed : K.lookup f_iNotFreed = some ⟨oc_iNotFreed, od_iNotFreed, .func (PySem.W.fnOf "__init__" "NotFreed.__init__" (defArgs sNotFreedInit) (defBody sNotFreedInit) (defScope sNotFreedInit) .none kV_iNotFreed dc_iNotFreed pm_iNotFreed an_iNotFreed cd_iNotFreed ct_iNotFreed), sl_iNotFreed⟩)
    (c_iNotFreed : PySem.W.codeIn K cd_iNotFreed "NotFreed.__init__" = true) (k_iNotFreed : PySem.W.keepIn K (.ref f_iNotFreed) = true)
    (q1 : PySem.W.kitOne K (.ref C_NotFreed) (.ref C_NotFreed) = some true) (q2 : PySem.W.kitAny K (.ref C_NotFreed) [.ref C_NoNode, .ref C_NoPosition, .ref C_NoReference, .ref C_NoSlot, .ref C_UndoError] = some false) (q3 : PySem.W.kitOne K (.ref C_NotFreed) (.type "LookupError") = some true) (q4 : PySem.W.exmOne K (.ref C_NotFreed) (.ref C_MissingError) = some true)
    {f_is_integer : Addr} {od_is_integer an_is_integer : Option Addr} {sl_is_integer : Array (Option Value)} {oc_is_integer kV_is_integer dc_is_integer pm_is_integer cd_is_integer ct_is_integer : Value}
    (a_is_integer : PySem.W.nsIn K mainGlobals "is_integer" = some (some (.ref f_is_integer))) (l_is_integer : K.lookup f_is_integer = some ⟨oc_is_integer, od_is_integer, .func (PySem.W.fnOf "is_integer" "is_integer" (defArgs sIsInteger) (defBody sIsInteger) (defScope sIsInteger) .none kV_is_integer dc_is_integer pm_is_integer an_is_integer cd_is_integer ct_is_integer), sl_is_integer⟩)
    (c_is_integer : PySem.W.codeIn K cd_is_integer "is_integer" = true) (k_is_integer : PySem.W.keepIn K (.ref f_is_integer) = true)
    {f_need_freed : Addr} {od_need_freed an_need_freed : Option Addr} {sl_need_freed : Array (Option Value)} {oc_need_freed kV_need_freed dc_need_freed pm_need_freed cd_need_freed ct_need_freed : Value}
    (a_need_freed : PySem.W.nsIn K mainGlobals "need_freed" = some (some (.ref f_need_freed))) (l_need_freed : K.lookup f_need_freed = some ⟨oc_need_freed, od_need_freed, .func (PySem.W.fnOf "need_freed" "need_freed" (defArgs sNeedFreed) (defBody sNeedFreed) (defScope sNeedFreed) .none kV_need_freed dc_need_freed pm_need_freed an_need_freed cd_need_freed ct_need_freed), sl_need_freed⟩)
    (c_need_freed : PySem.W.codeIn K cd_need_freed "need_freed" = true) (k_need_freed : PySem.W.keepIn K (.ref f_need_freed) = true)
    {f_slots_to : Addr} {od_slots_to an_slots_to : Option Addr} {sl_slots_to : Array (Option Value)} {oc_slots_to kV_slots_to dc_slots_to pm_slots_to cd_slots_to ct_slots_to : Value}
    (a_slots_to : PySem.W.nsIn K mainGlobals "_slots_to" = some (some (.ref f_slots_to))) (l_slots_to : K.lookup f_slots_to = some ⟨oc_slots_to, od_slots_to, .func (PySem.W.fnOf "_slots_to" "_slots_to" (defArgs sSlotsTo) (defBody sSlotsTo) (defScope sSlotsTo) .none kV_slots_to dc_slots_to pm_slots_to an_slots_to cd_slots_to ct_slots_to), sl_slots_to⟩)
    (c_slots_to : PySem.W.codeIn K cd_slots_to "_slots_to" = true) (k_slots_to : PySem.W.keepIn K (.ref f_slots_to) = true)
    {f_nodes_in : Addr} {od_nodes_in an_nodes_in : Option Addr} {sl_nodes_in : Array (Option Value)} {oc_nodes_in kV_nodes_in dc_nodes_in pm_nodes_in cd_nodes_in ct_nodes_in : Value}
    (a_nodes_in : PySem.W.nsIn K mainGlobals "_nodes_in" = some (some (.ref f_nodes_in))) (l_nodes_in : K.lookup f_nodes_in = some ⟨oc_nodes_in, od_nodes_in, .func (PySem.W.fnOf "_nodes_in" "_nodes_in" (defArgs sNodesIn) (defBody sNodesIn) (defScope sNodesIn) .none kV_nodes_in dc_nodes_in pm_nodes_in an_nodes_in cd_nodes_in ct_nodes_in), sl_nodes_in⟩)
    (c_nodes_in : PySem.W.codeIn K cd_nodes_in "_nodes_in" = true) (k_nodes_in : PySem.W.keepIn K (.ref f_nodes_in) = true)
    {f_node_rank : Addr} {od_node_rank an_node_rank : Option Addr} {sl_node_rank : Array (Option Value)} {oc_node_rank kV_node_rank dc_node_rank pm_node_rank cd_node_rank ct_node_rank : Value}
    (a_node_rank : PySem.W.nsIn K mainGlobals "_node_rank" = some (some (.ref f_node_rank))) (l_node_rank : K.lookup f_node_rank = some ⟨oc_node_rank, od_node_rank, .func (PySem.W.fnOf "_node_rank" "_node_rank" (defArgs sNodeRank) (defBody sNodeRank) (defScope sNodeRank) .none kV_node_rank dc_node_rank pm_node_rank an_node_rank cd_node_rank ct_node_rank), sl_node_rank⟩)
    (c_node_rank : PySem.W.codeIn K cd_node_rank "_node_rank" = true) (k_node_rank : PySem.W.keepIn K (.ref f_node_rank) = true)
    {f_node_before : Addr} {od_node_before an_node_before : Option Addr} {sl_node_before : Array (Option Value)} {oc_node_before kV_node_before dc_node_before pm_node_before cd_node_before ct_node_before : Value}
    (a_node_before : PySem.W.nsIn K mainGlobals "node_before" = some (some (.ref f_node_before))) (l_node_before : K.lookup f_node_before = some ⟨oc_node_before, od_node_before, .func (PySem.W.fnOf "node_before" "node_before" (defArgs sNodeBefore) (defBody sNodeBefore) (defScope sNodeBefore) .none kV_node_before dc_node_before pm_node_before an_node_before cd_node_before ct_node_before), sl_node_before⟩)
    (c_node_before : PySem.W.codeIn K cd_node_before "node_before" = true) (k_node_before : PySem.W.keepIn K (.ref f_node_before) = true)
    {f_law_pen : Addr} {od_law_pen an_law_pen : Option Addr} {sl_law_pen : Array (Option Value)} {oc_law_pen kV_law_pen dc_law_pen pm_law_pen cd_law_pen ct_law_pen : Value}
    (a_law_pen : PySem.W.nsIn K mainGlobals "_law_pen" = some (some (.ref f_law_pen))) (l_law_pen : K.lookup f_law_pen = some ⟨oc_law_pen, od_law_pen, .func (PySem.W.fnOf "_law_pen" "_law_pen" (defArgs sQPen) (defBody sQPen) (defScope sQPen) .none kV_law_pen dc_law_pen pm_law_pen an_law_pen cd_law_pen ct_law_pen), sl_law_pen⟩)
    (c_law_pen : PySem.W.codeIn K cd_law_pen "_law_pen" = true) (k_law_pen : PySem.W.keepIn K (.ref f_law_pen) = true)
    {f_law_draw : Addr} {od_law_draw an_law_draw : Option Addr} {sl_law_draw : Array (Option Value)} {oc_law_draw kV_law_draw dc_law_draw pm_law_draw cd_law_draw ct_law_draw : Value}
    (a_law_draw : PySem.W.nsIn K mainGlobals "_law_draw" = some (some (.ref f_law_draw))) (l_law_draw : K.lookup f_law_draw = some ⟨oc_law_draw, od_law_draw, .func (PySem.W.fnOf "_law_draw" "_law_draw" (defArgs sQDraw) (defBody sQDraw) (defScope sQDraw) .none kV_law_draw dc_law_draw pm_law_draw an_law_draw cd_law_draw ct_law_draw), sl_law_draw⟩)
    (c_law_draw : PySem.W.codeIn K cd_law_draw "_law_draw" = true) (k_law_draw : PySem.W.keepIn K (.ref f_law_draw) = true)
    {f_law_order : Addr} {od_law_order an_law_order : Option Addr} {sl_law_order : Array (Option Value)} {oc_law_order kV_law_order dc_law_order pm_law_order cd_law_order ct_law_order : Value}
    (a_law_order : PySem.W.nsIn K mainGlobals "_law_order" = some (some (.ref f_law_order))) (l_law_order : K.lookup f_law_order = some ⟨oc_law_order, od_law_order, .func (PySem.W.fnOf "_law_order" "_law_order" (defArgs sQOrder) (defBody sQOrder) (defScope sQOrder) .none kV_law_order dc_law_order pm_law_order an_law_order cd_law_order ct_law_order), sl_law_order⟩)
    (c_law_order : PySem.W.codeIn K cd_law_order "_law_order" = true) (k_law_order : PySem.W.keepIn K (.ref f_law_order) = true)
    {f_law_size : Addr} {od_law_size an_law_size : Option Addr} {sl_law_size : Array (Option Value)} {oc_law_size kV_law_size dc_law_size pm_law_size cd_law_size ct_law_size : Value}
    (a_law_size : PySem.W.nsIn K mainGlobals "_law_size" = some (some (.ref f_law_size))) (l_law_size : K.lookup f_law_size = some ⟨oc_law_size, od_law_size, .func (PySem.W.fnOf "_law_size" "_law_size" (defArgs sQSize) (defBody sQSize) (defScope sQSize) .none kV_law_size dc_law_size pm_law_size an_law_size cd_law_size ct_law_size), sl_law_size⟩)
    (c_law_size : PySem.W.codeIn K cd_law_size "_law_size" = true) (k_law_size : PySem.W.keepIn K (.ref f_law_size) = true)
    {f_law_tree : Addr} {od_law_tree an_law_tree : Option Addr} {sl_law_tree : Array (Option Value)} {oc_law_tree kV_law_tree dc_law_tree pm_law_tree cd_law_tree ct_law_tree : Value}
    (a_law_tree : PySem.W.nsIn K mainGlobals "_law_tree" = some (some (.ref f_law_tree))) (l_law_tree : K.lookup f_law_tree = some ⟨oc_law_tree, od_law_tree, .func (PySem.W.fnOf "_law_tree" "_law_tree" (defArgs sQTree) (defBody sQTree) (defScope sQTree) .none kV_law_tree dc_law_tree pm_law_tree an_law_tree cd_law_tree ct_law_tree), sl_law_tree⟩)
    (c_law_tree : PySem.W.codeIn K cd_law_tree "_law_tree" = true) (k_law_tree : PySem.W.keepIn K (.ref f_law_tree) = true)
    {f_law_walk : Addr} {od_law_walk an_law_walk : Option Addr} {sl_law_walk : Array (Option Value)} {oc_law_walk kV_law_walk dc_law_walk pm_law_walk cd_law_walk ct_law_walk : Value}
    (a_law_walk : PySem.W.nsIn K mainGlobals "_law_walk" = some (some (.ref f_law_walk))) (l_law_walk : K.lookup f_law_walk = some ⟨oc_law_walk, od_law_walk, .func (PySem.W.fnOf "_law_walk" "_law_walk" (defArgs sQWalk) (defBody sQWalk) (defScope sQWalk) .none kV_law_walk dc_law_walk pm_law_walk an_law_walk cd_law_walk ct_law_walk), sl_law_walk⟩)
    (c_law_walk : PySem.W.codeIn K cd_law_walk "_law_walk" = true) (k_law_walk : PySem.W.keepIn K (.ref f_law_walk) = true)
    {f_law_limit : Addr} {od_law_limit an_law_limit : Option Addr} {sl_law_limit : Array (Option Value)} {oc_law_limit kV_law_limit dc_law_limit pm_law_limit cd_law_limit ct_law_limit : Value}
    (a_law_limit : PySem.W.nsIn K mainGlobals "_law_limit" = some (some (.ref f_law_limit))) (l_law_limit : K.lookup f_law_limit = some ⟨oc_law_limit, od_law_limit, .func (PySem.W.fnOf "_law_limit" "_law_limit" (defArgs sQLimit) (defBody sQLimit) (defScope sQLimit) .none kV_law_limit dc_law_limit pm_law_limit an_law_limit cd_law_limit ct_law_limit), sl_law_limit⟩)
    (c_law_limit : PySem.W.codeIn K cd_law_limit "_law_limit" = true) (k_law_limit : PySem.W.keepIn K (.ref f_law_limit) = true)
    {f_law_error : Addr} {od_law_error an_law_error : Option Addr} {sl_law_error : Array (Option Value)} {oc_law_error kV_law_error dc_law_error pm_law_error cd_law_error ct_law_error : Value}
    (a_law_error : PySem.W.nsIn K mainGlobals "_law_error" = some (some (.ref f_law_error))) (l_law_error : K.lookup f_law_error = some ⟨oc_law_error, od_law_error, .func (PySem.W.fnOf "_law_error" "_law_error" (defArgs sQError) (defBody sQError) (defScope sQError) .none kV_law_error dc_law_error pm_law_error an_law_error cd_law_error ct_law_error), sl_law_error⟩)
    (c_law_error : PySem.W.codeIn K cd_law_error "_law_error" = true) (k_law_error : PySem.W.keepIn K (.ref f_law_error) = true)
    {f_law_pairs : Addr} {od_law_pairs an_law_pairs : Option Addr} {sl_law_pairs : Array (Option Value)} {oc_law_pairs kV_law_pairs dc_law_pairs pm_law_pairs cd_law_pairs ct_law_pairs : Value}
    (a_law_pairs : PySem.W.nsIn K mainGlobals "_law_pairs" = some (some (.ref f_law_pairs))) (l_law_pairs : K.lookup f_law_pairs = some ⟨oc_law_pairs, od_law_pairs, .func (PySem.W.fnOf "_law_pairs" "_law_pairs" (defArgs sQPairs) (defBody sQPairs) (defScope sQPairs) .none kV_law_pairs dc_law_pairs pm_law_pairs an_law_pairs cd_law_pairs ct_law_pairs), sl_law_pairs⟩)
    (c_law_pairs : PySem.W.codeIn K cd_law_pairs "_law_pairs" = true) (k_law_pairs : PySem.W.keepIn K (.ref f_law_pairs) = true)
    {f_law_right : Addr} {od_law_right an_law_right : Option Addr} {sl_law_right : Array (Option Value)} {oc_law_right kV_law_right dc_law_right pm_law_right cd_law_right ct_law_right : Value}
    (a_law_right : PySem.W.nsIn K mainGlobals "_law_right" = some (some (.ref f_law_right))) (l_law_right : K.lookup f_law_right = some ⟨oc_law_right, od_law_right, .func (PySem.W.fnOf "_law_right" "_law_right" (defArgs sQRight) (defBody sQRight) (defScope sQRight) .none kV_law_right dc_law_right pm_law_right an_law_right cd_law_right ct_law_right), sl_law_right⟩)
    (c_law_right : PySem.W.codeIn K cd_law_right "_law_right" = true) (k_law_right : PySem.W.keepIn K (.ref f_law_right) = true)
    {f_law_refused : Addr} {od_law_refused an_law_refused : Option Addr} {sl_law_refused : Array (Option Value)} {oc_law_refused kV_law_refused dc_law_refused pm_law_refused cd_law_refused ct_law_refused : Value}
    (a_law_refused : PySem.W.nsIn K mainGlobals "_law_refused" = some (some (.ref f_law_refused))) (l_law_refused : K.lookup f_law_refused = some ⟨oc_law_refused, od_law_refused, .func (PySem.W.fnOf "_law_refused" "_law_refused" (defArgs sQRefused) (defBody sQRefused) (defScope sQRefused) .none kV_law_refused dc_law_refused pm_law_refused an_law_refused cd_law_refused ct_law_refused), sl_law_refused⟩)
    (c_law_refused : PySem.W.codeIn K cd_law_refused "_law_refused" = true) (k_law_refused : PySem.W.keepIn K (.ref f_law_refused) = true)
    {f_law : Addr} {od_law an_law : Option Addr} {sl_law : Array (Option Value)} {oc_law kV_law dc_law pm_law cd_law ct_law : Value}
    (a_law : PySem.W.nsIn K mainGlobals "law" = some (some (.ref f_law))) (l_law : K.lookup f_law = some ⟨oc_law, od_law, .func (PySem.W.fnOf "law" "law" (defArgs sLaw) (defBody sLaw) (defScope sLaw) .none kV_law dc_law pm_law an_law cd_law ct_law), sl_law⟩)
    (c_law : PySem.W.codeIn K cd_law "law" = true) (k_law : PySem.W.keepIn K (.ref f_law) = true)
    (z_len : PySem.W.nsIn K mainGlobals "len" = some none)
    (z_LookupError : PySem.W.nsIn K mainGlobals "LookupError" = some none)
    (z_abs : PySem.W.nsIn K mainGlobals "abs" = some none)
    (z_int : PySem.W.nsIn K mainGlobals "int" = some none)
    (z_bool : PySem.W.nsIn K mainGlobals "bool" = some none)
    (z_list : PySem.W.nsIn K mainGlobals "list" = some none)
    (z_tuple : PySem.W.nsIn K mainGlobals "tuple" = some none)
    (z_min : PySem.W.nsIn K mainGlobals "min" = some none)
    (z_max : PySem.W.nsIn K mainGlobals "max" = some none)
    (z_sum : PySem.W.nsIn K mainGlobals "sum" = some none)
    (z_any : PySem.W.nsIn K mainGlobals "any" = some none)
    (z_all : PySem.W.nsIn K mainGlobals "all" = some none)
    (z_repr : PySem.W.nsIn K mainGlobals "repr" = some none)
    (z_sorted : PySem.W.nsIn K mainGlobals "sorted" = some none)
    (z_isinstance : PySem.W.nsIn K mainGlobals "isinstance" = some none)
    (z_range : PySem.W.nsIn K mainGlobals "range" = some none)
    (z_enumerate : PySem.W.nsIn K mainGlobals "enumerate" = some none)
    {cR PR : Addr} (eR : cd_law_refused = .ref cR) (hTb : h.get? PR = some { cls := .none, data := .fields #[] }) (nTb : K.lookup PR = none) (cdR : PySem.W.codeHdIn K cR PR = true) :
    ∃ (fd : FuncData) (cs : List (Addr × Addr)) (sp : Sp), (∀ p ∈ cs, h.get? p.2 = some { cls := .none, data := .fields #[] }) ∧ (∀ p ∈ cs, K.lookup p.2 = none) ∧ (∀ p ∈ cs, PySem.W.CodeHd h p.1 p.2) ∧ (∀ (s : Shared) (u : Value), BindsTo s fd ⟨[u], []⟩ [("_law_script", u)]) ∧
        (∀ (H : Hp) (a : Addr) (ns : List Int), ns.length ≤ 63 → OnlyT (cs.map (·.2)) H → (∀ p ∈ cs, H p.2 = some (.tbl #[])) → SqL K H a (ns.map V.int) → sp [.ref a] H (fun v _ => v = .bl true) E0) ∧
        ∀ base : Heap, K.In base → base.Ns mainGlobals mg → (∀ p ∈ cs, LamX.TabB base mg p.1 p.2) → FnG l.prog w K mg base 9 fa fd ["_law_script"] sp := by
  have e := hfa.symm.trans (PySem.W.mg_of X G a_law)
  cases e
  have T : Txt mg := ⟨PySem.W.mg_none_of X G z_len, PySem.W.mg_none_of X G z_LookupError, PySem.W.mg_none_of X G z_abs, PySem.W.mg_none_of X G z_int, PySem.W.mg_none_of X G z_bool, PySem.W.mg_none_of X G z_list, PySem.W.mg_none_of X G z_tuple, PySem.W.mg_none_of X G z_min, PySem.W.mg_none_of X G z_max, PySem.W.mg_none_of X G z_sum, PySem.W.mg_none_of X G z_any, PySem.W.mg_none_of X G z_all, PySem.W.mg_none_of X G z_repr, PySem.W.mg_none_of X G z_sorted, PySem.W.mg_none_of X G z_isinstance, PySem.W.mg_none_of X G z_range, PySem.W.mg_none_of X G z_enumerate⟩
  have F_is_integer := fun_mk (st := sIsInteger) l_is_integer c_is_integer k_is_integer
  have F_need_freed := fun_mk (st := sNeedFreed) l_need_freed c_need_freed k_need_freed
  have F_slots_to := fun_mk (st := sSlotsTo) l_slots_to c_slots_to k_slots_to
  have F_nodes_in := fun_mk (st := sNodesIn) l_nodes_in c_nodes_in k_nodes_in
  have F_node_rank := fun_mk (st := sNodeRank) l_node_rank c_node_rank k_node_rank
  have F_node_before := fun_mk (st := sNodeBefore) l_node_before c_node_before k_node_before
  have F_law_pen := fun_mk (st := sQPen) l_law_pen c_law_pen k_law_pen
  have F_law_draw := fun_mk (st := sQDraw) l_law_draw c_law_draw k_law_draw
  have F_law_order := fun_mk (st := sQOrder) l_law_order c_law_order k_law_order
  have F_law_size := fun_mk (st := sQSize) l_law_size c_law_size k_law_size
  have F_law_tree := fun_mk (st := sQTree) l_law_tree c_law_tree k_law_tree
  have F_law_walk := fun_mk (st := sQWalk) l_law_walk c_law_walk k_law_walk
  have F_law_limit := fun_mk (st := sQLimit) l_law_limit c_law_limit k_law_limit
  have F_law_error := fun_mk (st := sQError) l_law_error c_law_error k_law_error
  have F_law_pairs := fun_mk (st := sQPairs) l_law_pairs c_law_pairs k_law_pairs
  have F_law_right := fun_mk (st := sQRight) l_law_right c_law_right k_law_right
  have F_law_refused := fun_mk (st := sQRefused) l_law_refused c_law_refused k_law_refused
  have F_law := fun_mk (st := sLaw) l_law c_law k_law
  have eNF : ExB K C_NotFreed bmLE "LookupError.__new__" := ⟨xi_NotFreed, xo_NotFreed, xd_NotFreed, xs_NotFreed, xe_NotFreed, xt_NotFreed, xk_NotFreed⟩
  have F_iNotFreed := fun_mk (st := sNotFreedInit) l_iNotFreed c_iNotFreed k_iNotFreed
  have nNF : NFx K C_NotFreed C_MissingError C_NoNode C_NoPosition C_NoReference C_NoSlot C_UndoError := ⟨⟨xg_NotFreed, xG_NotFreed, xe_NotFreed, xd_NotFreed⟩, ⟨xg_NotFreed, xG_NotFreed, xe_NotFreed, xd_NotFreed, xc_NotFreed, xh_NotFreed, xT_NotFreed, xm_NotFreed⟩, xf_NotFreed, q1, q2, q3, q4⟩
  subst eR
  have FC := funC_mk (st := sQRefused) l_law_refused c_law_refused k_law_refused
  have DE : LamD K mg "_law_error" "_law_ask" sQError f_law_error _ cd_law_error ["_law_ask", "_law_caught", "e"] := ⟨funC_mk (st := sQError) l_law_error c_law_error k_law_error, PySem.W.mg_of X G a_law_error, F_law_error.binds (ps := ["_law_ask"]) (fun _ _ _ _ _ _ us hl => match us, hl with | [_], _ => rfl), scQError, rfl, Or.inl rfl⟩
  refine ⟨PySem.W.fnOf "law" "law" (defArgs sLaw) (defBody sLaw) (defScope sLaw) .none kV_law dc_law pm_law an_law cd_law ct_law, [(cR, PR)], spLaw K PR, fun p hp => by rw [List.mem_singleton.mp hp]; exact hTb, fun p hp => by rw [List.mem_singleton.mp hp]; exact nTb, fun p hp => by rw [List.mem_singleton.mp hp]; exact PySem.W.codeHd_of_K X cdR, fun s v => .of_eq rfl, fun H a ns _ _ hH hS => ⟨a, ns, rfl, hS, fun p hp => by rw [List.mem_singleton.mp hp]; exact LamX.TabS.nil (hH _ List.mem_cons_self), fun _ => rfl⟩, fun base _ _ TBs => ?_⟩
  have TB := TBs _ List.mem_cons_self
  have b_is_integer := F_is_integer.binds (ps := ["value"]) fun _ _ _ _ _ _ us hl => match us, hl with | [_], _ => rfl
  have l_is_integer : Lo l.prog w K mg base "is_integer" 1 ["value"] (spIsIntD K) := ⟨f_is_integer, _, ok_isIntD F_is_integer T, PySem.W.mg_of X G a_is_integer, k_is_integer, b_is_integer⟩
  have b_need_freed := F_need_freed.binds (ps := ["freed", "value"]) fun _ _ _ _ _ _ us hl => match us, hl with | [_, _], _ => rfl
  have l_need_freed : Lo l.prog w K mg base "need_freed" 2 ["freed", "value"] (spNeedN K) := ⟨f_need_freed, _, ok_needN F_need_freed T l_is_integer, PySem.W.mg_of X G a_need_freed, k_need_freed, b_need_freed⟩
  have b_slots_to := F_slots_to.binds (ps := ["tree", "node"]) fun _ _ _ _ _ _ us hl => match us, hl with | [_, _], _ => rfl
  have l_slots_to : Lo l.prog w K mg base "_slots_to" 1 ["tree", "node"] (spSlotsTo K) := ⟨f_slots_to, _, ok_slotsTo F_slots_to T, PySem.W.mg_of X G a_slots_to, k_slots_to, b_slots_to⟩
  have b_nodes_in := F_nodes_in.binds (ps := ["tree"]) fun _ _ _ _ _ _ us hl => match us, hl with | [_], _ => rfl
  have l_nodes_in : Lo l.prog w K mg base "_nodes_in" 1 ["tree"] (spNodes K) := ⟨f_nodes_in, _, ok_nodesIn F_nodes_in T, PySem.W.mg_of X G a_nodes_in, k_nodes_in, b_nodes_in⟩
  have b_node_rank := F_node_rank.binds (ps := ["tree", "node", "limit"]) fun _ _ _ _ _ _ us hl => match us, hl with | [_, _, _], _ => rfl
  have l_node_rank : Lo l.prog w K mg base "_node_rank" 2 ["tree", "node", "limit"] (spRank K) := ⟨f_node_rank, _, ok_rank F_node_rank T l_slots_to, PySem.W.mg_of X G a_node_rank, k_node_rank, b_node_rank⟩
  have x_node_before : Lkx l.prog w K mg base "node_before" 4 ["tree", "first", "second", "limit"] ["limit"] (gApp 3 1) (spNB K) := ⟨f_node_before, _, gApp 3 1, ok_nb (C := C_NotFreed) F_node_before T l_nodes_in l_need_freed l_node_rank, PySem.W.mg_of X G a_node_before, k_node_before, ⟨fun s us ws _ hl => by have h := gApp_to (n := 3) (m := 1) hl (by decide); obtain ⟨_, _, _, rfl⟩ := len3 h.1; obtain ⟨_, rfl⟩ := len1 h.2; exact .of_eq rfl, gApp_rel⟩⟩
  have b_iNotFreed := F_iNotFreed.binds (ps := ["self", "node"]) fun _ _ _ _ _ _ us hl => match us, hl with | [_, _], _ => rfl
  have n_NotFreed : LxB l.prog w K mg base "NotFreed" C_NotFreed 1 ["self", "node"] (spI1 C_NotFreed "node") bmLE "LookupError.__new__" := ⟨⟨_, _, exF_LE⟩, eNF, ⟨f_iNotFreed, _, ok_iNF F_iNotFreed eNF xn_NotFreed, a_iNotFreed, t_iNotFreed, b_iNotFreed⟩, PySem.W.mg_of X G c_NotFreed⟩
  have e_need_freed : LoX l.prog w K mg base "need_freed" 3 ["freed", "value"] (spNeed K C_NotFreed) := ⟨f_need_freed, _, ok_need F_need_freed T l_is_integer n_NotFreed, PySem.W.mg_of X G a_need_freed, k_need_freed, b_need_freed⟩
  have e_node_before : LkxX l.prog w K mg base "node_before" 4 ["tree", "first", "second", "limit"] ["limit"] (gApp 3 1) (spNBX K C_NotFreed) := ⟨f_node_before, _, gApp 3 1, ok_nbX F_node_before T l_nodes_in e_need_freed l_node_rank, PySem.W.mg_of X G a_node_before, k_node_before, ⟨fun s us ws _ hl => by have h := gApp_to (n := 3) (m := 1) hl (by decide); obtain ⟨_, _, _, rfl⟩ := len3 h.1; obtain ⟨_, rfl⟩ := len1 h.2; exact .of_eq rfl, gApp_rel⟩⟩
  have k_node_before : Lkw l.prog w K mg base "node_before" 4 ["tree", "first", "second", "limit"] ["limit", "second", "first", "tree"] (gRev 4) (spNB K) := ⟨f_node_before, _, gRev 4, ok_nb (C := C_NotFreed) F_node_before T l_nodes_in l_need_freed l_node_rank, PySem.W.mg_of X G a_node_before, k_node_before, ⟨fun s ws _ hl => by have h := gRev_to (n := 4) hl (by decide); obtain ⟨_, _, _, _, rfl⟩ := len4 h; exact .of_eq rfl, gRev_rel⟩⟩
  have b_law_pen := F_law_pen.binds (ps := ["_law_script"]) fun _ _ _ _ _ _ us hl => match us, hl with | [_], _ => rfl
  have l_law_pen : Lo l.prog w K mg base "_law_pen" 1 ["_law_script"] (spPen K) := ⟨f_law_pen, _, ok_pen F_law_pen T, PySem.W.mg_of X G a_law_pen, k_law_pen, b_law_pen⟩
  have b_law_draw := F_law_draw.binds (ps := ["_law_pen_here", "_law_bound"]) fun _ _ _ _ _ _ us hl => match us, hl with | [_, _], _ => rfl
  have l_law_draw : Lo l.prog w K mg base "_law_draw" 1 ["_law_pen_here", "_law_bound"] (spDraw) := ⟨f_law_draw, _, ok_draw F_law_draw T, PySem.W.mg_of X G a_law_draw, k_law_draw, b_law_draw⟩
  have b_law_order := F_law_order.binds (ps := ["_law_pen_here", "_law_size_here"]) fun _ _ _ _ _ _ us hl => match us, hl with | [_, _], _ => rfl
  have l_law_order : Lo l.prog w K mg base "_law_order" 2 ["_law_pen_here", "_law_size_here"] (spOrder) := ⟨f_law_order, _, ok_order F_law_order T l_law_draw, PySem.W.mg_of X G a_law_order, k_law_order, b_law_order⟩
  have b_law_size := F_law_size.binds (ps := ["_law_pen_here", "_law_most"]) fun _ _ _ _ _ _ us hl => match us, hl with | [_, _], _ => rfl
  have l_law_size : Lo l.prog w K mg base "_law_size" 2 ["_law_pen_here", "_law_most"] (spSize) := ⟨f_law_size, _, ok_size F_law_size T l_law_draw, PySem.W.mg_of X G a_law_size, k_law_size, b_law_size⟩
  have b_law_tree := F_law_tree.binds (ps := ["_law_pen_here", "_law_most"]) fun _ _ _ _ _ _ us hl => match us, hl with | [_, _], _ => rfl
  have l_law_tree : Lo l.prog w K mg base "_law_tree" 3 ["_law_pen_here", "_law_most"] (spTree K) := ⟨f_law_tree, _, ok_tree F_law_tree T l_law_draw l_law_order l_law_size, PySem.W.mg_of X G a_law_tree, k_law_tree, b_law_tree⟩
  have b_law_walk := F_law_walk.binds (ps := ["_law_given", "_law_cap"]) fun _ _ _ _ _ _ us hl => match us, hl with | [_, _], _ => rfl
  have l_law_walk : Lo l.prog w K mg base "_law_walk" 1 ["_law_given", "_law_cap"] (spWalk K) := ⟨f_law_walk, _, ok_walk F_law_walk T, PySem.W.mg_of X G a_law_walk, k_law_walk, b_law_walk⟩
  have b_law_limit := F_law_limit.binds (ps := ["_law_pen_here", "_law_size_here"]) fun _ _ _ _ _ _ us hl => match us, hl with | [_, _], _ => rfl
  have l_law_limit : Lo l.prog w K mg base "_law_limit" 2 ["_law_pen_here", "_law_size_here"] (spLimit) := ⟨f_law_limit, _, ok_limit F_law_limit T l_law_draw, PySem.W.mg_of X G a_law_limit, k_law_limit, b_law_limit⟩
  have b_law_pairs := F_law_pairs.binds (ps := ["_law_pen_here", "_law_nodes"]) fun _ _ _ _ _ _ us hl => match us, hl with | [_, _], _ => rfl
  have l_law_pairs : Lo l.prog w K mg base "_law_pairs" 2 ["_law_pen_here", "_law_nodes"] (spPairs K) := ⟨f_law_pairs, _, ok_pairs F_law_pairs T l_law_draw, PySem.W.mg_of X G a_law_pairs, k_law_pairs, b_law_pairs⟩
  have b_law_right := F_law_right.binds (ps := ["_law_pen_here", "_law_given", "_law_cap"]) fun _ _ _ _ _ _ us hl => match us, hl with | [_, _, _], _ => rfl
  have l_law_right : Lo l.prog w K mg base "_law_right" 5 ["_law_pen_here", "_law_given", "_law_cap"] (spRight K) := ⟨f_law_right, _, ok_right F_law_right T l_law_walk l_law_pairs x_node_before k_node_before, PySem.W.mg_of X G a_law_right, k_law_right, b_law_right⟩
  have b_law_refused := F_law_refused.binds (ps := ["_law_pen_here", "_law_given", "_law_cap"]) fun _ _ _ _ _ _ us hl => match us, hl with | [_, _, _], _ => rfl
  have l_law_refused : Lk l.prog w K mg base "_law_refused" 8 ["_law_pen_here", "_law_given", "_law_cap"] (spRefused K PR) := ⟨f_law_refused, _, ok_refused FC T TB l_law_draw DE (PySem.W.mg_of X G c_NotFreed) (PySem.W.mg_of X G c_MissingError) (PySem.W.mg_of X G c_NoNode) (PySem.W.mg_of X G c_NoPosition) (PySem.W.mg_of X G c_NoReference) (PySem.W.mg_of X G c_NoSlot) (PySem.W.mg_of X G c_UndoError) nNF e_node_before, PySem.W.mg_of X G a_law_refused, k_law_refused, b_law_refused⟩
  exact ok_law F_law T l_law_pen l_law_tree l_law_limit l_law_right l_law_refused
end SF
open PySem PySem.W PyProof.Rows in
set_option maxRecDepth 100000 in
set_option maxHeartbeats 0 in
theorem PySem.Challenge.cw_slotfall_k25_nodes_compared_holds : PySem.Challenge.rw_slotfall_k25_nodes_compared.Holds := by
  w_on; o_law; k_head; (case hw => w_witness2)
  k_fill
  refine SF.walkGT (l := PySem.Challenge.rw_slotfall_k25_nodes_compared) (n := 63) (k := 9) (x := "_law_script") rfl (by decide) rfl ⟨rfl, by decide, by decide⟩ (fun w h Y => PySem.W.km_in_of Y) ?F
  case F =>
    intro w mg fa h Y KX G hmg
    refine' SF.all_mk KX G hmg ?c_NotFreed ?c_MissingError ?c_NoNode ?c_NoPosition ?c_NoReference ?c_NoSlot ?c_UndoError ?xi_NotFreed ?xo_NotFreed ?xd_NotFreed ?xs_NotFreed ?xe_NotFreed ?xt_NotFreed ?xk_NotFreed ?xn_NotFreed ?xg_NotFreed ?xG_NotFreed ?xf_NotFreed ?xc_NotFreed ?xh_NotFreed ?xT_NotFreed ?xm_NotFreed ?a_iNotFreed ?t_iNotFreed ?l_iNotFreed ?c_iNotFreed ?k_iNotFreed ?q1 ?q2 ?q3 ?q4 ?a_is_integer ?l_is_integer ?c_is_integer ?k_is_integer ?a_need_freed ?l_need_freed ?c_need_freed ?k_need_freed ?a_slots_to ?l_slots_to ?c_slots_to ?k_slots_to ?a_nodes_in ?l_nodes_in ?c_nodes_in ?k_nodes_in ?a_node_rank ?l_node_rank ?c_node_rank ?k_node_rank ?a_node_before ?l_node_before ?c_node_before ?k_node_before ?a_law_pen ?l_law_pen ?c_law_pen ?k_law_pen ?a_law_draw ?l_law_draw ?c_law_draw ?k_law_draw ?a_law_order ?l_law_order ?c_law_order ?k_law_order ?a_law_size ?l_law_size ?c_law_size ?k_law_size ?a_law_tree ?l_law_tree ?c_law_tree ?k_law_tree ?a_law_walk ?l_law_walk ?c_law_walk ?k_law_walk ?a_law_limit ?l_law_limit ?c_law_limit ?k_law_limit ?a_law_error ?l_law_error ?c_law_error ?k_law_error ?a_law_pairs ?l_law_pairs ?c_law_pairs ?k_law_pairs ?a_law_right ?l_law_right ?c_law_right ?k_law_right ?a_law_refused ?l_law_refused ?c_law_refused ?k_law_refused ?a_law ?l_law ?c_law ?k_law ?z_len ?z_LookupError ?z_abs ?z_int ?z_bool ?z_list ?z_tuple ?z_min ?z_max ?z_sum ?z_any ?z_all ?z_repr ?z_sorted ?z_isinstance ?z_range ?z_enumerate ?eR ?hTb ?nTb ?cdR
    (case c_NotFreed => k_is)
    (case c_MissingError => k_is)
    (case c_NoNode => k_is)
    (case c_NoPosition => k_is)
    (case c_NoReference => k_is)
    (case c_NoSlot => k_is)
    (case c_UndoError => k_is)
    (case xi_NotFreed => rfl)
    (case xo_NotFreed => rfl)
    (case xd_NotFreed => k_is)
    (case xs_NotFreed => k_is)
    (case xe_NotFreed => k_is)
    (case xt_NotFreed => k_is)
    (case xk_NotFreed => k_is)
    (case xn_NotFreed => k_is)
    (case xg_NotFreed => k_is)
    (case xG_NotFreed => k_is)
    (case xf_NotFreed => k_is)
    (case xc_NotFreed => k_is)
    (case xh_NotFreed => k_is)
    (case xT_NotFreed => k_is)
    (case xm_NotFreed => k_is)
    (case a_iNotFreed => k_is)
    (case t_iNotFreed => k_is)
    (case l_iNotFreed => k_is)
    (case c_iNotFreed => k_is)
    (case k_iNotFreed => k_is)
    (case q1 => rfl)
    (case q2 => rfl)
    (case q3 => rfl)
    (case q4 => rfl)
    (case a_is_integer => k_is)
    (case l_is_integer => k_is)
    (case c_is_integer => k_is)
    (case k_is_integer => k_is)
    (case a_need_freed => k_is)
    (case l_need_freed => k_is)
    (case c_need_freed => k_is)
    (case k_need_freed => k_is)
    (case a_slots_to => k_is)
    (case l_slots_to => k_is)
    (case c_slots_to => k_is)
    (case k_slots_to => k_is)
    (case a_nodes_in => k_is)
    (case l_nodes_in => k_is)
    (case c_nodes_in => k_is)
    (case k_nodes_in => k_is)
    (case a_node_rank => k_is)
    (case l_node_rank => k_is)
    (case c_node_rank => k_is)
    (case k_node_rank => k_is)
    (case a_node_before => k_is)
    (case l_node_before => k_is)
    (case c_node_before => k_is)
    (case k_node_before => k_is)
    (case a_law_pen => k_is)
    (case l_law_pen => k_is)
    (case c_law_pen => k_is)
    (case k_law_pen => k_is)
    (case a_law_draw => k_is)
    (case l_law_draw => k_is)
    (case c_law_draw => k_is)
    (case k_law_draw => k_is)
    (case a_law_order => k_is)
    (case l_law_order => k_is)
    (case c_law_order => k_is)
    (case k_law_order => k_is)
    (case a_law_size => k_is)
    (case l_law_size => k_is)
    (case c_law_size => k_is)
    (case k_law_size => k_is)
    (case a_law_tree => k_is)
    (case l_law_tree => k_is)
    (case c_law_tree => k_is)
    (case k_law_tree => k_is)
    (case a_law_walk => k_is)
    (case l_law_walk => k_is)
    (case c_law_walk => k_is)
    (case k_law_walk => k_is)
    (case a_law_limit => k_is)
    (case l_law_limit => k_is)
    (case c_law_limit => k_is)
    (case k_law_limit => k_is)
    (case a_law_error => k_is)
    (case l_law_error => k_is)
    (case c_law_error => k_is)
    (case k_law_error => k_is)
    (case a_law_pairs => k_is)
    (case l_law_pairs => k_is)
    (case c_law_pairs => k_is)
    (case k_law_pairs => k_is)
    (case a_law_right => k_is)
    (case l_law_right => k_is)
    (case c_law_right => k_is)
    (case k_law_right => k_is)
    (case a_law_refused => k_is)
    (case l_law_refused => k_is)
    (case c_law_refused => k_is)
    (case k_law_refused => k_is)
    (case a_law => k_is)
    (case l_law => k_is)
    (case c_law => k_is)
    (case k_law => k_is)
    (case z_len => k_is)
    (case z_LookupError => k_is)
    (case z_abs => k_is)
    (case z_int => k_is)
    (case z_bool => k_is)
    (case z_list => k_is)
    (case z_tuple => k_is)
    (case z_min => k_is)
    (case z_max => k_is)
    (case z_sum => k_is)
    (case z_any => k_is)
    (case z_all => k_is)
    (case z_repr => k_is)
    (case z_sorted => k_is)
    (case z_isinstance => k_is)
    (case z_range => k_is)
    (case z_enumerate => k_is)
    (case eR => rfl)
    (case hTb => exact PySem.W.km_tabs_of Y _ List.mem_cons_self)
    (case nTb => rfl)
    (case cdR => rfl)

