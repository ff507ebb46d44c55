import PyProof.Rows.All
import Wide.All
import OpenK.AllK
import Wide.FinOn
import HandS.ForMost
import HandS.Conv
import HandS.More
import HandS.Wide
import HandS.Style
import HandS.Flow
import HandS.EndBits
import HandS.Walk
import HandS.Steps
import KE.GoesEnum
import KE.GoesMore
import PyProof.ReprRoads
import PyProof.ReprLen
import HandS.DictComp
import HandS.SortInts
import HandS.TupAny
import HandS.SortKw
import KE.KMinBuiltin
import HandS.IsInst
import HandS.TryOnly
import KE.KMathG
import HandS.Gcd
import KE.DataFind
import HandS.Lambda
import HandS.EndTab
import KE.KNestM
import HandS.ExcInit
import HandS.ExcField
import HandS.ExcIs
import HandS.WordsExc
import HandS.ExcValue
import KE.KExcInit
import KE.KExcIs
import PySem.Challenge.RW_slotfall_k11_refused_nodes_and_slots
set_option Elab.async false
set_option linter.all false
set_option maxRecDepth 100000
set_option maxHeartbeats 4000000
set_option autoImplicit false
namespace SF
open PySem PySem.Spec PyProof.Rows L2

/-! ### promises that may lean on an empty list of guards -/
structure FnG (P : Program) (w : World) (K : PySem.W.Frag) (mg : Str → Option Value) (base : Heap) (k : Nat) (f : Addr) (fd : FuncData) (ps : List Str) (sp : Sp) : Prop where
  len : ∀ vs H Q E, sp vs H Q E → vs.length = ps.length
  run : ∀ (A : Around) (outer : List Env) (s : Shared) (H : Hp) (args : Args) (us : List Value) (vs : List V) (Q : VK) (E : XK),
    A.guards = some [] → Room k A → Env0 P w K mg base A outer s H → BindsTo s fd args (ps.zip us) → Vals vs us → sp vs H Q E →
    codeAny (model P w) A (.call (.ref f) args) (CR CX0 outer P w H s Q E) s

section
variable {P : Program} {w : World} {K : PySem.W.Frag} {mg : Str → Option Value} {base : Heap}
theorem FnG.of {k : Nat} {f : Addr} {fd : FuncData} {ps : List Str} {sp : Sp} (F : FnOk P w K mg base CX0 k f fd ps sp) : FnG P w K mg base k f fd ps sp :=
  ⟨F.len, fun A o s H a us vs Q E _ hr => F.run A o s H a us vs Q E hr⟩
theorem fnG_of {k : Nat} {f : Addr} {name qual : Str} {params : Arguments} {body : List Stmt} {scope : Scope} {kV doc pm cdv ct oc : Value} {an od : Option Addr}
    {osl : Array (Option Value)} {N ps : List Str} {sp : Sp}
    (lk : K.lookup f = some ⟨oc, od, .func (PySem.W.fnOf name qual params body scope .none kV doc pm an cdv ct), osl⟩)
    (hcd : PySem.W.codeIn K cdv qual = true) (S : FnScope N ps scope)
    (len : ∀ vs H Q E, sp vs H Q E → vs.length = ps.length)
    (hbody : ∀ (A : Around) (outer : List Env) (s : Shared) (H : Hp) (vs : List V) (Q : VK) (E : XK),
      (A.deeper (envOfC qual scope s.heap.objs.size f cdv)).guards = some [] →
      Room k (A.deeper (envOfC qual scope s.heap.objs.size f cdv)) → sp vs H Q E →
      ∃ t, PSs (cxOf CX0 P w K mg base N qual scope f cdv A outer s H E) body t ∧ t { nx := fun _ H' => Q .non H', rt := Q } (start N vs) H) :
    FnG P w K mg base (k + 1) f (PySem.W.fnOf name qual params body scope .none kV doc pm an cdv ct) ps sp := by
  constructor
  · exact len
  intro A outer s H args us vs Q E hgd hr e0 hb r hsp
  have hl := len _ _ _ _ hsp
  have inK : K.In s.heap := e0.mod.kin.keeps fun b o e => (e0.bs b o e).1
  have lim : s.heap.NoLimit := e0.mod.nolimit.keeps fun b o e => (e0.bs b o e).1
  have kinds : ∀ y ∈ ps.zip us, scope.names.lookup y.1 = some .local ∨
      (scope.names.lookup y.1 = some .cell ∧ ((cellsFrom (s.heap.objs.size + 1) scope.names []).lookup y.1).isSome = true) := by
    rintro ⟨n, v⟩ hy
    rcases S.par n (List.of_mem_zip hy).1 with q | q
    · exact Or.inl q
    · exact Or.inr ⟨q, PySem.W.cellsFrom_some _ _ _ (.inl q)⟩
  have code := PySem.W.codeRec_of inK hcd
  refine codeAny_call_function hr.depth (inK _ _ lk) rfl S.co S.gen rfl code (hb _ _ _ _ ?_)
  refine wpAny_newFunctionEnv_cells S.kind kinds fun env he s1 x => ?_
  subst he
  refine ⟨lim.keeps x.toInCall.keep, codeAny_func ?_⟩
  obtain ⟨t, ht, hq⟩ := hbody A outer s H vs Q E hgd (hr.deeper _) hsp
  have I := inv_start (CX := CX0) (E := E) (N := N) S hr.hd e0 hl r x
  refine wpAny_mono (ht.run [] s1 (start N vs) H _ I hq) (fun fl s' hs => ?_) fun e s' hs => hs
  cases fl with
  | ret u =>
    obtain ⟨v, σ', H', J, rv, q⟩ := hs
    exact ⟨v, H', J.os, J.bare, J.base, J.hok, rv, q⟩
  | next =>
    obtain ⟨σ', H', J, q⟩ := hs
    exact ⟨V.non, H', J.os, J.bare, J.base, J.hok, rfl, q⟩
  | brk =>
    obtain ⟨_, _, _, q⟩ := hs
    exact q.elim
  | cont =>
    obtain ⟨_, _, _, q⟩ := hs
    exact q.elim
theorem FnG.body {x qual : Str} {st : Stmt} {f : Addr} {fd : FuncData} {N ps : List Str} {k : Nat} {sp : Sp} (F : Fun K x qual st f fd) (S : FnScope N ps (defScope st))
    (len : ∀ vs H Q E, sp vs H Q E → vs.length = ps.length)
    (hbody : ∀ (cdv : Value) (A : Around) (outer : List Env) (s : Shared) (H : Hp) (vs : List V) (Q : VK) (E : XK),
      (A.deeper (envOfC qual (defScope st) s.heap.objs.size f cdv)).guards = some [] → Room k (A.deeper (envOfC qual (defScope st) s.heap.objs.size f cdv)) → sp vs H Q E →
      ∃ t, PSs (cxOf CX0 P w K mg base N qual (defScope st) f cdv A outer s H E).nox (defBody st) t ∧ t { nx := fun _ H' => Q .non H', rt := Q } (start N vs) H) :
    FnG P w K mg base (k + 1) f fd ps sp := by
  obtain ⟨oc, od, kV, doc, pm, an, cdv, ct, osl, rfl, lk, hcd⟩ := F.ex
  refine fnG_of lk hcd S len fun A outer s H vs Q E hgd hr hsp => ?_
  obtain ⟨t, h, q⟩ := hbody cdv A outer s H vs Q E hgd hr hsp
  exact ⟨t, h.nox, q⟩
end

/-! ### links to a callee: its promise, its place, its binding -/
structure Lk (P : Program) (w : World) (K : PySem.W.Frag) (mg : Str → Option Value) (base : Heap) (x : Str) (k : Nat) (ps : List Str) (sp : Sp) : Prop where
  ex : ∃ (f : Addr) (fd : FuncData), FnG P w K mg base k f fd ps sp ∧ mg x = some (.ref f) ∧ PySem.W.keepIn K (.ref f) = true ∧ Binds K fd ps []
/-- a callee that asks nothing of the guards -/
structure Lo (P : Program) (w : World) (K : PySem.W.Frag) (mg : Str → Option Value) (base : Heap) (x : Str) (k : Nat) (ps : List Str) (sp : Sp) : Prop where
  ex : ∃ (f : Addr) (fd : FuncData), FnOk P w K mg base CX0 k f fd ps sp ∧ mg x = some (.ref f) ∧ PySem.W.keepIn K (.ref f) = true ∧ Binds K fd ps []
theorem Lo.lk {P : Program} {w : World} {K : PySem.W.Frag} {mg : Str → Option Value} {base : Heap} {x : Str} {k : Nat} {ps : List Str} {sp : Sp} (L : Lo P w K mg base x k ps sp) : Lk P w K mg base x k ps sp := by
  obtain ⟨f, fd, a, b, c, d⟩ := L.ex
  exact ⟨f, fd, .of a, b, c, d⟩
section
variable {X : Cx} {k : Nat} {ps : List Str} {sp : Sp} {x : Str} {p pos : Pos} {e : Expr} {es : List Expr} {t tk : TA} {kws : List Keyword}
/-- what the callee's run is -/
theorem runG {pins : List (Addr × Obj)} {σ : L2.St} {H : Hp} {s : Shared} {Q : VK} {f : Addr} {fd : FuncData} {us : List Value} {kw : List (Str × Value)} {vs : List V} {ws : List Value}
    (F : FnG X.prog X.w X.K X.mg X.base k f fd ps sp) (hgd : X.A.guards = some []) (hr : Room k X.A) (hb : BindsTo s fd ⟨us, kw⟩ (ps.zip ws)) (I : Inv X pins σ H s) (r : Vals vs ws) (h : sp vs H Q E0) :
    wpAny (model X.prog X.w) X.A (call (.ref f) us kw) (EP X pins σ Q) X.xe s := by
  refine wpAny_call (codeAny_mono (F.run X.A X.stack s H ⟨us, kw⟩ ws vs Q E0 hgd hr I.env0 hb r h) fun r s' hq => ?_)
  match r, hq with
  | .ok (.ret u), hq => exact I.after hq
  | .ok .next, hq => exact hq.elim
  | .ok .brk, hq => exact hq.elim
  | .ok .cont, hq => exact hq.elim
  | .error e, hq => exact False.elim hq
theorem run0 {pins : List (Addr × Obj)} {σ : L2.St} {H : Hp} {s : Shared} {Q : VK} {f : Addr} {fd : FuncData} {us : List Value} {kw : List (Str × Value)} {vs : List V} {ws : List Value}
    (F : FnOk X.prog X.w X.K X.mg X.base CX0 k f fd ps sp) (hr : Room k X.A) (hb : BindsTo s fd ⟨us, kw⟩ (ps.zip ws)) (I : Inv X pins σ H s) (r : Vals vs ws) (h : sp vs H Q E0) :
    wpAny (model X.prog X.w) X.A (call (.ref f) us kw) (EP X pins σ Q) X.xe s := by
  refine wpAny_call (codeAny_mono (F.run X.A X.stack s H ⟨us, kw⟩ ws vs Q E0 hr I.env0 hb r h) fun r s' hq => ?_)
  match r, hq with
  | .ok (.ret u), hq => exact I.after hq
  | .ok .next, hq => exact hq.elim
  | .ok .brk, hq => exact hq.elim
  | .ok .cont, hq => exact hq.elim
  | .error e, hq => exact False.elim hq
/-- x(e, ..) -/
theorem pe_lo (L : Lo X.prog X.w X.K X.mg X.base x k ps sp) (hr : Room k X.A) (hg : Gl X x) (ha : PA X (e :: es) t)
    (hdb : (x == ("__debug__" : Str)) = false := by decide) (he : starEach (e :: es) X.env = (false, eval e X.env) :: starEach es X.env := by rfl) (hpl : (backTo pos (starEach es X.env)).any (·.1) = false := by rfl) :
    PE X (.Call (.Name x p) (e :: es) [] pos) (tCall sp [] E0 t) := by
  obtain ⟨f, fd, F, hm, hk, hb⟩ := L.ex
  exact pe_call F hr hg hm hk hb .nil pass0 ha hdb he hpl
theorem pe_lk (L : Lk X.prog X.w X.K X.mg X.base x k ps sp) (hgd : X.A.guards = some []) (hr : Room k X.A) (hg : Gl X x) (ha : PA X (e :: es) t)
    (hdb : (x == ("__debug__" : Str)) = false := by decide) (he : starEach (e :: es) X.env = (false, eval e X.env) :: starEach es X.env := by rfl) (hpl : (backTo pos (starEach es X.env)).any (·.1) = false := by rfl) :
    PE X (.Call (.Name x p) (e :: es) [] pos) (tCall sp [] E0 t) := by
  obtain ⟨f, fd, F, hm, hk, hb⟩ := L.ex
  constructor
  intro pins s σ H Q I h
  refine wpAny_Call_Name_kw (ld_glob I hg hm ?_ hdb)
  refine PySem.W.callWith_K (h₀ := X.base) I.ok.mod.kin hk (thn (ha.run pos pins s σ H _ I h) ?_) he hpl
  rintro us s1 ⟨vs, H1, I1, r, q⟩
  have q' : sp vs H1 Q E0 := by simpa using q
  have hl : us.length = ps.length := r.length ▸ F.len _ _ _ _ q'
  have hb1 := hb s1 us I1.kIn (by simpa using hl)
  simp only [List.append_nil] at hb1
  exact ⟨I1.kIn, runG F hgd hr hb1 I1 r q'⟩
/-- the promise at the keywords' values in the parameters' order: gV -/
def tCallKw (sp : Sp) (gV : List V → List V) (tk : TA) : TE := fun σ H Q => tk σ H fun zs H1 => sp (gV zs) H1 Q E0
structure KB (K : PySem.W.Frag) (fd : FuncData) (ps ks : List Str) (g : List Value → List Value) (gV : List V → List V) : Prop where
  to : ∀ (s : Shared) (ws : List Value), K.In s.heap → (g ws).length = ps.length → BindsTo s fd ⟨[], ks.zip ws⟩ (ps.zip (g ws))
  rel : ∀ {zs : List V} {ws : List Value}, Vals zs ws → Vals (gV zs) (g ws)
/-- x(k = v, ..) -/
theorem pe_kw0 {f : Addr} {fd : FuncData} {ks : List Str} {g : List Value → List Value} {gV : List V → List V} (F : FnOk X.prog X.w X.K X.mg X.base CX0 k f fd ps sp) (hr : Room k X.A) (hg : Gl X x) (hm : X.mg x = some (.ref f)) (hk : PySem.W.keepIn X.K (.ref f) = true)
    (hb : KB X.K fd ps ks g gV) (hkw : PK X kws tk)
    (hall : (backToKw pos (keywordEach kws X.env)).all (·.1.isSome) = true := by rfl) (hks : (backToKw pos (keywordEach kws X.env)).filterMap (·.1) = ks := by rfl)
    (hdb : (x == ("__debug__" : Str)) = false := by decide)
    (hpl : ((backTo pos (starEach [] X.env)).any (·.1) || (backToKw pos (keywordEach kws X.env)).any (·.1.isNone)) = false := by rfl) :
    PE X (.Call (.Name x p) [] kws pos) (tCallKw sp gV tk) := by
  constructor
  intro pins s σ H Q I h
  refine wpAny_Call_Name_kw (ld_glob I hg hm ?_ hdb)
  refine PySem.W.callWith_KW0 (h₀ := X.base) I.ok.mod.kin hk hall ?_ hpl
  refine thn (hkw.run pos pins s σ H _ I h) ?_
  rintro ws s2 ⟨zs, H2, I2, rz, q2⟩
  refine ⟨I2.kIn, ?_⟩
  rw [hks]
  have r2 := hb.rel rz
  have hl : (g ws).length = ps.length := r2.length ▸ F.len _ _ _ _ q2
  exact run0 F hr (hb.to s2 ws I2.kIn hl) I2 r2 q2
end

/-! ### repr of data -/
section
variable {X : Cx}
def rRepr (K : PySem.W.Frag) : List V → Hp → VK → Prop := fun xs H Q => ∃ a d, xs = [.ref a] ∧ Dp K H (.ref a) d ∧ d.showable = true ∧ d.hasDict = false ∧ d.depth ≤ 60 ∧ d.shown.length ≤ sizeLine ∧ Q (.str d.shown) H
theorem call_repr (hgd : X.A.guards = some []) (hu : X.A.units + 64 < cLine) : CallR X (.builtin "repr") (rRepr X.K) := by
  intro pins s σ H xs us Q I r h
  obtain ⟨a, d, rfl, hd, h1, h2, h3, h4, q⟩ := h
  rw [Vals.ref1 r]
  obtain ⟨as, hr⟩ := Dp.reads I d _ (.ref a) hd rfl
  refine repr_of_reads' hr h1 (PyData.noDict_hsm h2) hgd (by omega) (fun _ _ e => e) (fun h' u tk hk => ?_) h4
  exact ⟨.str d.shown, H, I.kept hk, ⟨u, rfl⟩, q⟩
end


/-! ### enumerate(tuple) -/
theorem meets_enum_newT (l : Addr) (items : Array Value) :
    Meets (Builtin.«enumerate.__new__» ⟨[.type "enumerate", .ref l], []⟩) (fun _ R s => s.heap.IsTuple l items ∧
      R (.ok (.ret (.ref (s.heap.push { cls := .type "tuple_iterator", data := .fields #[.ref l, .int 0 0] }).objs.size)))
        { s with heap := (s.heap.push { cls := .type "tuple_iterator", data := .fields #[.ref l, .int 0 0] }).push { cls := .type "enumerate", data := .fields #[.none, .bool false, .ref s.heap.objs.size, rawInt 0, .none, .none] } }) :=
  .of_wp fun prog w A R s h => by
    obtain ⟨hp, g, d, tk, os⟩ := s
    obtain ⟨hl, h⟩ := h
    have hsub := sub_enumerate
    have hT : Heap.IsTuple (Shared.heap ⟨hp, g, d, tk, os⟩) l items := hl
    obtain ⟨⟨c, dct, dt, sl⟩, ho, hc, n, hd⟩ := id hl
    replace hc : c = .type "tuple" := hc
    replace hd : dt = .seq items n := hd
    subst hc hd
    wp_walk using AutoSeq1.wpAny_loadPart' ho
    refine wpAny_stack_any fun st => wpAny_pure ?_
    split
    · rename_i c _ _ _ _ _
      cases (c == Value.type "enumerate")
      · wp_walk using AutoSeq1.wpAny_loadPart' ho, wpAny_pyIter_tuple hT
        exact ⟨_, rfl, h⟩
      · wp_walk using AutoSeq1.wpAny_loadPart' ho, wpAny_pyIter_tuple hT
        exact ⟨_, rfl, h⟩
    · wp_walk using AutoSeq1.wpAny_loadPart' ho, wpAny_pyIter_tuple hT
      exact ⟨_, rfl, h⟩
theorem call_enum_tup {prog : Program} {w : World} {A : Around} {E : Value → Shared → Prop} {s : Shared} {l : Addr} {items : Array Value} {Q : Value → Shared → Prop} (hL : s.heap.IsTuple l items)
    (h : ∀ h', IsEnum h' (s.heap.objs.size + 1) s.heap.objs.size 0 .none → h'.IsTupleIter s.heap.objs.size l 0 → h'.objs.size = s.heap.objs.size + 2 →
      (∀ b o, s.heap.get? b = some o → h'.get? b = some o) → Q (.ref (s.heap.objs.size + 1)) { s with heap := h' }) :
    wpAny (model prog w) A (call (.type "enumerate") [.ref l]) Q E s := by
  refine callType_new F.called_enumerate (by decide) (F.typeCall_enumerate_1 _) (F.newCall_enumerate_1 _) (fun obj => F.args_object_init_2 obj _) F.entry_enumerate_new (meets_enum_newT l items) ⟨hL, ?_⟩
  have hz : (s.heap.push { cls := .type "tuple_iterator", data := .fields #[.ref l, .int 0 0] }).objs.size = s.heap.objs.size + 1 := Heap.size_push ..
  show _ ∧ _
  rw [hz]
  have he := Heap.get?_push_size (s.heap.push { cls := .type "tuple_iterator", data := .fields #[.ref l, .int 0 0] })
      (o := { cls := .type "enumerate", data := .fields #[.none, .bool false, .ref s.heap.objs.size, rawInt 0, .none, .none] }) rfl
  rw [hz] at he
  refine ⟨⟨_, he, rfl⟩, h _ he ⟨_, Heap.get?_push_of_some _ (Heap.get?_push_size _ rfl), rfl, rfl⟩ (by rw [Heap.size_push, hz]) ?_⟩
  exact fun b o x => Heap.get?_push_of_some _ (Heap.get?_push_of_some _ x)
def IteT (K : PySem.W.Frag) (a : Addr) : It where
  go := fun i H => ∃ (xs : List V) (x : V), SqT K H a xs ∧ xs[i]? = some x
  yld := fun i H v H' => ∃ T x, v = .ref T ∧ H T = none ∧ H' = upd H T (.tup [.int (i : Nat), x]) ∧ ∀ xs, SqT K H a xs → xs[i]? = some x
  stop := fun i H => ∃ xs : List V, SqT K H a xs ∧ xs.length ≤ i
theorem turn_enumT {P : Program} {w : World} {K : PySem.W.Frag} {elts : List Expr} {kk : Nat} {tpos : Pos} (a e it : Addr) :
    Turn P w K (.Tuple elts kk tpos) (IteT K a) [e, it] e (fun i h => (∃ old, IsEnum h e it ((i : Nat) : Int) old) ∧ h.IsTupleIter it a i ∧ e ≠ it) where
  mem := List.mem_cons_self
  obj := by
    rintro i h ⟨⟨old, he⟩, ⟨o, ho, hc, hd⟩, _⟩ b hb
    have cs : b = e ∨ b = it := by simpa using hb
    rcases cs with rfl | rfl
    · exact ⟨_, he, fun v q => nomatch q⟩
    · exact ⟨o, ho, fun v q => by rw [hd] at q; cases q⟩
  keep := by
    rintro i h h' ⟨⟨old, he⟩, hi, hne⟩ k
    exact ⟨⟨old, k e (by simp) _ he⟩, hi.at fun o q => k it (by simp) o q, hne⟩
  item := by
    intro X hP hw hK hc i pins s σ H E I hf st hg
    subst hP hw hK
    obtain ⟨⟨old, he⟩, hit, hne⟩ := st
    obtain ⟨xs, x, hq, hx⟩ := hg
    obtain ⟨its, rv, p, hz⟩ := I.tuple hq
    obtain ⟨u, hu, ru⟩ := rv.get hx
    have hel : e < s.heap.objs.size := Heap.lt_size he
    have hil : it < s.heap.objs.size := by
      obtain ⟨_, q, _⟩ := hit
      exact Heap.lt_size q
    have hha : X.A.in1.handled = none := I.ok.hd hc
    have pa : s.heap.IsTuple a its.toArray := p
    have nai : a ≠ it := by
      rintro rfl
      obtain ⟨o, q1, q2, q3⟩ := hit
      obtain ⟨o', q1', q2', n', q3'⟩ := pa
      rw [q1] at q1'
      cases q1'
      rw [q3] at q3'
      cases q3'
    have nae : a ≠ e := by
      rintro rfl
      obtain ⟨o', q1', q2', n', q3'⟩ := pa
      rw [show s.heap.get? a = _ from he] at q1'
      cases q1'
      cases q3'
    refine wpAny_pyNext_enum_itemD (n := its.toArray.size) (Draws.tuple hha it a nai its.toArray) he ⟨hit, pa⟩ (by have := List.getElem?_eq_some_iff.mp hu; obtain ⟨q, _⟩ := this; simpa using q) hne (by simp [hne, Ne.symm nae]) fun y h' tk hy ho hst hT hsz hk => ?_
    have ey : y = u := by
      have hy' : its.toArray[i]? = some y := hy
      have : its[i]? = some y := by simpa using hy'
      rw [hu] at this
      exact (Option.some.inj this).symm
    subst ey
    refine ⟨_, rfl, wpAny_letOwnedTupleGo_enum (s := { s with heap := h', toks := tk + 1 }) ho fun h'' he' sb => ?_⟩
    have hT2 : h''.get? s.heap.objs.size = some { cls := .type "tuple", data := .seq #[.int i tk, y] } := (sb.2 _ (Nat.ne_of_gt hel)).trans hT
    have new : ObjOk X.prog X.w (upd H s.heap.objs.size (.tup [.int (i : Nat), x])) h'' s.heap.objs.size (.tup [.int (i : Nat), x]) :=
      ⟨by show 2 ≤ sizeLine; decide, [.int i tk, y], .cons ⟨_, rfl⟩ (.cons ru .nil), ⟨_, hT2, rfl, _, rfl⟩⟩
    have I1 : Inv X pins σ (upd H s.heap.objs.size (.tup [.int (i : Nat), x])) { s with heap := h'', toks := tk + 1 } :=
      I.turnedNew (ch := [e, it]) (fun b ob hb q => (sb.2 b (fun z => hb (by simp [z]))).trans (hk b ob (fun z => hb (by simp [z])) (fun z => hb (by simp [z])) q)) hf (Nat.le_refl _) new
    refine ⟨.ref s.heap.objs.size, _, I1, rfl, ⟨_, x, rfl, I.hok.fresh (Nat.le_refl _), rfl, fun ys hy => by rw [I.tuple_inj hy hq]; exact hx⟩, ⟨⟨y, ?_⟩, hst.1.at fun o q => (sb.2 it (Ne.symm hne)).trans q, hne⟩, fun b hb => ?_⟩
    · have e1 : ((i + 1 : Nat) : Int) = (i : Int) + 1 := by omega
      rw [e1]
      exact he'
    · have cs : b = e ∨ b = it := by simpa using hb
      have hb' : b < s.heap.objs.size := by
        rcases cs with rfl | rfl
        · exact hel
        · exact hil
      rw [upd_ne (Nat.ne_of_lt hb')]
      exact (hf b hb).1
  done := by
    intro X hP hw hK hc i pins s σ H E I hf st hg
    subst hP hw hK
    obtain ⟨⟨old, he⟩, hit, hne⟩ := st
    obtain ⟨xs, hq, hx⟩ := hg
    obtain ⟨its, rv, p, hz⟩ := I.tuple hq
    obtain ⟨f0, f1, f2, f3, f4, f5⟩ := hf it (by simp)
    have pa : s.heap.IsTuple a its.toArray := p
    have hha : X.A.in1.handled = none := I.ok.hd hc
    have nai : a ≠ it := by
      rintro rfl
      obtain ⟨o, q1, q2, q3⟩ := hit
      obtain ⟨o', q1', q2', n', q3'⟩ := pa
      rw [q1] at q1'
      cases q1'
      rw [q3] at q3'
      cases q3'
    -- an iterator behind the end stands like one at the end: the next of it is told apart
    unfold pyNext
    have hT : s.TypeIs (.ref e) "enumerate" := ⟨_, he, rfl⟩
    refine wpAny_bind (wpAny_attempt (wpAny_callSpecial?_slot (name := Str.ofString "__next__") hT F.slot_enumerate_next
      (wpAny_call_entry F.slot_enumerate_next hT F.entry_enumerate_next ?_ (F.args_enumerate_next_1 _))))
    show wpAny _ _ (field (.ref e) 2 >>= _) _ _ _
    refine wpAny_bind (wpAny_field he rfl (x := .ref it) rfl ?_)
    refine wpAny_bind (wpAny_nextOf_tuple_end hha hit pa (by simp; have := rv.length; omega) fun h' x he' hx' => ?_)
    obtain ⟨o, ho, hc⟩ := hx'
    refine wpAny_bind (wpAny_isInstance (T := "StopIteration") (b := true) ⟨o, ho, hc⟩ isSubtype_stop ?_)
    exact wpAny_pure ⟨rfl, I.turned (t' := s.toks) (fun b o hb q => he' b o hb q) f0 f1 f3 f4 f5⟩
  self := fun A i s Q E st h => let ⟨⟨_, he⟩, _⟩ := st; wpAny_pyIter_enum he h
def iEnumT (K : PySem.W.Frag) (ta : TA) : TI := fun σ H R => ta σ H fun vs H1 => ∃ a xs, vs = [.ref a] ∧ SqT K H1 a xs ∧ R (IteT K a) H1
theorem pi_enumT {X : Cx} {e : Expr} {ta : TA} {p pos tpos : Pos} {elts : List Expr} {kk : Nat} (hg : Gl X "enumerate") (hm : X.mg "enumerate" = none) (ha : PA X [e] ta)
    (hs : starEach [e] X.env = [(false, eval e X.env)] := by rfl) : PI X (.Tuple elts kk tpos) (.Call (.Name "enumerate" p) [e] [] pos) (iEnumT X.K ta) := by
  constructor
  intro pins s σ H R I h
  refine Call_ (ld_blt I hg hm boot_enumerate (PyProof.Rows.callWith_type1 (thn (ha.run pos pins s σ H _ I h) ?_) hs rfl))
  rintro us s1 ⟨vs, H1, I1, r1, a, xs, ex, hq, q⟩
  subst ex
  rw [Vals.ref1 r1]
  obtain ⟨its, rv, p', hz⟩ := I1.tuple hq
  refine call_enum_tup p' fun h' he hit hsz hk => wpAny_pyIter_enum he ?_
  have I2 : Inv X pins σ H1 { s1 with heap := h' } := I1.kept (t' := s1.toks) hk
  refine ⟨s1.heap.objs.size + 1, [s1.heap.objs.size + 1, s1.heap.objs.size], _, _, H1, rfl, I2, turn_enumT a (s1.heap.objs.size + 1) s1.heap.objs.size, ⟨⟨.none, he⟩, hit, Nat.succ_ne_self _⟩, fun b hb => ?_, q⟩
  have cs : b = s1.heap.objs.size + 1 ∨ b = s1.heap.objs.size := by simpa using hb
  have hle : s1.heap.objs.size ≤ b := by
    rcases cs with z | z
    · rw [z]
      exact Nat.le_succ _
    · rw [z]
      exact Nat.le_refl _
  exact I1.fpOk hle (I1.hok.fresh hle)
theorem walk_enumT {K : PySem.W.Frag} {a : Addr} {xs : List V} : Walk (IteT K a) xs.length (fun H => SqT K H a xs) (YPair (fun i => some (.int (i : Nat))) (fun i => xs[i]?)) := by
  refine ⟨fun i _ hi q => ⟨xs, xs[i], q, by simp [hi]⟩, fun _ q => ⟨xs, q, Nat.le_refl _⟩, ?_⟩
  rintro i H v H' _ q ⟨T, x, h1, h2, h3, h4⟩
  exact ⟨T, .int (i : Nat), x, h1, h2, h3, rfl, h4 xs q⟩

/-! ### tuple.count of flat items -/
section
variable {X : Cx}
def rCountT (K : PySem.W.Frag) : V → List V → Hp → VK → Prop := fun x vs H Q => ∃ (a : Addr) (ys : List V) (y : V), x = V.ref a ∧ vs = [y] ∧ SqT K H a ys ∧ flatV y = true ∧ ys.all flatV = true ∧ Q (.int ((ys.countP fun z => eqV z y : Nat) : Int)) H
theorem countP_vals {y : V} : ∀ {xs : List V} {us : List Value}, Vals xs us → xs.all flatV = true → us.countP (eqU y) = xs.countP fun z => eqV z y
  | _, _, .nil, _ => rfl
  | x :: xs, u :: us, .cons r t, f => by
    rw [List.all_cons, Bool.and_eq_true] at f
    rw [List.countP_cons, List.countP_cons, countP_vals t f.2, eqU_of r f.1]
theorem mt_countT : MtR X "tuple.count" (rCountT X.K) := by
  intro pins s σ H x xs v us Q I rx rxs h
  obtain ⟨a, ys, y, rfl, rfl, hs, fy, fys, q⟩ := h
  cases rx
  cases rxs with
  | cons ry rt =>
    rename_i uy ut
    cases rt
    obtain ⟨its, rv, ⟨o, ho, hc, n, hd⟩, hlen⟩ := I.tuple hs
    obtain ⟨cls, dd, data, sl⟩ := o
    replace hc : cls = _ := hc
    replace hd : data = _ := hd
    subst hc hd
    refine call_meets PySem.F.slot_tuple_count ⟨_, ho, rfl⟩ PySem.F.entry_tuple_count (PySem.F.args_tuple_count_2 _ _)
      (SeqAt.tuple_countAt a its.toArray n dd sl uy (eqU y)) ⟨ho, fun u' hu' => mem_eqAt ry fy rv fys u' (by simpa using hu'), ?_⟩
    have e1 : its.toArray.toList.countP (eqU y) = ys.countP fun z => eqV z y := by
      rw [List.toList_toArray]
      exact countP_vals rv fys
    rw [e1]
    exact ⟨.int ((ys.countP fun z => eqV z y : Nat) : Int), H, I.tok _, ⟨_, rfl⟩, q⟩
end


/-- the law's own run from an abstract heap that knows the script alone, where the promise may lean on the empty list of guards -/
theorem lawG {P : Program} {w : World} {K : PySem.W.Frag} {mg mb : Str → Option Value} {k : Nat} {fa a : Addr} {fd : FuncData} {x : Str} {sp : Sp} {s₁ : Shared} {vs : List Value} {ns : List Int}
    (KX : K.In s₁.heap) (hns : s₁.heap.Ns mainGlobals mg) (hb : s₁.heap.Ns builtinsNs mb) (hbb : ∀ x : Str, x ≠ "__name__" → mb x = bootBuiltins x) (hlim : s₁.heap.NoLimit) (hg : s₁.gens = #[])
    (ha : s₁.heap.get? a = some { cls := .type "list", data := .seq vs.toArray }) (hi : IntsAre vs ns) (hl : ns.length ≤ sizeLine) (hr : Room k callerA)
    (F : ∀ base : Heap, K.In base → base.Ns mainGlobals mg → FnG P w K mg base k fa fd [x] sp) (hbind : ∀ (s : Shared) (u : Value), BindsTo s fd ⟨[u], []⟩ [(x, u)])
    (hsp : ∀ H : Hp, Only H → SqL K H a (ns.map V.int) → sp [.ref a] H (fun v _ => v = .bl true) E0) :
    codeAny (model P w) callerA (.call (.ref fa) ⟨[.ref a], []⟩)
      (fun r s' => r = .ok (.ret (.bool true)) ∧ OldK s₁.heap s'.heap ∧ s'.os = s₁.os ∧ AllBare s'.gens) s₁ := by
  have rv := vals_ints hi
  have lenV := hi.length
  have core : ∀ H : Hp, Only H → SqL K H a (ns.map V.int) → HOk P w H s₁.heap → (∀ b, H b ≠ none → b = a) → (H a ≠ none → K.lookup a = none) →
      codeAny (model P w) callerA (.call (.ref fa) ⟨[.ref a], []⟩)
        (fun r s' => r = .ok (.ret (.bool true)) ∧ OldK s₁.heap s'.heap ∧ s'.os = s₁.os ∧ AllBare s'.gens) s₁ := by
    intro H hO hS hok hA hK
    have dicts : ∀ {b : Addr} {o : Obj} {es : Array DictEntry} {ep : Nat}, s₁.heap.get? b = some o → o.data = .dict es ep → H b = none := by
      intro b o es ep e d
      match q : H b with
      | none => rfl
      | some u =>
        have eb : b = a := hA b (by rw [q]; simp)
        rw [eb, ha] at e
        rw [← Option.some.inj e] at d
        cases (show Data.seq vs.toArray _ = Data.dict es ep from d)
    have ns' : ∀ {b : Addr} {m : Str → Option Value}, s₁.heap.Ns b m → (hidT s₁.heap H).Ns b m := by
      rintro b m ⟨o, es, ep, e, d, r⟩
      exact ⟨o, es, ep, hidT_get e (dicts e d), d, r⟩
    have inK : K.In (hidT s₁.heap H) := by
      intro b o e
      refine hidT_get (KX b o e) ?_
      match q : H b with
      | none => rfl
      | some u =>
        have eb : b = a := hA b (by rw [q]; simp)
        rw [eb, hK (by rw [← eb, q]; simp)] at e
        cases e
    have md : Mod K mg (hidT s₁.heap H) := by
      obtain ⟨mc, h1, h2⟩ := hlim
      exact ⟨inK, ns' hns, ⟨mb, ns' hb, hbb⟩, ⟨mc, ns' h1, h2⟩⟩
    have e0 : Env0 P w K mg (hidT s₁.heap H) callerA [] s₁ H := by
      refine ⟨rfl, md, fun b o e => of_hidT e, ?_, trivial, ?_, hok, .of_eq hg⟩
      · exact Nat.le_of_eq (hidT_size _ _)
      · exact fun b hb => absurd (show b ∈ ([] : List Addr) from hb) (by simp)
    have run := (F _ inK (ns' hns)).run callerA [] s₁ H ⟨[.ref a], []⟩ [.ref a] [.ref a] _ _ rfl hr e0 (hbind s₁ (.ref a)) (.cons rfl .nil) (hsp H hO hS)
    refine codeAny_mono run fun r s' h => ?_
    match r, h with
    | .error e, h => exact False.elim h
    | .ok .next, h => exact False.elim h
    | .ok .brk, h => exact False.elim h
    | .ok .cont, h => exact False.elim h
    | .ok (.ret u), h =>
      obtain ⟨v, H', os, bare, un, hok', r', q⟩ := h
      replace q : v = .bl true := q
      subst q
      obtain rfl : u = Value.bool true := r'
      refine ⟨rfl, OldK.of_keep ?_, os, bare⟩
      intro b o e
      match q : H b with
      | none => exact un.keep b o e q (fun z => absurd (show b ∈ ([] : List Addr) from z) (by simp)) (by simp)
      | some u =>
        rcases hO b with z | ⟨ob, xs, z⟩
        · rw [q] at z
          cases z
        · obtain ⟨e1, _⟩ := hok b _ z
          obtain ⟨e2, _⟩ := hok' b _ (un.frzs b ob _ z)
          rw [e] at e1
          rw [Option.some.inj e1]
          exact e2
  match hk : K.lookup a with
  | some o =>
    have e := KX a o hk
    rw [ha] at e
    have eo := Option.some.inj e
    subst eo
    refine core (fun _ => none) (fun _ => .inl rfl) (.inr ⟨_, vs.toArray, _, hk, rfl, rfl, rfl, ?_, by simpa using rv⟩) (fun b u z => ?_) (fun b z => absurd rfl z) fun z => absurd rfl z
    · rw [List.size_toArray, lenV]
      exact hl
    · cases (show (none : Option HO) = some u from z)
  | none =>
    let Hs : Hp := fun b => if b = a then some (.frz { cls := .type "list", data := .seq vs.toArray } (.lst (ns.map V.int))) else none
    have hs1 : Hs a = some (.frz { cls := .type "list", data := .seq vs.toArray } (.lst (ns.map V.int))) := if_pos rfl
    have hs2 : ∀ b, b ≠ a → Hs b = none := fun b hb => if_neg hb
    have hs3 : ∀ b, Hs b ≠ none → b = a := fun b z => Classical.byContradiction fun hb => z (hs2 b hb)
    refine core Hs (fun b => ?_) (.inl (.inr ⟨{ cls := .type "list", data := .seq vs.toArray }, hs1⟩)) (fun b u z => ?_) hs3 fun _ => hk
    · by_cases hb : b = a
      · exact .inr ⟨_, _, hb ▸ hs1⟩
      · exact .inl (hs2 b hb)
    · have eb : b = a := hs3 b (by rw [z]; simp)
      rw [eb, hs1] at z
      rw [← Option.some.inj z, eb]
      exact ⟨ha, by rw [List.length_map]; exact hl, vs, _, rv, ha⟩
/-- the goal that k_head leaves, from such a promise of the law -/
theorem walkG {l : PySem.W.OpenLaw} {n k : Nat} {q : Program} {loose : List Str} {XP : (Str → Option Value) → Heap → Prop} {YP : World → Heap → Prop} {d : DefRec} {K : Params → PySem.W.Frag} {sp : PySem.W.Frag → Sp} {x : Str}
    (hn : l.most = some n) (hn2 : n ≤ sizeLine) (hdf : d.params.defaults = []) (hr : Room k callerA)
    (hY : ∀ (w : World) (h : Heap), YP w h → (K w.params).In h)
    (F : ∀ (w : World) (mg : Str → Option Value) (fa : Addr) (h : Heap), (K w.params).In h → h.Ns mainGlobals mg → mg d.name = some (.ref fa) →
      ∃ fd : FuncData, (∀ (s : Shared) (u : Value), BindsTo s fd ⟨[u], []⟩ [(x, u)]) ∧
        ∀ base : Heap, (K w.params).In base → base.Ns mainGlobals mg → FnG l.prog w (K w.params) mg base k fa fd [x] (sp (K w.params)))
    (hsp : ∀ (K : PySem.W.Frag) (H : Hp) (a : Addr) (ns : List Int), ns.length ≤ n → (∀ z ∈ ns, Builtin.Int.intBits z ≤ 1048576) → Only H → SqL K H a (ns.map V.int) → sp K [.ref a] H (fun v _ => v = .bl true) E0) :
    PySem.W.WalkO q loose XP YP l.row.toRowW d [] (fun f vs => PySem.call f vs) := by
  refine Att.attach_callB hn hdf ?_
  intro w s₀ s₁ mg mb fa o pm cd doc a vs ns G Y ho hd hcd hmg hobj hints hlen hbits hg
  have KX := hY w _ Y
  obtain ⟨fd, hb, hF⟩ := F w mg fa _ KX G.T.g hmg
  exact lawG KX G.T.g G.T.b G.T.builtins G.T.nolimit hg hobj hints (Nat.le_trans hlen hn2) hr hF hb fun H hO hS => hsp (K w.params) H a ns hlen hbits hO hS


/-! ### tuples whose very object is known: they have no dict, so their methods may be called -/
def tyF (T : String) (x : V) (H : Hp) : Prop := ∃ p o u, x = .ref p ∧ H p = some (.frz o u) ∧ o.cls = .type T ∧ o.dict = none
def FT (H : Hp) (a : Addr) (xs : List V) : Prop := ∃ o, H a = some (.frz o (.tup xs)) ∧ o.cls = .type "tuple" ∧ o.dict = none
theorem FT.seq {K : PySem.W.Frag} {H : Hp} {a : Addr} {xs : List V} (h : FT H a xs) : SqT K H a xs := by
  obtain ⟨o, h, _⟩ := h
  exact .inl (.inr ⟨o, h⟩)
theorem FT.ty {H : Hp} {a : Addr} {xs : List V} (h : FT H a xs) : tyF "tuple" (.ref a) H := by
  obtain ⟨o, h, c, d⟩ := h
  exact ⟨a, o, _, rfl, h, c, d⟩
def tBMF (T : String) (r : V → List V → Hp → VK → Prop) (to : TE) (t : TA) : TE := fun σ H Q => to σ H fun x H1 => tyF T x H1 ∧ t σ H1 fun xs H2 => r x xs H2 Q
section
variable {X : Cx} {o e : Expr} {es : List Expr} {to : TE} {t : TA} {name : Str} {apos cpos pos : Pos} {T id : String} {r : V → List V → Hp → VK → Prop}
theorem pe_bmF (pa : PlainAttrs T) (slot : Slot T name id) (hty : typeOf (.builtin id) = pure (.type "method_descriptor")) (hm : MtR X id r) (ho : PE X o to) (ha : PA X (e :: es) t)
    (hbase : attributeBase o name X.env (eval o X.env) = eval o X.env := by rfl)
    (hfew : ((backTo cpos (starEach (e :: es) X.env)).all (fun x => !x.1) && (backToKw cpos (keywordEach [] X.env)).all (fun x => x.1.isSome)
      && decide ((e :: es).length + ([] : List Keyword).length + (if ([] : List Keyword).isEmpty then 0 else 1) < 30)) = true := by rfl)
    (hline : (apos.endLine == cpos.line) = true := by rfl) (hs : starEach (e :: es) X.env = (false, eval e X.env) :: starEach es X.env := by rfl) (hplain : (backTo cpos (starEach es X.env)).any (·.1) = false := by rfl) :
    PE X (.Call (.Attribute o name apos) (e :: es) [] cpos) (tBMF T r to t) := by
  constructor
  intro pins s σ H Q I h
  refine wpAny_Call_method_late hbase hfew hline rfl (thn (ho.run pins s σ H _ I h) ?_)
  rintro v s1 ⟨x, H1, I1, r1, ⟨p, ob, u, rfl, hp, hc, hd⟩, q1⟩
  cases r1
  have hob := (I1.hok p _ hp).1
  refine ⟨T, id, pa, slot, hty, ⟨ob, hob, hc⟩, ?_, ?_⟩
  · intro a ea
    cases ea
    exact ⟨ob, hob, hd⟩
  have hA := ha.run cpos pins s1 σ H1 _ I1 q1
  rw [hs] at hA ⊢
  refine Calls.callWith_builtin ?_ (Calls.evalArgs_plain (thn hA fun us s2 ⟨vs, H2, I2, r2, q2⟩ => hm pins s2 σ H2 (.ref p) vs (.ref p) us Q I2 (show RelV (.ref p) (.ref p) from rfl) r2 q2))
  show (false || (backTo cpos (starEach es X.env)).any (·.1)) = false
  rw [hplain, Bool.false_or]
theorem call_tupF : CallR X (.type "tuple") (fun xs H Q => ∃ p ys, xs = [.ref p] ∧ SqL X.K H p ys ∧ ∀ l o, H l = none → o.cls = .type "tuple" → o.dict = none → Q (.ref l) (upd H l (.frz o (.tup ys)))) := by
  intro pins s σ H xs us Q I r h
  obtain ⟨p, ys, rfl, hq, q⟩ := h
  rw [Vals.ref1 r]
  obtain ⟨its, r', pl, hz⟩ := I.list hq
  have hlen := r'.length
  refine call_tuple_list pl.isList (fun h' kp => ?_) (by simp only [List.size_toArray] <;> omega)
  have I1 : Inv X pins σ H { s with heap := h' } := I.kept (t' := s.toks) kp
  let ob : Obj := { cls := .type "tuple", data := .seq its.toArray }
  have I2 : Inv X pins σ (upd H h'.objs.size (.frz ob (.tup ys))) { s with heap := h'.push ob } :=
    I1.laid (t' := s.toks) (fun b o e => Heap.get?_push_of_some _ e) (Nat.le_refl _) ⟨Heap.get?_push_size _ rfl, hz, its, r', IsTup.new _ _⟩
  exact ⟨.ref h'.objs.size, _, I2, rfl, q _ ob (I1.hok.fresh (Nat.le_refl _)) rfl rfl⟩
def tTupF (t : TA) : TE := fun σ H Q => t σ H fun xs H1 => xs.length ≤ sizeLine ∧ ∀ p o, H1 p = none → o.cls = .type "tuple" → o.dict = none → Q (.ref p) (upd H1 p (.frz o (.tup xs)))
theorem pe_tupF {x1} (h : PA X es t) : PE X (.Tuple es x1 pos) (tTupF t) := by
  constructor
  intro pins s σ H Q I hq
  refine wpAny_Tuple_spliced (thn (h.run pos pins s σ H _ I hq) ?_)
  rintro us s1 ⟨xs, H1, I1, r, z, q⟩
  refine ⟨by rw [← r.length]; exact z, ?_⟩
  have hf : H1 s1.heap.objs.size = none := I1.hok.fresh (Nat.le_refl _)
  refine ⟨.ref s1.heap.objs.size, upd H1 s1.heap.objs.size (.frz { cls := .type "tuple", data := .seq us.toArray } (.tup xs)), I1.laid (t' := s1.toks) (fun b u e => Heap.get?_push_of_some _ e) (Nat.le_refl _) ?_, rfl, q _ _ hf rfl rfl⟩
  exact ⟨Heap.get?_push_size _ rfl, z, us, r, ⟨_, Heap.get?_push_size _ rfl, rfl, _, rfl⟩⟩
end

/-! ### what an update of the list at a place leaves, for the reading of o[i] op= e -/
def rGetL (K : PySem.W.Frag) : V → V → Hp → VK → Prop := fun o i H Q => ∃ p xs k v, o = .ref p ∧ i = .int k ∧ SqL K H p xs ∧ atI xs k = some v ∧ Q v H

/-! ### steps of a reading -/
abbrev SS := L2.St
section
variable {K : PySem.W.Frag} {σ : SS} {H H' : Hp} {Q : VK} {QB : Bool → Hp → Prop} {QA : List V → Hp → Prop} {QS : SS → Hp → Prop} {x y v : V} {ta tb te : TE} {tt tu : TT} {t : TA} {xs : List V} {p : Addr} {i j : Int} {n : Nat}
theorem x_var (h : σ[n]? = some (some v)) (q : Q v H) : tVar n σ H Q := ⟨v, h, q⟩
theorem x_c (q : Q v H) : tC v σ H Q := q
theorem x_op {r : R2} (q : ta σ H fun x H1 => tb σ H1 fun y H2 => r x y H2 Q) : tOp r ta tb σ H Q := q
theorem x_un {r : V → Hp → VK → Prop} (q : ta σ H fun x H1 => r x H1 Q) : tUn r ta σ H Q := q
theorem x_I0 {g : Int → Int → V} (q : Q (g i j) H) : rI0 g (.int i) (.int j) H Q := ⟨i, j, rfl, rfl, q⟩
theorem x_I {C : Int → Int → Prop} {g : Int → Int → V} (c : C i j) (q : Q (g i j) H) : rI C g (.int i) (.int j) H Q := ⟨i, j, rfl, rfl, c, q⟩
theorem x_U {g : Int → V} (q : Q (g i) H) : rU g (.int i) H Q := ⟨i, rfl, q⟩
theorem x_eq (s : scal x y = true) (q : Q (.bl (decide (x = y))) H) : rEq x y H Q := ⟨s, q⟩
theorem x_ne (s : scal x y = true) (q : Q (.bl (!decide (x = y))) H) : rNe x y H Q := ⟨s, q⟩
theorem x_isN (q : Q (.bl (decide (x = .non))) H) : rIsN x .non H Q := ⟨rfl, q⟩
theorem x_notN (q : Q (.bl (!decide (x = .non))) H) : rNotN x .non H Q := ⟨rfl, q⟩
theorem x_ixL (h : SqL K H p xs) (a : atI xs i = some v) (q : Q v H) : rIxL K (.ref p) (.int i) H Q := ⟨p, xs, i, v, rfl, rfl, h, a, q⟩
theorem x_ixT (h : SqT K H p xs) (a : atI xs i = some v) (q : Q v H) : rIxT K (.ref p) (.int i) H Q := ⟨p, xs, i, v, rfl, rfl, h, a, q⟩
theorem x_nil (q : QA [] H) : tNil σ H QA := q
theorem x_cons {tr : TA} (q : ta σ H fun x H1 => tr σ H1 fun xs H2 => QA (x :: xs) H2) : tCons ta tr σ H QA := q
theorem x_lst (q : t σ H fun xs H1 => xs.length ≤ sizeLine ∧ ∀ p, H1 p = none → Q (.ref p) (upd H1 p (.lst xs))) : tLst t σ H Q := q
theorem x_tup (q : t σ H fun xs H1 => xs.length ≤ sizeLine ∧ ∀ p, H1 p = none → Q (.ref p) (upd H1 p (.tup xs))) : tTup t σ H Q := q
theorem x_tupF (q : t σ H fun xs H1 => xs.length ≤ sizeLine ∧ ∀ p o, H1 p = none → o.cls = .type "tuple" → o.dict = none → Q (.ref p) (upd H1 p (.frz o (.tup xs)))) : tTupF t σ H Q := q
theorem x_CB {r : List V → Hp → VK → Prop} (q : t σ H fun vs H1 => r vs H1 Q) : tCB r t σ H Q := q
theorem x_call {sp : Sp} {E : XK} (q : t σ H fun vs H1 => sp (vs ++ []) H1 Q E) : tCall sp [] E t σ H Q := q
theorem x_test (q : te σ H fun x H' => ∃ k, x = .bl k ∧ QB k H') : tTest te σ H QB := q
theorem x_bl {b : Bool} {R : Bool → Prop} (q : R b) : ∃ k, V.bl b = .bl k ∧ R k := ⟨b, rfl, q⟩
theorem x_B (q : te σ H fun x H1 => ∃ c, x = .bl c ∧ QB c H1) : tB te σ H QB := q
theorem x_andV (q : ta σ H fun x H1 => ∃ c, x = .bl c ∧ if c = true then tb σ H1 Q else Q (.bl false) H1) : tAndV ta tb σ H Q := q
theorem x_orV (q : ta σ H fun x H1 => ∃ c, x = .bl c ∧ if c = true then Q (.bl true) H1 else tb σ H1 Q) : tOrV ta tb σ H Q := q
theorem x_notV (q : ta σ H fun x H1 => ∃ c, x = .bl c ∧ Q (.bl (!c)) H1) : tNotV ta σ H Q := q
theorem x_and (q : tt σ H fun c H1 => if c = true then tu σ H1 QB else QB false H1) : tAnd tt tu σ H QB := q
theorem x_or (q : tt σ H fun c H1 => if c = true then QB true H1 else tu σ H1 QB) : tOr tt tu σ H QB := q
theorem x_not (q : tt σ H fun c H1 => QB (!c) H1) : tNot tt σ H QB := q
theorem x_if (q : tt σ H fun c H1 => if c = true then ta σ H1 Q else tb σ H1 Q) : tIf tt ta tb σ H Q := q
theorem x_sl {r : V → Option Int → Option Int → Hp → VK → Prop} {tl th : TO} (q : te σ H fun x H1 => tl σ H1 fun l H2 => th σ H2 fun u H3 => r x l u H3 Q) : tSl r te tl th σ H Q := q
theorem x_no {QO : Option Int → Hp → Prop} (q : QO none H) : tNoPart σ H QO := q
theorem x_part {QO : Option Int → Hp → Prop} (q : te σ H fun x H1 => ∃ i, x = .int i ∧ QO (some i) H1) : tPart te σ H QO := q
theorem x_int {R : Int → Prop} (q : R i) : ∃ k, V.int i = .int k ∧ R k := ⟨i, rfl, q⟩
theorem x_slL {lo hi : Option Int} (h : SqL K H p xs) (q : ∀ a, H a = none → Q (.ref a) (upd H a (.lst (cutV xs lo hi)))) : rSlL K (.ref p) lo hi H Q := ⟨p, xs, rfl, h, q⟩
/- statements: the ends written out -/
variable {nx bk ct : SS → Hp → Prop} {rt : VK} {s1 s2 : TS} {g : TG}
theorem x_seq (q : s1 ⟨s2 ⟨nx, rt, bk, ct⟩, rt, bk, ct⟩ σ H) : tSeq s1 s2 ⟨nx, rt, bk, ct⟩ σ H := q
theorem x_next (q : nx σ H) : tNext ⟨nx, rt, bk, ct⟩ σ H := q
theorem x_brk (q : bk σ H) : tBreak ⟨nx, rt, bk, ct⟩ σ H := q
theorem x_cont (q : ct σ H) : tCont ⟨nx, rt, bk, ct⟩ σ H := q
theorem x_drop (q : te σ H fun _ H1 => nx σ H1) : tDrop te ⟨nx, rt, bk, ct⟩ σ H := q
theorem x_ret (q : te σ H rt) : tRet te ⟨nx, rt, bk, ct⟩ σ H := q
theorem x_retN (q : rt .non H) : tRetN ⟨nx, rt, bk, ct⟩ σ H := q
theorem x_asg (q : te σ H fun x H1 => g x σ H1 nx) : tAsg te g ⟨nx, rt, bk, ct⟩ σ H := q
theorem x_name (q : QS (σ.set n (some v)) H) : gName n v σ H QS := q
theorem x_gtup {m : Nat} {u : TGs} (h : SqT K H p xs) (l : xs.length = m) (q : u xs σ H QS) : gTup K m u (.ref p) σ H QS := ⟨p, xs, rfl, h, l, q⟩
theorem x_gnil (q : QS σ H) : gNil [] σ H QS := ⟨rfl, q⟩
theorem x_gcons {u : TGs} (q : g v σ H fun σ' H' => u xs σ' H' QS) : gCons g u (v :: xs) σ H QS := ⟨v, xs, rfl, q⟩
theorem x_gsub {to ti : TE} {s : TSet} (q : to σ H fun o H1 => ti σ H1 fun i H2 => s o i v H2 fun H3 => QS σ H3) : gSub to ti s v σ H QS := q
theorem x_setL {QH : Hp → Prop} {k : Nat} (h : H p = some (.lst xs)) (a : ixN xs.length i = some k) (q : QH (upd H p (.lst (xs.set k v)))) : rSetL (.ref p) (.int i) v H QH := ⟨p, xs, i, k, rfl, rfl, h, a, q⟩
theorem x_par {k m : Nat} (q : t σ H fun vs H1 => ∃ v w, vs = [v, w] ∧ nx ((σ.set k (some v)).set m (some w)) H1) : tPar k m t ⟨nx, rt, bk, ct⟩ σ H := q
theorem x_two {R : V → V → Prop} (q : R x y) : ∃ v w, [x, y] = [v, w] ∧ R v w := ⟨x, y, rfl, q⟩
theorem x_ifS {c : TT} (q : c σ H fun b H1 => if b = true then s1 ⟨nx, rt, bk, ct⟩ σ H1 else s2 ⟨nx, rt, bk, ct⟩ σ H1) : tIfS c s1 s2 ⟨nx, rt, bk, ct⟩ σ H := q
theorem x_aug {ti : TIp} (h : σ[n]? = some (some x)) (q : te σ H fun y H1 => ti x y H1 fun z H2 => nx (σ.set n (some z)) H2) : tAug n te ti ⟨nx, rt, bk, ct⟩ σ H := ⟨x, h, q⟩
theorem x_ipI {f : Int → Int → Int} (q : Q (.int (f i j)) H) : ipI f (.int i) (.int j) H Q := ⟨i, j, rfl, rfl, q⟩
theorem x_augS {to ti : TE} {tget : V → V → Hp → VK → Prop} {tip : TIp} {tset : TSet} (q : to σ H fun o H1 => ti σ H1 fun i H2 => tget o i H2 fun x H3 => te σ H3 fun y H4 => tip x y H4 fun z H5 => tset o i z H5 fun H6 => nx σ H6) : tAugS to ti te tget tip tset ⟨nx, rt, bk, ct⟩ σ H := q
/- built-ins -/
theorem x_lenS {R : List V → Prop} (h : SqL K H p xs) (q : R xs) : ∃ p' ys, [V.ref p] = [.ref p'] ∧ (SqL K H p' ys ∨ SqT K H p' ys) ∧ R ys := ⟨p, xs, rfl, .inl h, q⟩
theorem x_lenT {R : List V → Prop} (h : SqT K H p xs) (q : R xs) : ∃ p' ys, [V.ref p] = [.ref p'] ∧ (SqL K H p' ys ∨ SqT K H p' ys) ∧ R ys := ⟨p, xs, rfl, .inr h, q⟩
theorem x_abs {R : Int → Prop} (q : R i) : ∃ k, [V.int i] = [.int k] ∧ R k := ⟨i, rfl, q⟩
theorem x_toI {R : Int → Prop} {R' : Bool → Prop} (q : R i) : (∃ k, [V.int i] = [.int k] ∧ R k) ∨ ∃ k, [V.int i] = [.bl k] ∧ R' k := .inl ⟨i, rfl, q⟩
theorem x_toIb {R : Int → Prop} {R' : Bool → Prop} {b : Bool} (q : R' b) : (∃ k, [V.bl b] = [.int k] ∧ R k) ∨ ∃ k, [V.bl b] = [.bl k] ∧ R' k := .inr ⟨b, rfl, q⟩
theorem x_min2 {R : Int → Int → Prop} (q : R i j) : ∃ a b, [V.int i, V.int j] = [.int a, .int b] ∧ R a b := ⟨i, j, rfl, q⟩
theorem x_tupS {Q1 Q2 : Addr → List V → Prop} (h : SqL K H p xs) (q : Q1 p xs) : ∃ p' ys, [V.ref p] = [.ref p'] ∧ ((SqL K H p' ys ∧ Q1 p' ys) ∨ (SqT K H p' ys ∧ Q2 p' ys)) := ⟨p, xs, rfl, .inl ⟨h, q⟩⟩
theorem x_tupF1 {R : List V → Prop} (h : SqL K H p xs) (q : R xs) : ∃ p' ys, [V.ref p] = [.ref p'] ∧ SqL K H p' ys ∧ R ys := ⟨p, xs, rfl, h, q⟩
theorem x_insert {R : Addr → List V → Int → V → Prop} (h : H p = some (.lst xs)) (l : xs.length < sizeLine) (h0 : 0 ≤ i) (h1 : i < 2 ^ 63) (q : R p xs i v) :
    ∃ (l : Addr) (ys : List V) (k : Int) (y : V), V.ref p = .ref l ∧ [V.int i, v] = [.int k, y] ∧ H l = some (.lst ys) ∧ ys.length < sizeLine ∧ 0 ≤ k ∧ k < 2 ^ 63 ∧ R l ys k y := ⟨p, xs, i, v, rfl, rfl, h, l, h0, h1, q⟩
theorem x_bm {r : V → List V → Hp → VK → Prop} {T : String} (q : ta σ H fun x H1 => tyV K T x H1 ∧ t σ H1 fun xs H2 => r x xs H2 Q) : tBM K T r ta t σ H Q := q
theorem x_bm0 {r : V → List V → Hp → VK → Prop} {T : String} (q : ta σ H fun x H1 => tyV K T x H1 ∧ r x [] H1 Q) : tBM0 K T r ta σ H Q := q
theorem x_bmF {r : V → List V → Hp → VK → Prop} {T : String} (q : ta σ H fun x H1 => tyF T x H1 ∧ t σ H1 fun xs H2 => r x xs H2 Q) : tBMF T r ta t σ H Q := q
theorem ty_list (h : SqL K H p xs) : tyV K "list" (.ref p) H := .inl ⟨rfl, xs, h⟩
theorem x_append {Q : VK} (h : H p = some (.lst xs)) (l : xs.length < sizeLine) (q : Q .non (upd H p (.lst (xs ++ [v])))) : rAppend (.ref p) [v] H Q := ⟨p, xs, v, rfl, rfl, h, l, q⟩
theorem x_reverse {Q : VK} (h : H p = some (.lst xs)) (q : Q .non (upd H p (.lst xs.reverse))) : rReverse (.ref p) [] H Q := ⟨p, xs, rfl, rfl, h, q⟩
theorem x_lrg {Q : VK} {te : SS → Hp → (Int → Int → Hp → Prop) → Prop} (q : te σ H fun a b H1 => RgOk a b ∧ ∀ q, H1 q = none → Q (.ref q) (upd H1 q (.lst (rgV a b)))) : tLstRg te σ H Q := q
theorem x_rg1 {QR : Int → Int → Hp → Prop} (q : ta σ H fun x H1 => ∃ n, x = .int n ∧ QR 0 n H1) : tRg1 ta σ H QR := q
end
section
variable {K : PySem.W.Frag} {H : Hp} {Q : VK} {n : Nat}
theorem x_new {R : Addr → Prop} (z : n ≤ sizeLine) (q : ∀ p, H p = none → R p) : n ≤ sizeLine ∧ ∀ p, H p = none → R p := ⟨z, q⟩
theorem x_newF {R : Addr → Obj → Prop} (z : n ≤ sizeLine) (q : ∀ p (o : Obj), H p = none → o.cls = .type "tuple" → o.dict = none → R p o) : n ≤ sizeLine ∧ ∀ p (o : Obj), H p = none → o.cls = .type "tuple" → o.dict = none → R p o := ⟨z, q⟩
theorem x_iteT {A B : Prop} (q : A) : if true = true then A else B := iteT q
theorem x_iteF {A B : Prop} (q : B) : if false = true then A else B := iteF q
theorem dp_ints {a : Addr} : ∀ cs : List Int, DpAll K H (cs.map V.int) (cs.map PyData.int)
  | [] => .nil
  | z :: r => .cons (.int z) (dp_ints (a := a) r)
theorem lay_ints : ∀ cs : List Int, PyData.canLayAll0 (cs.map PyData.int) = true
  | [] => by simp only [List.map_nil, PyData.canLayAll0]
  | z :: r => by simp only [List.map_cons, PyData.canLayAll0, PyData.canLay0, lay_ints r, Bool.and_self]
theorem deep_ints : ∀ cs : List Int, PyData.depthAll (cs.map PyData.int) = 0
  | [] => by simp only [List.map_nil, PyData.depthAll]
  | z :: r => by simp [List.map_cons, PyData.depthAll, PyData.depth, deep_ints r]
theorem shaped_ints (cs : List Int) : SeqAt.shaped (.list (cs.map PyData.int)) = true := by
  unfold SeqAt.shaped
  simp [PyData.canLay0, PyData.depth, lay_ints, deep_ints]
theorem x_neNil {a b : Addr} {cs : List Int} (h : SqL K H a (cs.map V.int)) (hb : SqL K H b []) (q : Q (.bl (!cs.isEmpty)) H) : rNeD K (.ref a) (.ref b) H Q := by
  refine ⟨.list (cs.map PyData.int), .list [], .lst h (dp_ints (a := a) cs), .lst hb .nil, shaped_ints cs, shaped_ints [], ?_⟩
  have e : PyData.eqv (.list (cs.map PyData.int)) (.list []) = cs.isEmpty := by
    cases cs <;> simp [PyData.eqv, PyData.eqvAll]
  rw [e]
  exact q
end
theorem natAbs_lt {i : Int} {n : Nat} (h : -(n : Int) < i) (h2 : i < n) : i.natAbs < n := by omega
/- looking up -/
theorem boot'_len : bootBuiltins "len" = some (.builtin "len") := by decide +kernel
theorem boot'_abs : bootBuiltins "abs" = some (.builtin "abs") := by decide +kernel
theorem boot'_int : bootBuiltins "int" = some (.type "int") := by decide +kernel
theorem boot'_bool : bootBuiltins "bool" = some (.type "bool") := by decide +kernel
theorem boot'_list : bootBuiltins "list" = some (.type "list") := by decide +kernel
theorem boot'_tuple : bootBuiltins "tuple" = some (.type "tuple") := by decide +kernel
theorem boot'_str : bootBuiltins "str" = some (.type "str") := by decide +kernel
theorem boot'_min : bootBuiltins "min" = some (.builtin "min") := by decide +kernel
theorem boot'_max : bootBuiltins "max" = some (.builtin "max") := by decide +kernel
theorem boot'_sum : bootBuiltins "sum" = some (.builtin "sum") := by decide +kernel
theorem boot'_any : bootBuiltins "any" = some (.builtin "any") := by decide +kernel
theorem boot'_all : bootBuiltins "all" = some (.builtin "all") := by decide +kernel
theorem boot'_repr : bootBuiltins "repr" = some (.builtin "repr") := by decide +kernel
theorem boot'_sorted : bootBuiltins "sorted" = some (.builtin "sorted") := by decide +kernel
theorem boot'_isinstance : bootBuiltins "isinstance" = some (.builtin "isinstance") := by decide +kernel
theorem boot'_range : bootBuiltins "range" = some (.type "range") := by decide +kernel
theorem boot'_enumerate : bootBuiltins "enumerate" = some (.type "enumerate") := by decide +kernel
theorem boot'_set : bootBuiltins "set" = some (.type "set") := by decide +kernel
theorem x_start {t : TS} {D : Ends} {σ σ' : SS} {H : Hp} (e : σ = σ') (q : t D σ' H) : t D σ H := e ▸ q

theorem lk_ne {H : Hp} {p q : Addr} {o u : HO} (h : H q = some u) (n : H p = none) : upd H p o q = some u := (upd_ne (ne_of_none h n)).trans h
theorem lk_ne2 {H : Hp} {p q : Addr} {o u : HO} (hne : q ≠ p) (h : H q = some u) : upd H p o q = some u := (upd_ne hne).trans h
/-- all but what stands in S is kept -/
def Kx (S : List Addr) (H H' : Hp) : Prop := ∀ b o, b ∉ S → H b = some o → H' b = some o
theorem Kx.refl (S : List Addr) (H : Hp) : Kx S H H := fun _ _ _ h => h
theorem Kx.trans {S : List Addr} {H H1 H2 : Hp} (a : Kx S H H1) (b : Kx S H1 H2) : Kx S H H2 := fun c o n h => b c o n (a c o n h)
theorem Kx.new {S : List Addr} {H H1 : Hp} {p : Addr} {o : HO} (a : Kx S H H1) (n : H1 p = none) : Kx S H (upd H1 p o) := fun b u hb h => lk_ne (a b u hb h) n
theorem Kx.fresh {S : List Addr} {H H1 : Hp} {p : Addr} (a : Kx S H H1) (hp : p ∉ S) (n : H1 p = none) : H p = none := by
  cases q : H p with
  | none => rfl
  | some o => rw [a p o hp q] at n; cases n
/-- a write at a thing that H did not know, or that S bears -/
theorem Kx.wr {S : List Addr} {H H1 : Hp} {p : Addr} {o : HO} (a : Kx S H H1) (n : H p = none ∨ p ∈ S) : Kx S H (upd H1 p o) := fun b u hb h => by
  have nb : b ≠ p := by
    rcases n with n | n
    · exact ne_of_none h n
    · exact fun e => hb (e ▸ n)
  rw [upd_ne nb]
  exact a b u hb h
theorem Kx.mono {S T : List Addr} {H H' : Hp} (a : Kx S H H') (h : ∀ b ∈ S, b ∈ T) : Kx T H H' := fun b o n e => a b o (fun z => n (h b z)) e
theorem lk_keep {S : List Addr} {H H' : Hp} {q : Addr} {u : HO} (k : Kx S H H') (hq : q ∉ S) (h : H q = some u) : H' q = some u := k q u hq h
theorem Kx.sqT {S : List Addr} {K : PySem.W.Frag} {H H' : Hp} {a : Addr} {xs : List V} (k : Kx S H H') (n : a ∉ S) (h : SqT K H a xs) : SqT K H' a xs := by
  rcases h with (h | ⟨o, h⟩) | h
  · exact .inl (.inl (k _ _ n h))
  · exact .inl (.inr ⟨o, k _ _ n h⟩)
  · exact .inr h
theorem Kx.sqL {S : List Addr} {K : PySem.W.Frag} {H H' : Hp} {a : Addr} {xs : List V} (k : Kx S H H') (n : a ∉ S) (h : SqL K H a xs) : SqL K H' a xs := by
  rcases h with (h | ⟨o, h⟩) | h
  · exact .inl (.inl (k _ _ n h))
  · exact .inl (.inr ⟨o, k _ _ n h⟩)
  · exact .inr h
theorem Kx.same {H H' : Hp} (h : Same H H') (S : List Addr) : Kx S H H' := fun b o _ e => h b o e


/-! ### loops and comprehensions: what each asks, by a word Pv of the turn -/
section
variable {K : PySem.W.Frag} {σ : SS} {H : Hp} {Q : VK} {nx bk ct : SS → Hp → Prop} {rt : VK} {g : TG} {tb : TS} {tl te : TE} {ta : TA} {tt : TT} {vs : List Nat}
/-- the asking of a for over n turns that give what Y tells while G holds -/
def AskF (n : Nat) (G : Hp → Prop) (Y : Nat → Hp → V → Hp → Prop) (g : TG) (tb : TS) (nx : SS → Hp → Prop) (rt : VK) (σ : SS) (H : Hp) : Prop :=
  ∃ Pv : Nat → SS → Hp → Prop, Pv 0 σ H ∧ (∀ i σ H, i ≤ n → Pv i σ H → G H) ∧
    (∀ i x σ H H', i < n → Pv i σ H → Y i H x H' → g x σ H' fun σ2 H2 => tb ⟨Pv (i + 1), rt, nx, Pv (i + 1)⟩ σ2 H2) ∧ ∀ σ H, Pv n σ H → nx σ H
def AskC (n : Nat) (G : Hp → Prop) (Y : Nat → Hp → V → Hp → Prop) (g : TG) (tt : TT) (te : TE) (vs : List Nat) (σ : SS) (H : Hp) (Q : VK) : Prop :=
  ∀ D, H D = none → ∃ Pv : Nat → Hp → Prop, Pv 0 (upd H D (.lst [])) ∧ (∀ i H, i ≤ n → Pv i H → G H) ∧
    (∀ i x H H', i < n → Pv i H → Y i H x H' → g x (wipe σ vs) H' fun σ2 H2 => wipe σ2 vs = wipe σ vs ∧ tt σ2 H2 fun b H3 =>
      if b = true then te σ2 H3 fun y H4 => ∃ acc, H4 D = some (.lst acc) ∧ acc.length < sizeLine ∧ Pv (i + 1) (upd H4 D (.lst (acc ++ [y]))) else Pv (i + 1) H3) ∧ ∀ H, Pv n H → Q (.ref D) H
theorem askF {J : It} {n : Nat} {G : Hp → Prop} {Y : Nat → Hp → V → Hp → Prop} (w : Walk J n G Y) (q : AskF n G Y g tb nx rt σ H) :
    ∃ W : Nat → Nat → SS → Hp → Prop, (∃ m, W 0 m σ H) ∧ ∀ i m σ H, W i m σ H → (J.stop i H ∧ nx σ H) ∨
      (J.go i H ∧ ∃ N : SS → Hp → Prop, (∀ σ' H', N σ' H' → ∃ m', m' < m ∧ W (i + 1) m' σ' H') ∧ ∀ x H', J.yld i H x H' → g x σ H' fun σ2 H2 => tb ⟨N, rt, nx, N⟩ σ2 H2) := by
  obtain ⟨Pv, h0, h1, h2, h3⟩ := q
  exact for_it (D := ⟨nx, rt, fun _ _ => False, fun _ _ => False⟩) w Pv h0 h1 h2 h3
theorem askC {J : It} {n : Nat} {G : Hp → Prop} {Y : Nat → Hp → V → Hp → Prop} (w : Walk J n G Y) (q : AskC n G Y g tt te vs σ H Q) :
    ∀ D, H D = none → ∃ W : Nat → Nat → Hp → Prop, (∃ m, W 0 m (upd H D (.lst []))) ∧ ∀ i m H, W i m H → (J.stop i H ∧ Q (.ref D) H) ∨
      (J.go i H ∧ ∃ Nx : Hp → Prop, (∀ H', Nx H' → ∃ m', m' < m ∧ W (i + 1) m' H') ∧ ∀ x H', J.yld i H x H' → g x (wipe σ vs) H' fun σ2 H2 => wipe σ2 vs = wipe σ vs ∧ tt σ2 H2 fun b H3 =>
        if b = true then te σ2 H3 fun y H4 => ∃ acc, H4 D = some (.lst acc) ∧ acc.length < sizeLine ∧ Nx (upd H4 D (.lst (acc ++ [y]))) else Nx H3) := by
  intro D hD
  obtain ⟨Pv, h0, h1, h2, h3⟩ := q D hD
  exact lc_it w Pv h0 h1 h2 h3
abbrev YA (xs : List V) := YAt xs
abbrev YE (xs : List V) := YPair (fun i => some (.int (i : Nat))) (fun i => xs[i]?)
def WF (J : It) (g : TG) (tb : TS) (nx : SS → Hp → Prop) (rt : VK) (σ : SS) (H : Hp) : Prop := ∃ W : Nat → Nat → SS → Hp → Prop, (∃ m, W 0 m σ H) ∧ ∀ i m σ H, W i m σ H → (J.stop i H ∧ nx σ H) ∨
      (J.go i H ∧ ∃ N : SS → Hp → Prop, (∀ σ' H', N σ' H' → ∃ m', m' < m ∧ W (i + 1) m' σ' H') ∧ ∀ x H', J.yld i H x H' → g x σ H' fun σ2 H2 => tb ⟨N, rt, nx, N⟩ σ2 H2)
def WC (J : It) (g : TG) (tt : TT) (te : TE) (vs : List Nat) (σ : SS) (H : Hp) (Q : VK) : Prop := ∀ D, H D = none → ∃ W : Nat → Nat → Hp → Prop, (∃ m, W 0 m (upd H D (.lst []))) ∧ ∀ i m H, W i m H → (J.stop i H ∧ Q (.ref D) H) ∨
      (J.go i H ∧ ∃ Nx : Hp → Prop, (∀ H', Nx H' → ∃ m', m' < m ∧ W (i + 1) m' H') ∧ ∀ x H', J.yld i H x H' → g x (wipe σ vs) H' fun σ2 H2 => wipe σ2 vs = wipe σ vs ∧ tt σ2 H2 fun b H3 =>
        if b = true then te σ2 H3 fun y H4 => ∃ acc, H4 D = some (.lst acc) ∧ acc.length < sizeLine ∧ Nx (upd H4 D (.lst (acc ++ [y]))) else Nx H3)
theorem x_for {wi : TI} (q : wi σ H fun J H1 => WF J g tb nx rt σ H1) : tFor wi g tb ⟨nx, rt, bk, ct⟩ σ H := q
theorem x_lc {wi : TI} (q : wi σ H fun J H1 => WC J g tt te vs σ H1 Q) : tLc wi g tt te vs σ H Q := q
theorem x_yes {QB : Bool → Hp → Prop} (q : QB true H) : tYes σ H QB := q
theorem x_iL {R : It → Hp → Prop} (q : tl σ H fun x H1 => ∃ a, x = .ref a ∧ (∃ xs, SqL K H1 a xs) ∧ R (Itl K a) H1) : iList K tl σ H R := q
theorem x_iT {R : It → Hp → Prop} (q : tl σ H fun x H1 => ∃ a, x = .ref a ∧ (∃ xs, SqT K H1 a xs) ∧ R (Itt K a) H1) : iTup K tl σ H R := q
theorem x_iR1 {R : It → Hp → Prop} (q : ta σ H fun vs H1 => ∃ j : Int, vs = [.int j] ∧ -(2 ^ 62) ≤ j ∧ j < 2 ^ 62 ∧ R (Itr 0 j.toNat) H1) : iRng1 ta σ H R := q
theorem x_iR2 {R : It → Hp → Prop} (q : ta σ H fun vs H1 => ∃ i j : Int, vs = [.int i, .int j] ∧ (-(2 ^ 62) ≤ i ∧ i < 2 ^ 62 ∧ -(2 ^ 62) ≤ j ∧ j < 2 ^ 62) ∧ R (Itr i (j - i).toNat) H1) : iRng2 ta σ H R := q
theorem x_iE {R : It → Hp → Prop} (q : ta σ H fun vs H1 => ∃ a xs, vs = [.ref a] ∧ SqL K H1 a xs ∧ R (Ite K a) H1) : iEnum K ta σ H R := q
theorem x_iET {R : It → Hp → Prop} (q : ta σ H fun vs H1 => ∃ a xs, vs = [.ref a] ∧ SqT K H1 a xs ∧ R (IteT K a) H1) : iEnumT K ta σ H R := q
/- the asking, at the end of the walked thing's value -/
variable {a : Addr} {xs : List V}
theorem y_forL (h : SqL K H a xs) (q : AskF xs.length (fun H => SqL K H a xs) (YA xs) g tb nx rt σ H) : ∃ b, V.ref a = .ref b ∧ (∃ xs, SqL K H b xs) ∧ WF (Itl K b) g tb nx rt σ H := ⟨a, rfl, ⟨xs, h⟩, askF walk_list q⟩
theorem y_forT (h : SqT K H a xs) (q : AskF xs.length (fun H => SqT K H a xs) (YA xs) g tb nx rt σ H) : ∃ b, V.ref a = .ref b ∧ (∃ xs, SqT K H b xs) ∧ WF (Itt K b) g tb nx rt σ H := ⟨a, rfl, ⟨xs, h⟩, askF walk_tup q⟩
theorem y_forR1 {j : Int} (h0 : 0 ≤ j) (h1 : j < 1000000) (q : AskF j.toNat (fun _ => True) (YFn fun i => .int (0 + i)) g tb nx rt σ H) : -(2 ^ 62) ≤ j ∧ j < 2 ^ 62 ∧ WF (Itr 0 j.toNat) g tb nx rt σ H :=
  ⟨by omega, by omega, askF walk_range q⟩
theorem y_forR2 {i j : Int} (h0 : -1000000 < i) (h1 : i < 1000000) (h2 : -1000000 < j) (h3 : j < 1000000) (q : AskF (j - i).toNat (fun _ => True) (YFn fun k => .int (i + k)) g tb nx rt σ H) : (-(2 ^ 62) ≤ i ∧ i < 2 ^ 62 ∧ -(2 ^ 62) ≤ j ∧ j < 2 ^ 62) ∧ WF (Itr i (j - i).toNat) g tb nx rt σ H :=
  ⟨⟨by omega, by omega, by omega, by omega⟩, askF walk_range q⟩
theorem y_forE (h : SqL K H a xs) (q : AskF xs.length (fun H => SqL K H a xs) (YE xs) g tb nx rt σ H) : ∃ b ys, [V.ref a] = [.ref b] ∧ SqL K H b ys ∧ WF (Ite K b) g tb nx rt σ H := ⟨a, xs, rfl, h, askF walk_enum q⟩
theorem y_forET (h : SqT K H a xs) (q : AskF xs.length (fun H => SqT K H a xs) (YE xs) g tb nx rt σ H) : ∃ b ys, [V.ref a] = [.ref b] ∧ SqT K H b ys ∧ WF (IteT K b) g tb nx rt σ H := ⟨a, xs, rfl, h, askF walk_enumT q⟩
theorem y_lcL (h : SqL K H a xs) (q : AskC xs.length (fun H => SqL K H a xs) (YA xs) g tt te vs σ H Q) : ∃ b, V.ref a = .ref b ∧ (∃ xs, SqL K H b xs) ∧ WC (Itl K b) g tt te vs σ H Q := ⟨a, rfl, ⟨xs, h⟩, askC walk_list q⟩
theorem y_lcT (h : SqT K H a xs) (q : AskC xs.length (fun H => SqT K H a xs) (YA xs) g tt te vs σ H Q) : ∃ b, V.ref a = .ref b ∧ (∃ xs, SqT K H b xs) ∧ WC (Itt K b) g tt te vs σ H Q := ⟨a, rfl, ⟨xs, h⟩, askC walk_tup q⟩
theorem y_lcR1 {j : Int} (h0 : 0 ≤ j) (h1 : j < 1000000) (q : AskC j.toNat (fun _ => True) (YFn fun i => .int (0 + i)) g tt te vs σ H Q) : -(2 ^ 62) ≤ j ∧ j < 2 ^ 62 ∧ WC (Itr 0 j.toNat) g tt te vs σ H Q :=
  ⟨by omega, by omega, askC walk_range q⟩
theorem y_lcE (h : SqL K H a xs) (q : AskC xs.length (fun H => SqL K H a xs) (YE xs) g tt te vs σ H Q) : ∃ b ys, [V.ref a] = [.ref b] ∧ SqL K H b ys ∧ WC (Ite K b) g tt te vs σ H Q := ⟨a, xs, rfl, h, askC walk_enum q⟩
theorem y_lcET (h : SqT K H a xs) (q : AskC xs.length (fun H => SqT K H a xs) (YE xs) g tt te vs σ H Q) : ∃ b ys, [V.ref a] = [.ref b] ∧ SqT K H b ys ∧ WC (IteT K b) g tt te vs σ H Q := ⟨a, xs, rfl, h, askC walk_enumT q⟩
end

/-! ### the same rules where the block's own K is told from outside -/
section
variable {X : Cx} {K : PySem.W.Frag}
theorem ix_listK (e : X.K = K := by rfl) : IxR X (rIxL K) := e ▸ ix_list
theorem ix_tupK (e : X.K = K := by rfl) : IxR X (rIxT K) := e ▸ ix_tup
theorem sl_listK (e : X.K = K := by rfl) : SlR X (rSlL K) := e ▸ sl_list
theorem call_lenK (e : X.K = K := by rfl) : CallR X (.builtin "len") (fun xs H Q => ∃ p ys, xs = [.ref p] ∧ (SqL K H p ys ∨ SqT K H p ys) ∧ Q (.int ys.length) H) := e ▸ call_len_seq
theorem call_tupFK (e : X.K = K := by rfl) : CallR X (.type "tuple") (fun xs H Q => ∃ p ys, xs = [.ref p] ∧ SqL K H p ys ∧ ∀ l o, H l = none → o.cls = .type "tuple" → o.dict = none → Q (.ref l) (upd H l (.frz o (.tup ys)))) := e ▸ call_tupF
theorem call_tuple_ofK (e : X.K = K := by rfl) : CallR X (.type "tuple") (fun xs H Q => ∃ p ys, xs = [.ref p] ∧ ((SqL K H p ys ∧ ∀ l, H l = none → Q (.ref l) (upd H l (.tup ys))) ∨ (SqT K H p ys ∧ Q (.ref p) H))) := e ▸ call_tuple_of
theorem call_list_ofK (e : X.K = K := by rfl) : CallR X (.type "list") (fun xs H Q => ∃ p ys, xs = [.ref p] ∧ (SqL K H p ys ∨ SqT K H p ys) ∧ ∀ l, H l = none → Q (.ref l) (upd H l (.lst ys))) := e ▸ call_list_of
theorem mt_countTK (e : X.K = K := by rfl) : MtR X "tuple.count" (rCountT K) := e ▸ mt_countT
theorem op_in_seqK (e : X.K = K := by rfl) : OpR X (compareOp .In) (rIn K false) := e ▸ op_in_seq
theorem op_notIn_seqK (e : X.K = K := by rfl) : OpR X (compareOp .NotIn) (rIn K true) := e ▸ op_notIn_seq
theorem pg_tupK {es : List Expr} {k : Nat} {pos : Pos} {t : TGs} {n : Nat} (e : X.K = K) (hc : X.calm = true) (h : PGs X es t)
    (hn : (assignEach es X.env).length = n := by rfl) (hst : (assignEach es X.env).findIdx? (·.1) = none := by rfl) : PG X (.Tuple es k pos) (gTup K n t) := e ▸ pg_tup hc h hn hst
end

/-! ### comprehensions whose turn gives one value f i, the heap but for what is new as it was -/
theorem cut63 (xs : List V) : cutV xs none (some 63) = xs.take 63 := by
  unfold cutV
  rw [HT.sIx_none, show HT.sIx xs.length xs.length (some 63) = min 63 xs.length from HT.sIx_nat xs.length xs.length 63]
  show List.take (min 63 xs.length - 0) (List.drop 0 xs) = _
  rw [Nat.sub_zero, List.drop_zero]
  rcases Nat.le_total 63 xs.length with h | h
  · rw [Nat.min_eq_left h]
  · rw [Nat.min_eq_right h, List.take_length, List.take_of_length_le h]


section
variable {X : Cx}
theorem get_list : PGet X (rGetL X.K) := by
  intro pins s σ H o i ov iv Q I ro ri h
  obtain ⟨p, xs, k, v, rfl, rfl, hq, he, q⟩ := h
  cases ro
  obtain ⟨t, rfl⟩ := ri
  obtain ⟨its, r, pl, hz⟩ := I.list hq
  obtain ⟨j, h1, h2, h3, h4, h5⟩ := atI_get he
  obtain ⟨w, ew, rw'⟩ := r.get h2
  have hl := r.length
  have hn := line63
  by_cases h0 : 0 ≤ k
  · have hj : k.toNat = j := by
      rw [seqIndex_of h0 h5] at h1
      exact Option.some.inj h1
    exact wpAny_getItem_list pl.isList h0 (by omega) (by rw [hj]; simpa using ew) ⟨v, H, I, rw', q⟩
  · have hj : (k + (its.toArray.size : Int)).toNat = j := by
      rw [seqIndex_neg (by omega) h4] at h1
      rw [List.size_toArray, ← hl]
      exact Option.some.inj h1
    exact wpAny_getItem_list_neg pl.isList (by omega) (by rw [List.size_toArray] <;> omega) (by omega) (by rw [hj]; simpa using ew) ⟨v, H, I, rw', q⟩
end
section
variable {K : PySem.W.Frag} {σ : SS} {H : Hp} {Q : VK} {v : V} {p : Addr} {xs : List V} {i : Int}
theorem x_getL (h : SqL K H p xs) (a : atI xs i = some v) (q : Q v H) : rGetL K (.ref p) (.int i) H Q := ⟨p, xs, i, v, rfl, rfl, h, a, q⟩
theorem x_rep {k : Int} {l : Addr} (h : H l = some (.lst xs)) (h0 : 0 ≤ k) (h1 : k < 1000000) (z : xs.length * k.toNat ≤ sizeLine) (q : ∀ p, H p = none → Q (.ref p) (upd H p (.lst (List.replicate k.toNat xs).flatten))) : rRep (.ref l) (.int k) H Q :=
  ⟨l, k, xs, rfl, rfl, h, by omega, by omega, z, q⟩
theorem x_sum {a : Addr} {ns : List Int} (h : SqL K H a (ns.map V.int)) (q : Q (.int ns.sum) H) : rSum K [.ref a] H Q := ⟨a, ns, rfl, h, q⟩
theorem x_countT {a : Addr} {ys : List V} {y : V} (h : SqT K H a ys) (f : flatV y = true) (fs : ys.all flatV = true) (q : Q (.int ((ys.countP fun z => eqV z y : Nat) : Int)) H) : rCountT K (.ref a) [y] H Q := ⟨a, ys, y, rfl, rfl, h, f, fs, q⟩
end

/-! ### data whose repr is told -/
structure Good (d : PyData) (dep w : Nat) : Prop where
  sh : d.showable = true
  nd : d.hasDict = false
  dp : d.depth ≤ dep
  sl : d.leavesShort 13 = true
  wt : d.weight ≤ w
theorem Good.mono {d : PyData} {a b w v : Nat} (g : Good d a w) (h : a ≤ b) (h2 : w ≤ v) : Good d b v := ⟨g.sh, g.nd, Nat.le_trans g.dp h, g.sl, Nat.le_trans g.wt h2⟩
theorem Good.none : Good .none 0 0 := ⟨rfl, rfl, Nat.le_refl _, rfl, Nat.le_refl _⟩
theorem Good.bool (b : Bool) : Good (.bool b) 0 0 := ⟨rfl, rfl, Nat.le_refl _, rfl, Nat.le_refl _⟩
theorem Good.int {z : Int} (h : z.natAbs < 10 ^ 9) : Good (.int z) 0 31 := by
  have hl : z.natAbs.log2 < 30 := PySem.Flt.log2_lt_of (by decide) (Nat.lt_of_lt_of_le h (by decide))
  refine ⟨?_, rfl, Nat.le_refl _, ?_, ?_⟩
  · simp only [PyData.showable, decide_eq_true_eq]
    omega
  · simp only [PyData.leavesShort, PyData.shown]
    have := int_text_length_le10 (k := 9) (by decide) h
    refine decide_eq_true ?_
    show (Str.ofString (toString z)).length ≤ 13
    rw [PySem.ofString_length]
    omega
  · simp only [PyData.weight]
    split <;> omega
theorem good_all {k w : Nat} : ∀ {ds : List PyData}, (∀ d ∈ ds, Good d k w) → PyData.showableAll ds = true ∧ PyData.hasDictAll ds = false ∧ PyData.depthAll ds ≤ k ∧ PyData.leavesShortAll 13 ds = true ∧ PyData.weightAll ds ≤ ds.length * (w + 1)
  | [], _ => ⟨rfl, rfl, Nat.zero_le _, rfl, Nat.zero_le _⟩
  | d :: ds, h => by
    obtain ⟨a1, a2, a3, a4, a5⟩ := good_all (ds := ds) fun x hx => h x (List.mem_cons_of_mem _ hx)
    have g := h d List.mem_cons_self
    refine ⟨?_, ?_, ?_, ?_, ?_⟩
    · simp only [PyData.showableAll, g.sh, a1, Bool.and_self]
    · simp only [PyData.hasDictAll, g.nd, a2, Bool.or_self]
    · simp only [PyData.depthAll]
      exact Nat.max_le.mpr ⟨g.dp, a3⟩
    · simp only [PyData.leavesShortAll, g.sl, a4, Bool.and_self]
    · simp only [PyData.weightAll, List.length_cons, Nat.add_mul]
      have := g.wt
      omega
theorem Good.list {ds : List PyData} {k w n : Nat} (h : ∀ d ∈ ds, Good d k w) (hn : ds.length ≤ n) : Good (.list ds) (k + 1) (n * (w + 1)) := by
  obtain ⟨a1, a2, a3, a4, a5⟩ := good_all h
  exact ⟨by simpa only [PyData.showable] using a1, by simpa only [PyData.hasDict] using a2, by simp only [PyData.depth]; omega, by simpa only [PyData.leavesShort] using a4, by simp only [PyData.weight]; exact Nat.le_trans a5 (Nat.mul_le_mul_right _ hn)⟩
theorem Good.tuple {ds : List PyData} {k w n : Nat} (h : ∀ d ∈ ds, Good d k w) (hn : ds.length ≤ n) : Good (.tuple ds) (k + 1) (n * (w + 1)) := by
  obtain ⟨a1, a2, a3, a4, a5⟩ := good_all h
  exact ⟨by simpa only [PyData.showable] using a1, by simpa only [PyData.hasDict] using a2, by simp only [PyData.depth]; omega, by simpa only [PyData.leavesShort] using a4, by simp only [PyData.weight]; exact Nat.le_trans a5 (Nat.mul_le_mul_right _ hn)⟩
theorem x_repr {K : PySem.W.Frag} {H : Hp} {Q : VK} {a : Addr} {d : PyData} {k w : Nat} (h : Dp K H (.ref a) d) (g : Good d k w) (hk : k ≤ 60) (hw : w ≤ 2 ^ 20) (q : Q (.str d.shown) H) : rRepr K [.ref a] H Q :=
  ⟨a, d, rfl, h, g.sh, g.nd, Nat.le_trans g.dp hk, PyData.shown_fits (by decide) (by decide) g.sl (Nat.le_trans g.wt hw), q⟩
/- what stands at an address as data is kept -/
theorem Kx.rd {S : List Addr} {H H' : Hp} {a : Addr} {u : HO} (k : Kx S H H') (n : a ∉ S) (h : Rd H a u) : Rd H' a u := by
  rcases h with h | ⟨o, h⟩
  · exact .inl (k _ _ n h)
  · exact .inr ⟨o, k _ _ n h⟩
mutual
theorem dp_keep {K : PySem.W.Frag} {H H' : Hp} (k : Kx [] H H') : ∀ (d : PyData) (v : V), Dp K H v d → Dp K H' v d
  | .none, _, h => by cases h; exact .non
  | .bool b, _, h => by cases h; exact .bl b
  | .int i, _, h => by cases h; exact .int i
  | .str x, _, h => by cases h; exact .str x
  | .list ds, _, h => by
    cases h with
    | lst h1 h2 => exact .lst (k.sqL (by simp) h1) (dp_keepAll k ds _ h2)
  | .tuple ds, _, h => by
    cases h with
    | tup h1 h2 => exact .tup (k.sqT (by simp) h1) (dp_keepAll k ds _ h2)
  | .dict _, _, h => by cases h
theorem dp_keepAll {K : PySem.W.Frag} {H H' : Hp} (k : Kx [] H H') : ∀ (ds : List PyData) (vs : List V), DpAll K H vs ds → DpAll K H' vs ds
  | [], _, h => by cases h; exact .nil
  | d :: ds, _, h => by
    cases h with
    | cons h1 h2 => exact .cons (dp_keep k d _ h1) (dp_keepAll k ds _ h2)
end

section
variable {X : Cx}
/-- sorted(d) of a dict whose keys are ints -/
def rSortedD : List V → Hp → VK → Prop := fun xs H Q => ∃ (a : Addr) (kvs : List (Key × V)) (ks : List Int), xs = [.ref a] ∧ H a = some (.dK kvs) ∧ kvs.map (·.1) = ks.map Sum.inl ∧
    ∀ (ns : List Int) (p : Addr), ns.Perm ks → ns.Pairwise (· ≤ ·) → H p = none → Q (.ref p) (upd H p (.lst (ns.map V.int)))
theorem cr_sortedDI (hcalm : X.calm = true) : CallR X (.builtin "sorted") rSortedD := by
  intro pins s σ H xs us Q I r q
  obtain ⟨a, kvs, ks, ex, hd, hks, q⟩ := q
  subst ex
  obtain ⟨u, eu, rx⟩ := vals1 r
  subst eu
  cases rx
  obtain ⟨z, lo, vs, rel, dd⟩ := dk_of I.hok hd
  obtain ⟨ep, hat⟩ := dd.dictAt
  have hkeys : vs.map (·.1) = ks.map Sum.inl := rel.keys.symm.trans hks
  have hl : vs.length = ks.length := by
    have e := congrArg List.length hkeys
    rw [List.length_map, List.length_map] at e
    exact e
  have h16 : vs.length ≤ sizeLine := by rw [← rel.length]; exact z
  refine Calls.call_function_entry PyProof.Rows.kind_sorted PyProof.Rows.plain_sorted PyProof.Rows.entry_sorted (PyProof.Rows.args_sorted1 _) ?_
  unfold Builtin.«sorted»
  refine wpAny_bind (m := checkCount "sorted" 1 1 _) (wpAny_pure ?_)
  refine wpAny_bind (PySem.W.kdu_collect (A := X.A.in1) (PySem.W.kdl_dict (knd := mixKind X.prog X.w) (kvs := vs) (ep := ep) lo) (I.ok.hd hcalm) hat h16 fun h' tk acc hk hacc => ?_)
  have hal : acc.toList.length = ks.length := by rw [Array.length_toList, hacc.1, hl]
  have hv : Vals (ks.map V.int) acc.toList := vals_of_at (by rw [List.length_map, hal]) fun j x w h1 h2 => by
    obtain ⟨k, y, e1, e2⟩ := hacc.2 j w (by rw [← Array.getElem?_toList]; exact h2)
    have e3 : (vs.map (·.1))[j]? = some k := by rw [List.getElem?_map, e1]; all_goals rfl
    rw [hkeys, List.getElem?_map] at e3
    rw [List.getElem?_map] at h1
    cases e4 : ks[j]? with
    | none => rw [e4] at e3; cases e3
    | some i =>
      rw [e4] at e3 h1
      have e5 : Sum.inl i = k := Option.some.inj e3
      subst e5
      have e6 : V.int i = x := Option.some.inj h1
      subst e6
      exact keyIs_rel (k := .inl i) e2
  have hi := hv.ints
  have I1 : Inv X pins σ H { s with heap := h', toks := tk } := I.kept hk
  have hz : acc.toList.length ≤ sizeLine := by rw [hal, ← hl]; exact h16
  refine wpAny_bind (wpAny_newList ?_ hz)
  have hoL : (h'.push (PyProof.Rows.seqObj "list" acc.toList.toArray 0)).get? h'.objs.size = some (PyProof.Rows.seqObj "list" acc.toList.toArray 0) := Heap.get?_push_size _ rfl
  show wpAny _ _ _ _ _ { s with heap := h'.push (PyProof.Rows.seqObj "list" acc.toList.toArray 0), toks := tk }
  refine wpAny_bind (wpAny_holding (wpAny_call_entry PyProof.Rows.slot_list_sort ⟨_, hoL, rfl⟩ PyProof.Rows.entry_list_sort
    (SrtO.list_sort_ord SrtO.swo_int hoL hz (fun h2 => SrtO.ints_sortable hi h2) fun out h1 h2 => ⟨_, rfl, ?_⟩) (PyProof.Rows.args_list_sort _)))
  obtain ⟨k1, k2, k3⟩ := SrtO.ints_out hi h1 h2
  obtain ⟨e', he'⟩ := PyProof.Rows.sortedHeap_at (vs := acc.toList) (out := out.toArray) hoL
  have hlen : ((out.map SrtO.iv).map V.int).length ≤ sizeLine := by
    rw [List.length_map, k2.length_eq, ← hal]
    exact hz
  refine wpAny_pure ⟨_, rfl, .ref h'.objs.size, upd H h'.objs.size (.lst ((out.map SrtO.iv).map V.int)), I1.laid (t' := tk) (fun b u e => ?_) (Nat.le_refl _)
    (show ObjOk X.prog X.w _ _ _ (.lst ((out.map SrtO.iv).map V.int)) from ⟨hlen, out, e', vals_of_ints k1, he'⟩), rfl, q _ _ k2 k3 (I1.hok.fresh (Nat.le_refl _))⟩
  have hb : b < h'.objs.size := Heap.lt_size e
  rw [PyProof.Rows.sortedHeap_old (Nat.ne_of_lt hb) (by rw [size_push']; exact Nat.lt_succ_of_lt hb)]
  exact Heap.get?_push_of_some _ e
end

section
variable {X : Cx}
theorem sw_trueD {kx vx : Expr} {gs : List Comprehension} {scope : Scope} {pos py : Pos} {y : Str} {l : Nat} {env : Env} (hk : env.scope.kind = .function) (hy : env.scope.names.lookup y = some .local) (hl : (py.line == pos.line) = true)
    (ha : (scope.names.any fun (n, k) => n == y && (k == .local || k == .cell)) = false) : swapsWith (.DictComp kx vx gs scope pos) (some (.Name y py)) l env = pure true := by
  have ky : env.kindOf y = some .local := hy
  have hb : env.blockKind = .function := by unfold Env.blockKind; rw [hk]; rfl
  unfold swapsWith
  simp only [hb, ky, ha, Expr.pos, hl]
  rfl
theorem ps_setDc {i : Nat} {y : Str} {py : Pos} {kx vx tg iter : Expr} {ifs : List Expr} {scope : Scope} {own : List (Str × Nat)} {pos spos : Pos} {wi : TI} {g : TG} {tt : TT} {tk tv : TE} (hc : X.calm = true) (hN : X.N.Nodup) (hy : X.N[i]? = some y) (hyl : X.env.scope.names.lookup y = some .local)
    (hsw : swapsWith (.DictComp kx vx [⟨tg, iter, ifs, 0⟩] scope pos) (some (.Name y py)) spos.line X.env = pure true) (hi : PI X tg iter wi) (ok : BlkOk X.N X.env.scope scope own)
    (hg : ∀ (s : Shared) (H : Hp) (C : Addr) (cl : List (Str × Addr)) (fp : List Addr), PG (X.blk s H scope (compEnvC scope cl C X.env) fp) tg g) (ht : ∀ (s : Shared) (H : Hp) (C : Addr) (cl : List (Str × Addr)) (fp : List Addr), PTs (X.blk s H scope (compEnvC scope cl C X.env) fp) ifs tt)
    (hk : ∀ (s : Shared) (H : Hp) (C : Addr) (cl : List (Str × Addr)) (fp : List Addr), PE (X.blk s H scope (compEnvC scope cl C X.env) fp) kx tk)
    (he : ∀ (s : Shared) (H : Hp) (C : Addr) (cl : List (Str × Addr)) (fp : List Addr), PE (X.blk s H scope (compEnvC scope cl C X.env) fp) vx tv) (hs : ∀ x, foldedSetIterable iter X.env x = pure x := by intro _; rfl) :
    PS X (.Assign [.Name y py] (.DictComp kx vx [⟨tg, iter, ifs, 0⟩] scope pos) spos) (tAsg (tDc wi g tt tk tv (own.map (·.2))) (gName i)) := by
  refine ⟨fun pins s σ H D I h => ?_⟩
  rw [exec_Assign_Name_used _ _ _ _ hsw]
  refine wpAny_bind (wpAny_standAt (wpAny_bind ?_))
  show wpAny _ X.A (do let _ ← comprehension (.DictComp kx vx [⟨tg, iter, ifs, 0⟩] scope pos) scope X.env (firstIterPos [⟨tg, iter, ifs, 0⟩] pos) newDict false (eval iter X.env) (some (assign (.Name y py) X.env))) _ _ s
  have h : tDc wi g tt tk tv (own.map (·.2)) σ H (fun x H1 => gName i x σ H1 D.nx) := h
  refine wpAny_bind (thn (dc_core (Qf := fun _ s' => SP X pins D .next s') hc hN I hi ok hg ht hk he hs h fun L C s' m H' I' q hn f => ?_) fun _ s' hq => wpAny_pure (wpAny_pure hq))
  show wpAny _ _ (assign (.Name y py) X.env (.ref L)) _ _ _
  refine wpAny_assign_Name (store_ok2 (v := V.ref L) I' hN hy (.inl hyl) rfl (fun s2 I2 ⟨a, sb, ha⟩ => ?_) (.inr hyl))
  obtain ⟨f0, f1, f2, f3, f4, f5⟩ := f
  have haC : C ≠ a := by
    rcases ha with z | z
    · rw [z]; exact f1
    · exact fun e => f4 y a z e.symm
  refine ⟨m, hn.sameBut sb haC, fun h3 sb3 => ?_⟩
  exact ⟨_, H', I2.turned (t' := s2.toks) (fun b o hb e => (sb3.2 b hb).trans e) f0 f1 f3 f4 f5, q⟩
end
section
variable {K : PySem.W.Frag} {σ : SS} {H : Hp} {Q : VK} {QB : Bool → Hp → Prop} {nx bk ct : SS → Hp → Prop} {rt : VK} {g : TG} {tb : TS} {tl te tk tv td ty ta : TE} {tA : TA} {tt : TT} {vs : List Nat} {v : V} {a : Addr} {xs ys : List V}
def AskD (n : Nat) (G : Hp → Prop) (Y : Nat → Hp → V → Hp → Prop) (g : TG) (tt : TT) (tk tv : TE) (vs : List Nat) (σ : SS) (H : Hp) (Q : VK) : Prop :=
  ∀ D, H D = none → ∃ Pv : Nat → Hp → Prop, Pv 0 (upd H D (.dK [])) ∧ (∀ i H, i ≤ n → Pv i H → G H) ∧
    (∀ i x H H', i < n → Pv i H → Y i H x H' → g x (wipe σ vs) H' fun σ2 H2 => wipe σ2 vs = wipe σ vs ∧ tt σ2 H2 fun b H3 =>
      if b = true then tk σ2 H3 fun y H4 => tv σ2 H4 fun z H5 => ∃ kvs k, y = kV k ∧ H5 D = some (.dK kvs) ∧ kvs.length < sizeLine ∧ Pv (i + 1) (upd H5 D (.dK (putK kvs k z))) else Pv (i + 1) H3) ∧ ∀ H, Pv n H → Q (.ref D) H
def WD (J : It) (g : TG) (tt : TT) (tk tv : TE) (vs : List Nat) (σ : SS) (H : Hp) (Q : VK) : Prop := ∀ D, H D = none → ∃ W : Nat → Nat → Hp → Prop, (∃ m, W 0 m (upd H D (.dK []))) ∧ ∀ i m H, W i m H →
  (J.stop i H ∧ Q (.ref D) H) ∨ (J.go i H ∧ ∃ Nx : Hp → Prop, (∀ H', Nx H' → ∃ m', m' < m ∧ W (i + 1) m' H') ∧ ∀ x H', J.yld i H x H' → g x (wipe σ vs) H' fun σ2 H2 => wipe σ2 vs = wipe σ vs ∧ tt σ2 H2 fun b H3 =>
    if b = true then tk σ2 H3 fun y H4 => tv σ2 H4 fun z H5 => ∃ kvs k, y = kV k ∧ H5 D = some (.dK kvs) ∧ kvs.length < sizeLine ∧ Nx (upd H5 D (.dK (putK kvs k z))) else Nx H3)
theorem askD {J : It} {n : Nat} {G : Hp → Prop} {Y : Nat → Hp → V → Hp → Prop} (w : Walk J n G Y) (q : AskD n G Y g tt tk tv vs σ H Q) : WD J g tt tk tv vs σ H Q := by
  intro D hD
  obtain ⟨Pv, h0, hG, hs, hd⟩ := q D hD
  refine ⟨fun i m H => m = n - i ∧ i ≤ n ∧ Pv i H, ⟨n, by simp, Nat.zero_le _, h0⟩, ?_⟩
  rintro i m H ⟨rfl, hi, p⟩
  have qG := hG i H hi p
  by_cases hlt : i < n
  · exact .inr ⟨w.goes i H hlt qG, Pv (i + 1), fun H' p' => ⟨n - (i + 1), by omega, rfl, hlt, p'⟩, fun x H' y => hs i x H H' hlt p (w.yields i H x H' hlt qG y)⟩
  · have e : i = n := by omega
    subst e
    exact .inl ⟨w.stops H qG, hd H p⟩
theorem x_dc {wi : TI} (q : wi σ H fun J H1 => WD J g tt tk tv vs σ H1 Q) : tDc wi g tt tk tv vs σ H Q := q
theorem y_dcL (h : SqL K H a xs) (q : AskD xs.length (fun H => SqL K H a xs) (YA xs) g tt tk tv vs σ H Q) : ∃ b, V.ref a = .ref b ∧ (∃ xs, SqL K H b xs) ∧ WD (Itl K b) g tt tk tv vs σ H Q := ⟨a, rfl, ⟨xs, h⟩, askD walk_list q⟩
/-- a while, by a word of the names and the heap, and a measure -/
theorem x_while {c : TT} (q : ∃ W : Nat → SS → Hp → Prop, (∃ m, W m σ H) ∧ ∀ m σ H, W m σ H → c σ H fun b H1 => if b = true then ∃ N : SS → Hp → Prop, (∀ σ' H', N σ' H' → ∃ m', m' < m ∧ W m' σ' H') ∧ tb ⟨N, rt, nx, N⟩ σ H1 else nx σ H1) : tWhile c tb ⟨nx, rt, bk, ct⟩ σ H := q
theorem x_turn {m : Nat} {W : Nat → SS → Hp → Prop} (q : tb ⟨fun σ' H' => ∃ m', m' < m ∧ W m' σ' H', rt, nx, fun σ' H' => ∃ m', m' < m ∧ W m' σ' H'⟩ σ H) : ∃ N : SS → Hp → Prop, (∀ σ' H', N σ' H' → ∃ m', m' < m ∧ W m' σ' H') ∧ tb ⟨N, rt, nx, N⟩ σ H := ⟨_, fun _ _ h => h, q⟩
theorem x_truthL {R : Bool → Prop} (h : SqL K H a xs) (q : R (!xs.isEmpty)) : ∃ k, TruV K (.ref a) H k ∧ R k := ⟨_, .inl ⟨xs, h, rfl⟩, q⟩
theorem x_pop {Q : VK} {y : V} (h : H a = some (.lst xs)) (e : xs[xs.length - 1]? = some y) (q : Q y (upd H a (.lst xs.dropLast))) : rPop (.ref a) [] H Q := ⟨a, xs, y, rfl, rfl, h, e, q⟩
theorem x_din (q : ty σ H fun y H1 => td σ H1 fun x H2 => ∃ a o, x = .ref a ∧ DGet H2 a y o ∧ Q (.bl o.isSome) H2) : tDIn ty td σ H Q := q
theorem x_dnotin (q : ty σ H fun y H1 => td σ H1 fun x H2 => ∃ a o, x = .ref a ∧ DGet H2 a y o ∧ Q (.bl (!o.isSome)) H2) : tDNotIn ty td σ H Q := q
theorem x_dput (q : tv σ H fun v H1 => td σ H1 fun x H2 => ty σ H2 fun y H3 => ∃ a H4, x = .ref a ∧ DPut H3 a y v H4 ∧ nx σ H4) : sDPut td ty tv ⟨nx, rt, bk, ct⟩ σ H := q
theorem x_dget (q : td σ H fun x H1 => ty σ H1 fun y H2 => ∃ a v, x = .ref a ∧ DGet H2 a y (some v) ∧ Q v H2) : tDGet td ty σ H Q := q
theorem x_dgI {kvs : List (Key × V)} {i : Int} {R : Option V → Prop} (h : H a = some (.dK kvs)) (q : R (valV kvs (.inl i))) : ∃ b o, V.ref a = .ref b ∧ DGet H b (.int i) o ∧ R o := ⟨a, _, rfl, DGet.k (k := .inl i) h, q⟩
theorem x_dpI {kvs : List (Key × V)} {i : Int} {R : Hp → Prop} (h : H a = some (.dK kvs)) (l : kvs.length < sizeLine) (q : R (upd H a (.dK (putK kvs (.inl i) v)))) : ∃ b H', V.ref a = .ref b ∧ DPut H b (.int i) v H' ∧ R H' := ⟨a, _, rfl, DPut.k (k := .inl i) h l, q⟩
theorem x_listD {kvs : List (Key × V)} {Q : VK} (h : H a = some (.dK kvs)) (q : ∀ p, H p = none → Q (.ref p) (upd H p (.lst (kvs.map fun kv => kV kv.1)))) : rListD [.ref a] H Q := ⟨a, kvs, rfl, h, q⟩
theorem x_sortedD {kvs : List (Key × V)} {ks : List Int} {Q : VK} (h : H a = some (.dK kvs)) (e : kvs.map (·.1) = ks.map Sum.inl)
    (q : ∀ (ns : List Int) (p : Addr), ns.Perm ks → ns.Pairwise (· ≤ ·) → H p = none → Q (.ref p) (upd H p (.lst (ns.map V.int)))) : rSortedD [.ref a] H Q := ⟨a, kvs, ks, rfl, h, e, q⟩
theorem x_sortedL {ks : List Int} {Q : VK} (h : SqL K H a (ks.map V.int))
    (q : ∀ (ns : List Int) (p : Addr), ns.Perm ks → ns.Pairwise (· ≤ ·) → H p = none → Q (.ref p) (upd H p (.lst (ns.map V.int)))) : rSortedI K [.ref a] H Q := ⟨a, ks, rfl, h, q⟩
theorem x_inL {x : V} (h : SqL K H a xs) (f : flatV x = true) (fs : xs.all flatV = true) (q : Q (.bl (inV x xs)) H) : rIn K false x (.ref a) H Q := ⟨a, xs, rfl, .inl h, f, fs, q⟩
theorem x_notInL {x : V} (h : SqL K H a xs) (f : flatV x = true) (fs : xs.all flatV = true) (q : Q (.bl (!inV x xs)) H) : rIn K true x (.ref a) H Q := ⟨a, xs, rfl, .inl h, f, fs, q⟩
theorem x_inT {x : V} (h : SqT K H a xs) (f : flatV x = true) (fs : xs.all flatV = true) (q : Q (.bl (inV x xs)) H) : rIn K false x (.ref a) H Q := ⟨a, xs, rfl, .inr h, f, fs, q⟩
theorem x_listL {Q : VK} (h : SqL K H a xs) (q : ∀ l, H l = none → Q (.ref l) (upd H l (.lst xs))) : ∃ p ys, [V.ref a] = [.ref p] ∧ (SqL K H p ys ∨ SqT K H p ys) ∧ ∀ l, H l = none → Q (.ref l) (upd H l (.lst ys)) := ⟨a, xs, rfl, .inl h, q⟩
theorem x_listT {Q : VK} (h : SqT K H a xs) (q : ∀ l, H l = none → Q (.ref l) (upd H l (.lst xs))) : ∃ p ys, [V.ref a] = [.ref p] ∧ (SqL K H p ys ∨ SqT K H p ys) ∧ ∀ l, H l = none → Q (.ref l) (upd H l (.lst ys)) := ⟨a, xs, rfl, .inr h, q⟩
/-- t + u: some tuple of both -/
theorem x_cat {b : Addr} {Q : VK} (h : SqT K H a xs) (h2 : SqT K H b ys) (z : xs.length + ys.length ≤ sizeLine) (q : ∀ (p : Addr) (H' : Hp), SqT K H' p (xs ++ ys) → Kx [] H H' → Q (.ref p) H') : rCatA K (.ref a) (.ref b) H Q := by
  refine ⟨a, b, xs, ys, rfl, rfl, h, h2, z, fun e => ?_, fun _ e => ?_, fun _ _ p hp => ?_⟩
  · subst e
    exact q b H h2 (Kx.refl _ _)
  · subst e
    exact q a H (by rwa [List.append_nil]) (Kx.refl _ _)
  · exact q p _ (SqT.of upd_same) ((Kx.refl _ _).new hp)
theorem in_int {n : Int} : ∀ ns : List Int, inV (.int n) (ns.map V.int) = decide (n ∈ ns)
  | [] => rfl
  | m :: r => by
    have ih := in_int (n := n) r
    unfold inV at ih ⊢
    rw [List.map_cons, List.any_cons, ih]
    by_cases e : m = n
    · subst e
      simp [eqV]
    · have e2 : ¬ n = m := fun z => e z.symm
      simp [eqV, e, e2]
theorem flat_ints : ∀ ns : List Int, (ns.map V.int).all flatV = true
  | [] => rfl
  | _ :: r => flat_ints r
theorem pt_truth' {X : Cx} {a : Expr} {t : TE} (ha : PE X a t) (he : ∀ whole, isTrue a X.env whole = (do let v ← whole; standAt a.pos; holding [v] (truthy v)) := by intro _; rfl) :
    PT X a (fun σ H QB => t σ H fun x H' => ∃ k, TruV X.K x H' k ∧ QB k H') := pt_truth ha he
end
structure Lkw (P : Program) (w : World) (K : PySem.W.Frag) (mg : Str → Option Value) (base : Heap) (x : Str) (k : Nat) (ps ks : List Str) (gV : List V → List V) (sp : Sp) : Prop where
  ex : ∃ (f : Addr) (fd : FuncData) (g : List Value → List Value), FnOk P w K mg base CX0 k f fd ps sp ∧ mg x = some (.ref f) ∧ PySem.W.keepIn K (.ref f) = true ∧ KB K fd ps ks g gV
theorem pe_lkw {X : Cx} {k : Nat} {ps ks : List Str} {sp : Sp} {x : Str} {p pos : Pos} {tk : TA} {kws : List Keyword} {gV : List V → List V} (L : Lkw X.prog X.w X.K X.mg X.base x k ps ks gV sp) (hr : Room k X.A) (hg : Gl X x) (hkw : PK X kws tk)
    (hall : (backToKw pos (keywordEach kws X.env)).all (·.1.isSome) = true := by rfl) (hks : (backToKw pos (keywordEach kws X.env)).filterMap (·.1) = ks := by rfl)
    (hdb : (x == ("__debug__" : Str)) = false := by decide)
    (hpl : ((backTo pos (starEach [] X.env)).any (·.1) || (backToKw pos (keywordEach kws X.env)).any (·.1.isNone)) = false := by rfl) :
    PE X (.Call (.Name x p) [] kws pos) (tCallKw sp gV tk) := by
  obtain ⟨f, fd, g, F, hm, hk, hb⟩ := L.ex
  exact pe_kw0 F hr hg hm hk hb hkw hall hks hdb hpl
theorem x_kw {σ : SS} {H : Hp} {Q : VK} {sp : Sp} {gV : List V → List V} {tk : TA} (q : tk σ H fun zs H1 => sp (gV zs) H1 Q E0) : tCallKw sp gV tk σ H Q := q
theorem op_catAK {X : Cx} {K : PySem.W.Frag} (e : X.K = K := by rfl) : OpR X (binaryOp .Add) (rCatA K) := e ▸ op_catA
theorem op_isN1K : True := trivial

/-! ### max(ints, default=d) -/
section
variable {prog : Program} {w : World} {A : Around} {E : Value → Shared → Prop} {R : Result → Shared → Prop} {I : Addr} {fp wr : List Addr} {G : Array GenState → Array GenState → Prop} {n : Nat} {P : Nat → Value → Prop} {St : Nat → Shared → Prop}
theorem maxkw_turns (kw : List (Str × Value)) (W : WalksS prog w A.in1 I fp wr G n P St) (bt : Nat → Nat → Bool) (hcmp : CmpOf prog w A.in1 .Gt P bt) (S : Addr) (hSf : S ∉ fp) :
    ∀ (k j : Nat) (s : Shared) (vb : Value) (c : Nat), n - (j + 1) = k → j + 1 ≤ n → St (j + 1) s → P (argBest bt j) vb → s.heap.get? S = some { cls := .type "list", dict := none, data := .seq #[vb, vb] c, slots := #[] } →
      (∀ v s', P (argBest bt (n - 1)) v → Moved (S :: wr) G s s' → R (.ok (.ret v)) s') → codeAny (model prog w) A (.builtin "max.loop" ⟨[.ref I, .none, .ref S], kw⟩) R s := by
  have nm : (toString "max" ++ toString ".loop" : String) = "max.loop" := by decide
  have w1 : S ∉ wr := fun h => hSf (W.sub _ h)
  have w2 : ∀ b ∈ wr, b ∈ S :: wr := fun b hb => List.mem_cons_of_mem _ hb
  have w3 : ∀ {b : Addr}, b ∉ S :: wr → S ≠ b := fun hb h => hb (h ▸ List.mem_cons_self)
  intro k
  induction k with
  | zero =>
    intro j s vb c hk hj hst hPb hS hR
    obtain rfl : j + 1 = n := by omega
    refine codeAny_builtin PySem.F.entry_max_loop ?_
    rw [Around.under_plainId PySem.F.plain_max_loop _]; show wpAny _ A.in1 (seqItems? (.ref S) >>= _) _ _ s
    refine wpAny_bind (wpAny_seqItems hS rfl ?_); show wpAny _ A.in1 (tryCatch (pyNext (.ref I)) _ >>= _) _ _ s
    refine wpAny_bind (wpAny_tryCatch (W.done s _ _ hst fun s' hm => ?_))
    have hS' := hm.heap S _ w1 hS
    show wpAny _ A.in1 (updateSeq S (fun _ => (#[] : Array Value)) >>= _) _ _ _
    refine wpAny_bind (wpAny_updateSeq hS' rfl (wpAny_bind (wpAny_letGo (wpAny_pure (hR vb _ hPb ?_)))))
    exact (hm.mono w2).then_heap (tk := s'.toks) (Nat.le_refl _) fun b o hb e => (Heap.get?_update_other _ _ (w3 hb)).trans e
  | succ k ih =>
    intro j s vb c hk hj hst hPb hS hR
    have hlt : j + 1 < n := by omega
    refine codeAny_builtin PySem.F.entry_max_loop ?_
    rw [Around.under_plainId PySem.F.plain_max_loop _]; show wpAny _ A.in1 (seqItems? (.ref S) >>= _) _ _ s
    refine wpAny_bind (wpAny_seqItems hS rfl ?_); show wpAny _ A.in1 (tryCatch (pyNext (.ref I)) _ >>= _) _ _ s
    refine wpAny_bind (wpAny_tryCatch (W.item (j + 1) s _ _ hlt hst fun v s' hP hst' hm => ?_))
    have hS' := hm.heap S _ w1 hS
    show wpAny _ A.in1 (tryCatch (holding [v, v] (richCompare .Gt v vb >>= _)) _ >>= _) _ _ _
    refine wpAny_bind (wpAny_tryCatch (wpAny_holding (wpAny_bind (hcmp (j + 1) (argBest bt j) v vb _ _ _ hP hPb ?_)))); refine wpAny_bind (wpAny_holding (wpAny_truthy_bool ?_))
    refine wpAny_bind (wpAny_letGo (wpAny_pure ?_))
    cases hb : bt (j + 1) (argBest bt j) with
    | true =>
      simp only [if_true]
      refine wpAny_bind (wpAny_updateSeq hS' rfl (wpAny_bind (wpAny_letGo ?_))); rw [nm]
      have far : ∀ {b : Addr}, b ∉ fp → True := fun _ => trivial
      refine wpAny_pure ⟨plainId_quiet PySem.F.plain_max_loop _, ih (j + 1) _ v _ (by omega) hlt (W.frame _ s' _ s'.toks hst' (Nat.le_refl _) fun b hbf o e => (Heap.get?_update_other _ _ (fun h : S = b => hSf (h ▸ hbf))).trans e) (by simp only [argBest, hb, if_true]; exact hP) (Heap.get?_update_self _ hS' rfl) fun v' s'' hP' hm'' => hR v' s'' hP' (Moved.trans W.gtrans ((hm.mono w2).then_heap (Nat.le_refl _) fun b o hb e => (Heap.get?_update_other _ _ (w3 hb)).trans e) hm'')⟩
    | false =>
      simp only [Bool.false_eq_true, if_false]
      refine wpAny_bind (wpAny_letGo ?_); rw [nm]
      exact wpAny_pure ⟨plainId_quiet PySem.F.plain_max_loop _, ih (j + 1) _ vb c (by omega) hlt hst' (by simp only [argBest, hb, Bool.false_eq_true, if_false]; exact hPb) hS' fun v' s'' hP' hm'' => hR v' s'' hP' (Moved.trans W.gtrans (hm.mono w2) hm'')⟩
/-- the first turn, none or one -/
theorem maxkw_first {d : Value} (W : WalksS prog w A.in1 I fp wr G n P St) (bt : Nat → Nat → Bool) (hcmp : CmpOf prog w A.in1 .Gt P bt) (S : Addr) (hSf : S ∉ fp) {s : Shared} {c : Nat} (hst : St 0 s) (hS : s.heap.get? S = some { cls := .type "list", dict := none, data := .seq #[] c, slots := #[] })
    (h0 : n = 0 → ∀ s', Moved (S :: wr) G s s' → R (.ok (.ret d)) s') (h1 : 0 < n → ∀ v s', P (argBest bt (n - 1)) v → Moved (S :: wr) G s s' → R (.ok (.ret v)) s') :
    codeAny (model prog w) A (.builtin "max.loop" ⟨[.ref I, .none, .ref S], [("default", d)]⟩) R s := by
  have nm : (toString "max" ++ toString ".loop" : String) = "max.loop" := by decide
  have w1 : S ∉ wr := fun h => hSf (W.sub _ h)
  have w2 : ∀ b ∈ wr, b ∈ S :: wr := fun b hb => List.mem_cons_of_mem _ hb
  have w3 : ∀ {b : Addr}, b ∉ S :: wr → S ≠ b := fun hb h => hb (h ▸ List.mem_cons_self)
  refine codeAny_builtin PySem.F.entry_max_loop ?_
  rw [Around.under_plainId PySem.F.plain_max_loop _]; show wpAny _ A.in1 (seqItems? (.ref S) >>= _) _ _ s
  refine wpAny_bind (wpAny_seqItems hS rfl ?_); show wpAny _ A.in1 (tryCatch (pyNext (.ref I)) _ >>= _) _ _ s
  by_cases hn : 0 < n
  · refine wpAny_bind (wpAny_tryCatch (W.item 0 s _ _ hn hst fun v s' hP hst' hm => ?_))
    have hS' := hm.heap S _ w1 hS
    show wpAny _ A.in1 (updateSeq S (fun _ => #[v, v]) >>= _) _ _ _
    refine wpAny_bind (wpAny_updateSeq hS' rfl ?_); rw [nm]
    refine wpAny_pure ⟨plainId_quiet PySem.F.plain_max_loop _, maxkw_turns _ W bt hcmp S hSf _ 0 _ v _ rfl hn (W.frame _ s' _ s'.toks hst' (Nat.le_refl _) fun b hbf o e => (Heap.get?_update_other _ _ (fun h : S = b => hSf (h ▸ hbf))).trans e) hP (Heap.get?_update_self _ hS' rfl) fun v' s'' hP' hm'' => h1 hn v' s'' hP' ?_⟩
    exact Moved.trans W.gtrans ((hm.mono w2).then_heap (Nat.le_refl _) fun b o hb e => (Heap.get?_update_other _ _ (w3 hb)).trans e) hm''
  · obtain rfl : n = 0 := by omega
    refine wpAny_bind (wpAny_tryCatch (W.done s _ _ hst fun s' hm => ?_))
    refine wpAny_bind (wpAny_rule ?_)
    exact wpAny_pure (h0 rfl s' (hm.mono w2))
theorem maxd_args (a v : Value) : argsOk "max" ⟨[a], [(Str.ofString "default", v)]⟩ := by unfold argsOk; kernel_rfl
theorem max_dflt {l : Addr} {its : List Value} {ns : List Int} {d : Value} {s : Shared} {Q : Value → Shared → Prop} (hh : A.handled = none) (hl : s.heap.IsList l its.toArray) (hi : IntsAre its ns)
    (h0 : ns = [] → ∀ h' tk, (∀ b o, s.heap.get? b = some o → h'.get? b = some o) → Q d { s with heap := h', toks := tk })
    (h1 : ∀ h' tk m t', (∀ b o, s.heap.get? b = some o → h'.get? b = some o) → m ∈ ns → (∀ a, a ∈ ns → a ≤ m) → Q (.int m t') { s with heap := h', toks := tk }) :
    wpAny (model prog w) A (call (.builtin "max") [.ref l] [(Str.ofString "default", d)]) Q E s := by
  obtain ⟨xs, e⟩ := hi.allInts.items
  have hn : numsOf (intItems xs).toList = ns := e ▸ hi.numsOf
  rw [nums_intItems] at hn
  subst hn
  rw [e] at hl
  have nm : (toString "max" ++ toString ".loop" : String) = "max.loop" := by decide
  refine kmb_tree PySem.F.kind_max PySem.F.plain_max PySem.F.entry_max (maxd_args _ _) ?_
  show wpAny _ A.in1 (Builtin.Builtins.bindParams "max" ["key", "default"] 0 ⟨[], [(Str.ofString "default", d)]⟩ >>= _) _ _ s
  refine wpAny_bind (wpAny_of_eq (show Builtin.Builtins.bindParams "max" ["key", "default"] 0 ⟨[], [(Str.ofString "default", d)]⟩ = pure [none, some d] from rfl) ?_)
  refine wpAny_bind (wpAny_pure (wpAny_bind ?_))
  refine PySem.iter_intList hl fun s2 e2 st hfp hlI => ?_
  subst e2
  refine wpAny_bind (wpAny_newObj_type ?_); rw [nm]
  have W := Walks.list (prog := prog) (w := w) (A := A.in1) hh s.heap.objs.size l hlI (intItems xs)
  have hsz : (s.heap.push { cls := .type "list_iterator", data := .fields #[.ref l, .int 0 0] }).objs.size = s.heap.objs.size + 1 := Heap.size_push ..
  have hSf : (s.heap.push { cls := .type "list_iterator", data := .fields #[.ref l, .int 0 0] }).objs.size ∉ [s.heap.objs.size, l] := fun hm => Nat.lt_irrefl _ (hfp _ hm)
  have hlen : (intItems xs).size = xs.size := by simp [intItems]
  have off : ∀ {b : Addr} {o : Obj}, s.heap.get? b = some o → b ∉ [(s.heap.push { cls := .type "list_iterator", data := .fields #[.ref l, .int 0 0] }).objs.size, s.heap.objs.size] := fun {b o} q hm => by
    have hlt : b < s.heap.objs.size := Heap.lt_size q
    rw [hsz] at hm
    rcases List.mem_cons.mp hm with z | z
    · exact absurd hlt (by rw [z]; exact Nat.not_lt.mpr (Nat.le_succ _))
    · exact absurd hlt (by rw [List.mem_singleton.mp z]; exact Nat.lt_irrefl _)
  refine wpAny_pure ⟨plainId_quiet PySem.F.plain_max_loop _, maxkw_first W.toS _ (CmpOf.ints_gt (numAt xs) (fun _ _ => intItems_at)) _ hSf (W.toS.frame 0 _ _ s.toks st (Nat.le_refl _) fun b _ o q => Heap.get?_push_of_some _ q) (Heap.get?_push_size _ rfl) (fun hz s' hm => ?_) (fun hz v s' hP hm => ?_)⟩
  · rw [Moved.eq_with hm]
    exact h0 (by rw [hlen] at hz; rw [Array.eq_empty_of_size_eq_zero hz]; rfl) s'.heap s'.toks fun b o q => hm.heap b o (off q) (Heap.get?_push_of_some _ (Heap.get?_push_of_some _ q))
  · rw [Moved.eq_with hm]
    have hne : 0 < xs.size := by rwa [hlen] at hz
    have hP : (intItems xs)[argBest (fun i j => decide (numAt xs i > numAt xs j)) (xs.size - 1)]? = some v := by simpa [intItems] using hP
    obtain ⟨t, rfl⟩ := intItems_at hP
    obtain ⟨g1, g2⟩ := argBest_gt (numAt xs) (xs.size - 1)
    refine h1 s'.heap s'.toks _ t (fun b o q => hm.heap b o (off q) (Heap.get?_push_of_some _ (Heap.get?_push_of_some _ q))) ?_ fun a ha => ?_
    · rw [numAt_eq]
      exact PySem.getD_mem (by rw [List.length_map, Array.length_toList]; omega)
    · obtain ⟨j, hj, rfl⟩ := mem_getD ha
      rw [List.length_map, Array.length_toList] at hj
      exact numAt_eq xs j ▸ g2 j (by omega)
end
section
variable {X : Cx}
def rMaxD (K : PySem.W.Frag) : List V → List V → Hp → VK → Prop := fun xs zs H Q => ∃ (a : Addr) (ns : List Int) (d : Int), xs = [.ref a] ∧ zs = [.int d] ∧ SqL K H a (ns.map V.int) ∧ (ns = [] → Q (.int d) H) ∧ ∀ m, m ∈ ns → (∀ b, b ∈ ns → b ≤ m) → Q (.int m) H
theorem cr_maxD (hc : X.calm = true) : CallRK X (.builtin "max") [Str.ofString "default"] (rMaxD X.K) := by
  intro pins s σ H xs zs us ws Q I r rz h
  obtain ⟨a, ns, d, rfl, rfl, hs, q0, q1⟩ := h
  obtain ⟨its, rv, hl, _⟩ := I.list hs
  obtain ⟨u, rfl, ru⟩ := vals1 rz
  rw [Vals.ref1 r]
  exact max_dflt (I.ok.hd hc) hl.isList rv.ints (fun e h' tk hk => ⟨.int d, H, I.kept hk, ru, q0 e⟩) fun h' tk m t' hk h1 h2 => ⟨.int m, H, I.kept hk, ⟨_, rfl⟩, q1 m h1 h2⟩
end

/-! ### own classes -/
/-- a method, by its promise (self first) -/
structure Lm (P : Program) (w : World) (K : PySem.W.Frag) (mg : Str → Option Value) (base : Heap) (C : Addr) (m : Str) (k : Nat) (ps : List Str) (sp : Sp) : Prop where
  ex : ∃ (f : Addr) (fd : FuncData), FnOk P w K mg base CX0 k f fd ps sp ∧ Meth K C m f ∧ Binds K fd ps []
/-- a class that is made, by its __init__'s promise -/
structure Ln (P : Program) (w : World) (K : PySem.W.Frag) (mg : Str → Option Value) (base : Heap) (C : Addr) (x : Str) (k : Nat) (ps : List Str) (sp : Sp) : Prop where
  ex : ∃ (f : Addr) (fd : FuncData), FnOk P w K mg base CX0 k f fd ps sp ∧ Mk K C f ∧ mg x = some (.ref C) ∧ Binds K fd ps []
section
variable {X : Cx} {k : Nat} {C : Addr} {m x : Str} {ps : List Str} {sp : Sp} {o e : Expr} {es : List Expr} {apos p pos : Pos} {ta : TE} {t : TA}
theorem pe_lm {pl : Sem Bool} (L : Lm X.prog X.w X.K X.mg X.base C m k ps sp) (c : Cls X.K C) (hr : Room k X.A) (ho : PE X o ta) (ha : PA X (e :: es) t)
    (hst : starEach (e :: es) X.env = (false, eval e X.env) :: starEach es X.env := by rfl) (hpl : (backTo pos (starEach es X.env)).any (·.1) = false := by rfl)
    (ht : eval (.Call (.Attribute o m apos) (e :: es) [] pos) X.env = (do let ov ← eval o X.env; standAt apos.atName; let (f, first) ← holding [ov] (getMethod ov m pl); callWith pos f first (backTo pos (starEach (e :: es) X.env)) (backToKw pos (keywordEach [] X.env))) := by rfl) :
    PE X (.Call (.Attribute o m apos) (e :: es) [] pos) (tMeth C m sp [] E0 ta t) := by
  obtain ⟨f, fd, F, hm, hb⟩ := L.ex
  exact pe_meth (pl := pl) ho c hm F hr hb .nil pass0 ha hst hpl ht
theorem pe_lm0 {pl : Sem Bool} (L : Lm X.prog X.w X.K X.mg X.base C m k ps sp) (c : Cls X.K C) (hr : Room k X.A) (ho : PE X o ta)
    (ht : eval (.Call (.Attribute o m apos) [] [] pos) X.env = (do let ov ← eval o X.env; standAt apos.atName; let (f, first) ← holding [ov] (getMethod ov m pl); callWith pos f first (backTo pos (starEach [] X.env)) (backToKw pos (keywordEach [] X.env))) := by rfl) :
    PE X (.Call (.Attribute o m apos) [] [] pos) (tMeth C m sp [] E0 ta tNil) := by
  obtain ⟨f, fd, F, hm, hb⟩ := L.ex
  exact pe_meth0 (pl := pl) ho c hm F hr hb .nil pass0 ht
theorem pe_ln (L : Ln X.prog X.w X.K X.mg X.base C x k ps sp) (hr : Room (k + 1) X.A) (hg : Gl X x) (ha : PA X (e :: es) t) (hdb : (x == ("__debug__" : Str)) = false := by decide)
    (he : starEach (e :: es) X.env = (false, eval e X.env) :: starEach es X.env := by rfl) (hpl : (backTo pos (starEach es X.env)).any (·.1) = false := by rfl) : PE X (.Call (.Name x p) (e :: es) [] pos) (tMake C sp [] E0 t) := by
  obtain ⟨f, fd, F, hm, hg2, hb⟩ := L.ex
  exact pe_make hm F hr hg hg2 hb .nil pass0 ha hdb he hpl
end
section
variable {K : PySem.W.Frag} {σ : SS} {H : Hp} {Q : VK} {nx bk ct : SS → Hp → Prop} {rt : VK} {C a dx : Addr} {fs : List (Str × V)} {f m : Str} {v : V} {ta te : TE} {t tk : TA} {sp : Sp}
theorem x_meth (q : ta σ H fun x H1 => ∃ a dx fs, x = .ref a ∧ H1 a = some (.ins C dx fs) ∧ fs.lookup m = none ∧ t σ H1 fun vs H2 => sp (x :: (vs ++ [])) H2 Q E0) : tMeth C m sp [] E0 ta t σ H Q := q
theorem x_insM {R : Prop} (h : H a = some (.ins C dx fs)) (l : fs.lookup m = none) (q : R) : ∃ a' dx' fs', V.ref a = .ref a' ∧ H a' = some (.ins C dx' fs') ∧ List.lookup m fs' = none ∧ R := ⟨a, dx, fs, rfl, h, l, q⟩
theorem x_fld (q : ta σ H fun x H1 => ∃ a C dx fs v, x = .ref a ∧ H1 a = some (.ins C dx fs) ∧ Cls K C ∧ NoAttr K C f ∧ fs.lookup f = some v ∧ Q v H1) : tFld K ta f σ H Q := q
theorem x_insF {R : V → Prop} (h : H a = some (.ins C dx fs)) (c : Cls K C) (n : NoAttr K C f) (l : fs.lookup f = some v) (q : R v) : ∃ a' C' dx' fs' v', V.ref a = .ref a' ∧ H a' = some (.ins C' dx' fs') ∧ Cls K C' ∧ NoAttr K C' f ∧ List.lookup f fs' = some v' ∧ R v' :=
  ⟨a, C, dx, fs, v, rfl, h, c, n, l, q⟩
theorem x_sfld (q : te σ H fun y H1 => ta σ H1 fun x H2 => ∃ a C dx fs, x = .ref a ∧ H2 a = some (.ins C dx fs) ∧ Cls K C ∧ NoAttr K C f ∧ fs.length < 1000 ∧ nx σ (upd H2 a (.ins C dx (putF f y fs)))) : sFld K ta te f ⟨nx, rt, bk, ct⟩ σ H := q
theorem x_make (q : t σ H fun vs H1 => ∀ x dx, H1 x = none → H1 dx = none → dx ≠ x → sp (.ref x :: (vs ++ [])) (upd (upd H1 dx (.own x)) x (.ins C dx [])) (fun v H2 => v = .non ∧ Q (.ref x) H2) E0) : tMake C sp [] E0 t σ H Q := q
theorem x_ckw {r : List V → List V → Hp → VK → Prop} (q : t σ H fun vs H1 => tk σ H1 fun zs H2 => r vs zs H2 Q) : tCKw r t tk σ H Q := q
theorem x_maxD {ns : List Int} {d : Int} (h : SqL K H a (ns.map V.int)) (q0 : ns = [] → Q (.int d) H) (q1 : ∀ m, m ∈ ns → (∀ b, b ∈ ns → b ≤ m) → Q (.int m) H) : rMaxD K [.ref a] [.int d] H Q := ⟨a, ns, d, rfl, rfl, h, q0, q1⟩
/-- a range with a step -/
theorem x_iR3 {R : It → Hp → Prop} (q : t σ H fun vs H1 => ∃ (i j c : Int) (n : Nat), vs = [.int i, .int j, .int c] ∧ RgC i j c n ∧ R (Itc i c n) H1) : iRng3 t σ H R := q
theorem y_forDown {g : TG} {tb : TS} {i : Int} (h0 : -1 ≤ i) (h1 : i < 1000000) (q : AskF (i + 1).toNat (fun _ => True) (YFn fun k => .int (i + (k : Nat) * (-1))) g tb nx rt σ H) :
    ∃ (i' j c : Int) (n : Nat), [V.int i, V.int (-1), V.int (-1)] = [.int i', .int j, .int c] ∧ RgC i' j c n ∧ WF (Itc i' c n) g tb nx rt σ H := by
  refine ⟨i, -1, -1, (i + 1).toNat, rfl, ?_, askF walk_rangeC q⟩
  have := RgC.neg (i := i) (j := -1) (by omega) (by omega) (by decide) (by decide)
  rwa [show (i - -1) = i + 1 by omega] at this
end
theorem iteP {c : Bool} {A B : Prop} (h : c = true) (q : A) : if c = true then A else B := by rw [if_pos h]; exact q
theorem iteN {c : Bool} {A B : Prop} (h : c = false) (q : B) : if c = true then A else B := by rw [h]; exact q
section
variable {K : PySem.W.Frag} {σ : SS} {H : Hp} {Q : VK} {x y : V} {ta tb tc : TE} {r r' : R2} {QB : Bool → Hp → Prop}
theorem x_chain (q : ta σ H fun x H1 => tb σ H1 fun y H2 => r x y H2 fun z H3 => ∃ k, z = .bl k ∧ (if k = true then tc σ H3 fun w' H4 => r' y w' H4 Q else Q (.bl false) H3)) : tChain r r' ta tb tc σ H Q := q
theorem x_isi {n : String} {t : Value} {b : Bool} (ty : TyX K H x t) (k : PySem.W.kitOne K t (.type n) = some b) (q : Q (.bl b) H) : rIsi K [x, .ty n] H Q := ⟨x, .ty n, t, .type n, b, rfl, .ty n, ty, k, q⟩
theorem x_isiII {i : Int} (q : Q (.bl true) H) : rIsi K [.int i, .ty "int"] H Q := x_isi (.base (.int i)) (kit_ty (by decide +kernel)) q
theorem x_isiIB {i : Int} (q : Q (.bl false) H) : rIsi K [.int i, .ty "bool"] H Q := x_isi (.base (.int i)) (kit_ty (by decide +kernel)) q
end
section
variable {K : PySem.W.Frag} {σ : SS} {H : Hp} {Q : VK} {QS : SS → Hp → Prop} {nx bk ct : SS → Hp → Prop} {rt : VK} {s1 s2 : TS} {ta tb : TE} {tA : TA} {a b : Addr} {xs : List V} {ds : List PyData}
theorem x_par3 {i j l : Nat} (q : tA σ H fun vs H1 => ∃ u v w, vs = [u, v, w] ∧ nx (((σ.set i (some u)).set j (some v)).set l (some w)) H1) : tPar3 i j l tA ⟨nx, rt, bk, ct⟩ σ H := q
theorem x_three {R : V → V → V → Prop} {x y z : V} (q : R x y z) : ∃ u v w, [x, y, z] = [u, v, w] ∧ R u v w := ⟨x, y, z, rfl, q⟩
theorem x_orT (q : ta σ H fun x H1 => ∃ k, TruV K x H1 k ∧ if k = true then Q x H1 else tb σ H1 Q) : tOrT K ta tb σ H Q := q
theorem x_truN {R : Bool → Prop} (q : R false) : ∃ k, TruV K .non H k ∧ R k := ⟨false, rfl, q⟩
theorem x_truT {R : Bool → Prop} (h : SqT K H a xs) (q : R (!xs.isEmpty)) : ∃ k, TruV K (.ref a) H k ∧ R k := ⟨_, .inr (.inl ⟨xs, h, rfl⟩), q⟩
theorem x_glst {m : Nat} {u : TGs} (h : SqL K H a xs) (l : xs.length = m) (q : u xs σ H QS) : gLst K m u (.ref a) σ H QS := ⟨a, xs, rfl, h, l, q⟩
/-- a part of a block that may end in more than one way: what comes behind it, once -/
theorem x_seqG (P : SS → Hp → Prop) (q : ∀ G : SS → Hp → Prop, (∀ σ H, P σ H → G σ H) → s1 ⟨G, rt, bk, ct⟩ σ H) (r : ∀ σ H, P σ H → s2 ⟨nx, rt, bk, ct⟩ σ H) : tSeq s1 s2 ⟨nx, rt, bk, ct⟩ σ H := q _ r
theorem eqv_nil (ds : List PyData) : PyData.eqv (.list ds) (.list []) = ds.isEmpty := by
  cases ds <;> rfl
theorem x_neNilD (h : SqL K H a xs) (hd : DpAll K H xs ds) (sh : SeqAt.shaped (.list ds) = true) (hb : SqL K H b []) (q : Q (.bl (!ds.isEmpty)) H) : rNeD K (.ref a) (.ref b) H Q := ⟨.list ds, .list [], .lst h hd, .lst hb .nil, sh, by decide, by rw [eqv_nil]; exact q⟩
theorem x_eqNilD (h : SqL K H a xs) (hd : DpAll K H xs ds) (sh : SeqAt.shaped (.list ds) = true) (hb : SqL K H b []) (q : Q (.bl ds.isEmpty) H) : rEqD K (.ref a) (.ref b) H Q := ⟨.list ds, .list [], .lst h hd, .lst hb .nil, sh, by decide, by rw [eqv_nil]; exact q⟩
theorem x_catL {ys : List V} (h : H a = some (.lst xs)) (h2 : H b = some (.lst ys)) (z : xs.length + ys.length ≤ sizeLine) (q : ∀ p, H p = none → Q (.ref p) (upd H p (.lst (xs ++ ys)))) : rCat (.ref a) (.ref b) H Q := ⟨a, b, xs, ys, rfl, rfl, h, h2, z, q⟩
end

/-! ### the rules that speak of X.K, with K told from outside -/
section
variable {X : Cx} {K : PySem.W.Frag}
theorem op_eqDK (hu : X.A.units + 64 < cLine) (e : X.K = K := by rfl) : OpR X (compareOp .Eq) (rEqD K) := e ▸ op_eqD hu
theorem op_neDK (hu : X.A.units + 64 < cLine) (e : X.K = K := by rfl) : OpR X (compareOp .NotEq) (rNeD K) := e ▸ op_neD hu
end
section
variable {X : Cx} {K : PySem.W.Frag} {o e : Expr} {es : List Expr} {to : TE} {t : TA} {name : Str} {apos cpos : Pos} {T id : String} {r : V → List V → Hp → VK → Prop}
theorem pe_bmK (pa : PlainAttrs T) (slot : Slot T name id) (hty : typeOf (.builtin id) = pure (.type "method_descriptor")) (hm : MtR X id r) (ho : PE X o to) (ha : PA X (e :: es) t) (eK : X.K = K := by rfl)
    (hbase : attributeBase o name X.env (eval o X.env) = eval o X.env := by rfl)
    (hfew : ((backTo cpos (starEach (e :: es) X.env)).all (fun x => !x.1) && (backToKw cpos (keywordEach [] X.env)).all (fun x => x.1.isSome)
      && decide ((e :: es).length + ([] : List Keyword).length + (if ([] : List Keyword).isEmpty then 0 else 1) < 30)) = true := by rfl)
    (hline : (apos.endLine == cpos.line) = true := by rfl) (hs : starEach (e :: es) X.env = (false, eval e X.env) :: starEach es X.env := by rfl) (hplain : (backTo cpos (starEach es X.env)).any (·.1) = false := by rfl) :
    PE X (.Call (.Attribute o name apos) (e :: es) [] cpos) (tBM K T r to t) := eK ▸ pe_bm pa slot hty hm ho ha hbase hfew hline hs hplain
theorem pe_bm0K (pa : PlainAttrs T) (slot : Slot T name id) (hty : typeOf (.builtin id) = pure (.type "method_descriptor")) (hm : MtR X id r) (ho : PE X o to) (eK : X.K = K := by rfl)
    (hbase : attributeBase o name X.env (eval o X.env) = eval o X.env := by rfl) (hline : (apos.endLine == cpos.line) = true := by rfl) : PE X (.Call (.Attribute o name apos) [] [] cpos) (tBM0 K T r to) := eK ▸ pe_bm0 pa slot hty hm ho hbase hline
end
/-! ### all that is no list is kept -/
def Kt (H H' : Hp) : Prop := ∀ b o, H b = some o → (∀ xs, o ≠ .lst xs) → H' b = some o
theorem Kt.refl (H : Hp) : Kt H H := fun _ _ h _ => h
theorem Kt.trans {H H1 H2 : Hp} (a : Kt H H1) (b : Kt H1 H2) : Kt H H2 := fun c o h n => b c o (a c o h n) n
theorem Kt.of {S : List Addr} {H H' : Hp} (k : Kx S H H') (h : ∀ q ∈ S, ∃ xs, H q = some (.lst xs)) : Kt H H' := fun b o e n => by
  refine k b o (fun z => ?_) e
  obtain ⟨xs, hq⟩ := h b z
  rw [e] at hq
  exact n xs (Option.some.inj hq)
theorem Kt.of0 {H H' : Hp} (k : Kx [] H H') : Kt H H' := fun b o e _ => k b o (by simp) e
theorem Kt.of1 {H H' : Hp} {p : Addr} (k : Kx [p] H H') {xs : List V} (h : H p = some (.lst xs)) : Kt H H' := Kt.of k fun q hq => by rw [List.mem_singleton.mp hq]; exact ⟨xs, h⟩
theorem Kt.wr {H H' : Hp} {q : Addr} {o : HO} (k : Kt H H') {xs : List V} (h : H' q = some (.lst xs)) : Kt H (upd H' q o) := fun b u e n => by
  have e2 := k b u e n
  by_cases hb : b = q
  · subst hb
    rw [h] at e2
    exact absurd (Option.some.inj e2).symm (n xs)
  · rw [upd_ne hb]
    exact e2
theorem Kt.new {H H' : Hp} {q : Addr} {o : HO} (k : Kt H H') (h : H' q = none) : Kt H (upd H' q o) := fun b u e n => lk_ne (k b u e n) h
theorem Kt.sqT {K : PySem.W.Frag} {H H' : Hp} {a : Addr} {xs : List V} (k : Kt H H') (h : SqT K H a xs) : SqT K H' a xs := by
  rcases h with (h | ⟨o, h⟩) | h
  · exact .inl (.inl (k _ _ h (by intro ys z; cases z)))
  · exact .inl (.inr ⟨o, k _ _ h (by intro ys z; cases z)⟩)
  · exact .inr h
theorem Kx.cmb {S : List Addr} {H H1 H2 : Hp} {Z : Addr} (a : Kx S H H1) (b : Kx [Z] H1 H2) (n : H Z = none) : Kx S H H2 := fun q o hq h =>
  b q o (fun z => by rw [List.mem_singleton.mp z, n] at h; cases h) (a q o hq h)
/-! ### numbers -/
def oV : Option Nat → V
  | none => .non
  | some n => .int (n : Int)
def oD : Option Nat → PyData
  | none => .none
  | some n => .int (n : Int)
theorem dp_o {K : PySem.W.Frag} {H : Hp} : ∀ o : Option Nat, Dp K H (oV o) (oD o)
  | none => .non
  | some n => .int n
theorem dp_os {K : PySem.W.Frag} {H : Hp} : ∀ l : List (Option Nat), DpAll K H (l.map oV) (l.map oD)
  | [] => .nil
  | o :: r => .cons (dp_o o) (dp_os r)
theorem good_os {l : List (Option Nat)} (h : ∀ o ∈ l, ∀ n, o = some n → n < 10 ^ 9) (hl : l.length ≤ 40) : Good (.tuple (l.map oD)) 1 (40 * 32) := by
  refine Good.tuple (k := 0) (w := 31) (n := 40) ?_ (by rw [List.length_map]; exact hl)
  intro d hd
  obtain ⟨o, ho, rfl⟩ := List.mem_map.mp hd
  cases o with
  | none => exact Good.none.mono (Nat.le_refl _) (by decide)
  | some n =>
    have := h _ ho n rfl
    exact Good.int (by omega)
abbrev natV (l : List Nat) : List V := l.map fun (n : Nat) => V.int (n : Int)
theorem natV_get {l : List Nat} {i n : Nat} (h : l[i]? = some n) : (natV l)[i]? = some (V.int (n : Int)) := by
  unfold natV
  rw [List.getElem?_map, h]
  rfl
theorem natV_at {l : List Nat} {i n : Nat} (h : l[i]? = some n) : atI (natV l) (i : Int) = some (.int (n : Int)) := atI_nat (natV_get h)
theorem natV_int (l : List Nat) : natV l = (l.map fun (n : Nat) => (n : Int)).map V.int := by
  unfold natV
  rw [List.map_map]
  rfl
theorem natV_len (l : List Nat) : (natV l).length = l.length := List.length_map ..
theorem cast_back {N : Nat} : ∀ {zs : List Int}, (∀ z ∈ zs, z ∈ (List.range N).map fun (i : Nat) => (i : Int)) → natV (zs.map Int.toNat) = zs.map V.int
  | [], _ => rfl
  | z :: r, h => by
    obtain ⟨m, _, e⟩ := List.mem_map.mp (h z List.mem_cons_self)
    have ih := cast_back (zs := r) fun y hy => h y (List.mem_cons_of_mem _ hy)
    unfold natV at ih ⊢
    rw [List.map_cons, List.map_cons, List.map_cons, ih, ← e]
    rfl
theorem perm_nat {zs : List Int} {N : Nat} (h : zs.Perm ((List.range N).map fun (i : Nat) => (i : Int))) : ∃ ns : List Nat, zs.map V.int = natV ns ∧ ns.Perm (List.range N) := by
  refine ⟨zs.map Int.toNat, (cast_back fun z hz => h.mem_iff.mp hz).symm, ?_⟩
  have e := h.map Int.toNat
  rw [List.map_map] at e
  have e2 : (List.range N).map (Int.toNat ∘ fun (i : Nat) => (i : Int)) = List.range N := by
    rw [show (Int.toNat ∘ fun (i : Nat) => (i : Int)) = id from funext fun n => Int.toNat_natCast n, List.map_id]
  rwa [e2] at e
theorem rg_nat (N : Nat) : rgV 0 (N : Int) = natV (List.range N) := by
  unfold rgV natV
  rw [show ((N : Int) - 0).toNat = N by omega]
  refine List.map_congr_left fun i _ => ?_
  show V.int (0 + (i : Int)) = V.int i
  rw [Int.zero_add]
theorem erase_nat : ∀ (zs : List Nat) (i : Nat), (natV zs).eraseIdx i = natV (zs.eraseIdx i)
  | [], _ => rfl
  | _ :: _, 0 => rfl
  | z :: r, i + 1 => congrArg (V.int (z : Int) :: ·) (erase_nat r i)
theorem at_i {zs : List Int} {w : Int} (h0 : 0 ≤ w) (h1 : w < zs.length) : ∃ z ∈ zs, zs[w.toNat]? = some z ∧ atI (zs.map V.int) w = some (.int z) := by
  obtain ⟨i, rfl⟩ : ∃ i : Nat, w = i := ⟨w.toNat, by omega⟩
  have hi : i < zs.length := by omega
  have e1 := List.getElem?_eq_getElem hi
  refine ⟨zs[i], List.getElem_mem hi, by simpa using e1, atI_nat ?_⟩
  rw [List.getElem?_map, e1]
  rfl
theorem ix_n {n j : Nat} (hj : j < n) : ixN n (j : Int) = some j := by
  unfold ixN
  rw [if_pos (by omega), if_pos (by omega), Int.toNat_natCast]
theorem erase_perm0 {z : Nat} : ∀ {zs : List Nat} {i : Nat}, zs[i]? = some z → (z :: zs.eraseIdx i).Perm zs
  | [], _, h => by cases h
  | y :: r, 0, h => by
    cases Option.some.inj h
    exact .refl _
  | y :: r, i + 1, h => (List.Perm.swap y z _).trans ((erase_perm0 (zs := r) (i := i) h).cons y)
theorem erase_perm {zs : List Nat} {i : Nat} {z : Nat} (h : zs[i]? = some z) (as : List Nat) : (as ++ [z] ++ zs.eraseIdx i).Perm (as ++ zs) := by
  rw [List.append_assoc]
  exact List.Perm.append_left as (erase_perm0 h)
section
variable {K : PySem.W.Frag} {σ : SS} {H : Hp} {Q : VK} {te : TE} {a : Addr} {xs : List V} {y : V} {i : Nat} {j : Int}
theorem x_revL (q : te σ H fun x H1 => ∃ a xs, x = .ref a ∧ SqL K H1 a xs ∧ ∀ p, H1 p = none → Q (.ref p) (upd H1 p (.lst xs.reverse))) : tRevL K te σ H Q := q
theorem x_revR {R : Addr → List V → Prop} (h : SqL K H a xs) (q : ∀ p, H p = none → R p xs) : ∃ a' ys, V.ref a = .ref a' ∧ SqL K H a' ys ∧ ∀ p, H p = none → R p ys := ⟨a, xs, rfl, h, q⟩
theorem x_popAt (h : H a = some (.lst xs)) (e : j = (i : Int)) (b : i < 1000000) (s : xs[i]? = some y) (q : Q y (upd H a (.lst (xs.eraseIdx i)))) : rPopAt (.ref a) [.int j] H Q := by
  subst e
  have hi := (List.getElem?_eq_some_iff.mp s).1
  exact ⟨a, xs, i, i, y, rfl, rfl, h, by omega, by omega, seqIndex_of (by omega) (by omega), s, q⟩
theorem dp_nats : ∀ l : List Nat, DpAll K H (natV l) (l.map fun (n : Nat) => PyData.int (n : Int))
  | [] => .nil
  | n :: r => .cons (.int n) (dp_nats r)
end
theorem shaped_int2 (p s : Int) : SeqAt.shaped (.tuple [.int p, .int s]) = true := by
  unfold SeqAt.shaped
  simp [PyData.canLay0, PyData.canLayAll0, PyData.depth, PyData.depthAll]
theorem dpAll_i {K : PySem.W.Frag} {H : Hp} : ∀ {vs : List V} {ds : List PyData}, vs.length = ds.length → (∀ (i : Nat) (d : PyData), ds[i]? = some d → ∃ v, vs[i]? = some v ∧ Dp K H v d) → DpAll K H vs ds
  | [], [], _, _ => .nil
  | [], _ :: _, h, _ => by cases h
  | _ :: _, [], h, _ => by cases h
  | v :: vs, d :: ds, h, q => by
    obtain ⟨v', e, hd⟩ := q 0 d rfl
    cases Option.some.inj e
    exact .cons hd (dpAll_i (Nat.succ.inj h) fun i d' hi => q (i + 1) d' hi)

theorem in_nat {n : Nat} (ns : List Nat) : inV (.int (n : Int)) (natV ns) = decide (n ∈ ns) := by
  rw [natV_int, in_int]
  congr 1
  rw [List.mem_map]
  refine propext ⟨?_, fun h => ⟨n, h, rfl⟩⟩
  rintro ⟨m, hm, e⟩
  rwa [← Int.ofNat.inj e]
theorem flat_nats (ns : List Nat) : (natV ns).all flatV = true := by rw [natV_int]; exact flat_ints _
theorem x_neNilN {K : PySem.W.Frag} {H : Hp} {Q : VK} {a b : Addr} {l : List Nat} (h : SqL K H a (natV l)) (hb : SqL K H b []) (q : Q (.bl (!l.isEmpty)) H) : rNeD K (.ref a) (.ref b) H Q := by
  rw [natV_int] at h
  refine x_neNil h hb ?_
  cases l with
  | nil => exact q
  | cons _ _ => exact q
theorem set_range {α : Type} {n j : Nat} {f g : Nat → α} (hj : j < n) (h1 : ∀ i, i ≠ j → g i = f i) : ((List.range n).map f).set j (g j) = (List.range n).map g := by
  refine List.ext_getElem? fun i => ?_
  by_cases e : i = j
  · subst e
    rw [List.getElem?_set_self (by rw [List.length_map, List.length_range]; exact hj), List.getElem?_map, List.getElem?_range hj]
    rfl
  · rw [List.getElem?_set_ne (Ne.symm e), List.getElem?_map, List.getElem?_map]
    cases h : (List.range n)[i]? with
    | none => rfl
    | some k =>
      obtain ⟨h2, h3⟩ := List.getElem?_eq_some_iff.mp h
      rw [List.getElem_range] at h3
      show some (f k) = some (g k)
      rw [h1 k (by omega)]

open PySem PySem.Spec PySem.Calls PyProof.Rows L2
/-! ### min(ints, default=d) -/
section
variable {prog : Program} {w : World} {A : Around} {E : Value → Shared → Prop} {R : Result → Shared → Prop} {I : Addr} {fp wr : List Addr} {G : Array GenState → Array GenState → Prop} {n : Nat} {P : Nat → Value → Prop} {St : Nat → Shared → Prop}
theorem minkw_turns (kw : List (Str × Value)) (W : WalksS prog w A.in1 I fp wr G n P St) (bt : Nat → Nat → Bool) (hcmp : CmpOf prog w A.in1 .Lt P bt) (S : Addr) (hSf : S ∉ fp) :
    ∀ (k j : Nat) (s : Shared) (vb : Value) (c : Nat), n - (j + 1) = k → j + 1 ≤ n → St (j + 1) s → P (argBest bt j) vb → s.heap.get? S = some { cls := .type "list", dict := none, data := .seq #[vb, vb] c, slots := #[] } →
      (∀ v s', P (argBest bt (n - 1)) v → Moved (S :: wr) G s s' → R (.ok (.ret v)) s') → codeAny (model prog w) A (.builtin "min.loop" ⟨[.ref I, .none, .ref S], kw⟩) R s := by
  have nm : (toString "min" ++ toString ".loop" : String) = "min.loop" := by decide
  have w1 : S ∉ wr := fun h => hSf (W.sub _ h)
  have w2 : ∀ b ∈ wr, b ∈ S :: wr := fun b hb => List.mem_cons_of_mem _ hb
  have w3 : ∀ {b : Addr}, b ∉ S :: wr → S ≠ b := fun hb h => hb (h ▸ List.mem_cons_self)
  intro k
  induction k with
  | zero =>
    intro j s vb c hk hj hst hPb hS hR
    obtain rfl : j + 1 = n := by omega
    refine codeAny_builtin PySem.F.entry_min_loop ?_
    rw [Around.under_plainId PySem.F.plain_min_loop _]; show wpAny _ A.in1 (seqItems? (.ref S) >>= _) _ _ s
    refine wpAny_bind (wpAny_seqItems hS rfl ?_); show wpAny _ A.in1 (tryCatch (pyNext (.ref I)) _ >>= _) _ _ s
    refine wpAny_bind (wpAny_tryCatch (W.done s _ _ hst fun s' hm => ?_))
    have hS' := hm.heap S _ w1 hS
    show wpAny _ A.in1 (updateSeq S (fun _ => (#[] : Array Value)) >>= _) _ _ _
    refine wpAny_bind (wpAny_updateSeq hS' rfl (wpAny_bind (wpAny_letGo (wpAny_pure (hR vb _ hPb ?_)))))
    exact (hm.mono w2).then_heap (tk := s'.toks) (Nat.le_refl _) fun b o hb e => (Heap.get?_update_other _ _ (w3 hb)).trans e
  | succ k ih =>
    intro j s vb c hk hj hst hPb hS hR
    have hlt : j + 1 < n := by omega
    refine codeAny_builtin PySem.F.entry_min_loop ?_
    rw [Around.under_plainId PySem.F.plain_min_loop _]; show wpAny _ A.in1 (seqItems? (.ref S) >>= _) _ _ s
    refine wpAny_bind (wpAny_seqItems hS rfl ?_); show wpAny _ A.in1 (tryCatch (pyNext (.ref I)) _ >>= _) _ _ s
    refine wpAny_bind (wpAny_tryCatch (W.item (j + 1) s _ _ hlt hst fun v s' hP hst' hm => ?_))
    have hS' := hm.heap S _ w1 hS
    show wpAny _ A.in1 (tryCatch (holding [v, v] (richCompare .Lt v vb >>= _)) _ >>= _) _ _ _
    refine wpAny_bind (wpAny_tryCatch (wpAny_holding (wpAny_bind (hcmp (j + 1) (argBest bt j) v vb _ _ _ hP hPb ?_)))); refine wpAny_bind (wpAny_holding (wpAny_truthy_bool ?_))
    refine wpAny_bind (wpAny_letGo (wpAny_pure ?_))
    cases hb : bt (j + 1) (argBest bt j) with
    | true =>
      simp only [if_true]
      refine wpAny_bind (wpAny_updateSeq hS' rfl (wpAny_bind (wpAny_letGo ?_))); rw [nm]
      have far : ∀ {b : Addr}, b ∉ fp → True := fun _ => trivial
      refine wpAny_pure ⟨plainId_quiet PySem.F.plain_min_loop _, ih (j + 1) _ v _ (by omega) hlt (W.frame _ s' _ s'.toks hst' (Nat.le_refl _) fun b hbf o e => (Heap.get?_update_other _ _ (fun h : S = b => hSf (h ▸ hbf))).trans e) (by simp only [argBest, hb, if_true]; exact hP) (Heap.get?_update_self _ hS' rfl) fun v' s'' hP' hm'' => hR v' s'' hP' (Moved.trans W.gtrans ((hm.mono w2).then_heap (Nat.le_refl _) fun b o hb e => (Heap.get?_update_other _ _ (w3 hb)).trans e) hm'')⟩
    | false =>
      simp only [Bool.false_eq_true, if_false]
      refine wpAny_bind (wpAny_letGo ?_); rw [nm]
      exact wpAny_pure ⟨plainId_quiet PySem.F.plain_min_loop _, ih (j + 1) _ vb c (by omega) hlt hst' (by simp only [argBest, hb, Bool.false_eq_true, if_false]; exact hPb) hS' fun v' s'' hP' hm'' => hR v' s'' hP' (Moved.trans W.gtrans (hm.mono w2) hm'')⟩
/-- the first turn, none or one -/
theorem minkw_first {d : Value} (W : WalksS prog w A.in1 I fp wr G n P St) (bt : Nat → Nat → Bool) (hcmp : CmpOf prog w A.in1 .Lt P bt) (S : Addr) (hSf : S ∉ fp) {s : Shared} {c : Nat} (hst : St 0 s) (hS : s.heap.get? S = some { cls := .type "list", dict := none, data := .seq #[] c, slots := #[] })
    (h0 : n = 0 → ∀ s', Moved (S :: wr) G s s' → R (.ok (.ret d)) s') (h1 : 0 < n → ∀ v s', P (argBest bt (n - 1)) v → Moved (S :: wr) G s s' → R (.ok (.ret v)) s') :
    codeAny (model prog w) A (.builtin "min.loop" ⟨[.ref I, .none, .ref S], [("default", d)]⟩) R s := by
  have nm : (toString "min" ++ toString ".loop" : String) = "min.loop" := by decide
  have w1 : S ∉ wr := fun h => hSf (W.sub _ h)
  have w2 : ∀ b ∈ wr, b ∈ S :: wr := fun b hb => List.mem_cons_of_mem _ hb
  have w3 : ∀ {b : Addr}, b ∉ S :: wr → S ≠ b := fun hb h => hb (h ▸ List.mem_cons_self)
  refine codeAny_builtin PySem.F.entry_min_loop ?_
  rw [Around.under_plainId PySem.F.plain_min_loop _]; show wpAny _ A.in1 (seqItems? (.ref S) >>= _) _ _ s
  refine wpAny_bind (wpAny_seqItems hS rfl ?_); show wpAny _ A.in1 (tryCatch (pyNext (.ref I)) _ >>= _) _ _ s
  by_cases hn : 0 < n
  · refine wpAny_bind (wpAny_tryCatch (W.item 0 s _ _ hn hst fun v s' hP hst' hm => ?_))
    have hS' := hm.heap S _ w1 hS
    show wpAny _ A.in1 (updateSeq S (fun _ => #[v, v]) >>= _) _ _ _
    refine wpAny_bind (wpAny_updateSeq hS' rfl ?_); rw [nm]
    refine wpAny_pure ⟨plainId_quiet PySem.F.plain_min_loop _, minkw_turns _ W bt hcmp S hSf _ 0 _ v _ rfl hn (W.frame _ s' _ s'.toks hst' (Nat.le_refl _) fun b hbf o e => (Heap.get?_update_other _ _ (fun h : S = b => hSf (h ▸ hbf))).trans e) hP (Heap.get?_update_self _ hS' rfl) fun v' s'' hP' hm'' => h1 hn v' s'' hP' ?_⟩
    exact Moved.trans W.gtrans ((hm.mono w2).then_heap (Nat.le_refl _) fun b o hb e => (Heap.get?_update_other _ _ (w3 hb)).trans e) hm''
  · obtain rfl : n = 0 := by omega
    refine wpAny_bind (wpAny_tryCatch (W.done s _ _ hst fun s' hm => ?_))
    refine wpAny_bind (wpAny_rule ?_)
    exact wpAny_pure (h0 rfl s' (hm.mono w2))
theorem mind_args (a v : Value) : argsOk "min" ⟨[a], [(Str.ofString "default", v)]⟩ := by unfold argsOk; kernel_rfl
theorem min_dflt {l : Addr} {its : List Value} {ns : List Int} {d : Value} {s : Shared} {Q : Value → Shared → Prop} (hh : A.handled = none) (hl : s.heap.IsList l its.toArray) (hi : IntsAre its ns)
    (h0 : ns = [] → ∀ h' tk, (∀ b o, s.heap.get? b = some o → h'.get? b = some o) → Q d { s with heap := h', toks := tk })
    (h1 : ∀ h' tk m t', (∀ b o, s.heap.get? b = some o → h'.get? b = some o) → m ∈ ns → (∀ a, a ∈ ns → m ≤ a) → Q (.int m t') { s with heap := h', toks := tk }) :
    wpAny (model prog w) A (call (.builtin "min") [.ref l] [(Str.ofString "default", d)]) Q E s := by
  obtain ⟨xs, e⟩ := hi.allInts.items
  have hn : numsOf (intItems xs).toList = ns := e ▸ hi.numsOf
  rw [nums_intItems] at hn
  subst hn
  rw [e] at hl
  have nm : (toString "min" ++ toString ".loop" : String) = "min.loop" := by decide
  refine kmb_tree PySem.F.kind_min PySem.F.plain_min PySem.F.entry_min (mind_args _ _) ?_
  show wpAny _ A.in1 (Builtin.Builtins.bindParams "min" ["key", "default"] 0 ⟨[], [(Str.ofString "default", d)]⟩ >>= _) _ _ s
  refine wpAny_bind (wpAny_of_eq (show Builtin.Builtins.bindParams "min" ["key", "default"] 0 ⟨[], [(Str.ofString "default", d)]⟩ = pure [none, some d] from rfl) ?_)
  refine wpAny_bind (wpAny_pure (wpAny_bind ?_))
  refine PySem.iter_intList hl fun s2 e2 st hfp hlI => ?_
  subst e2
  refine wpAny_bind (wpAny_newObj_type ?_); rw [nm]
  have W := Walks.list (prog := prog) (w := w) (A := A.in1) hh s.heap.objs.size l hlI (intItems xs)
  have hsz : (s.heap.push { cls := .type "list_iterator", data := .fields #[.ref l, .int 0 0] }).objs.size = s.heap.objs.size + 1 := Heap.size_push ..
  have hSf : (s.heap.push { cls := .type "list_iterator", data := .fields #[.ref l, .int 0 0] }).objs.size ∉ [s.heap.objs.size, l] := fun hm => Nat.lt_irrefl _ (hfp _ hm)
  have hlen : (intItems xs).size = xs.size := by simp [intItems]
  have off : ∀ {b : Addr} {o : Obj}, s.heap.get? b = some o → b ∉ [(s.heap.push { cls := .type "list_iterator", data := .fields #[.ref l, .int 0 0] }).objs.size, s.heap.objs.size] := fun {b o} q hm => by
    have hlt : b < s.heap.objs.size := Heap.lt_size q
    rw [hsz] at hm
    rcases List.mem_cons.mp hm with z | z
    · exact absurd hlt (by rw [z]; exact Nat.not_lt.mpr (Nat.le_succ _))
    · exact absurd hlt (by rw [List.mem_singleton.mp z]; exact Nat.lt_irrefl _)
  refine wpAny_pure ⟨plainId_quiet PySem.F.plain_min_loop _, minkw_first W.toS _ (CmpOf.ints_lt (numAt xs) (fun _ _ => intItems_at)) _ hSf (W.toS.frame 0 _ _ s.toks st (Nat.le_refl _) fun b _ o q => Heap.get?_push_of_some _ q) (Heap.get?_push_size _ rfl) (fun hz s' hm => ?_) (fun hz v s' hP hm => ?_)⟩
  · rw [Moved.eq_with hm]
    exact h0 (by rw [hlen] at hz; rw [Array.eq_empty_of_size_eq_zero hz]; rfl) s'.heap s'.toks fun b o q => hm.heap b o (off q) (Heap.get?_push_of_some _ (Heap.get?_push_of_some _ q))
  · rw [Moved.eq_with hm]
    have hne : 0 < xs.size := by rwa [hlen] at hz
    have hP : (intItems xs)[argBest (fun i j => decide (numAt xs i < numAt xs j)) (xs.size - 1)]? = some v := by simpa [intItems] using hP
    obtain ⟨t, rfl⟩ := intItems_at hP
    obtain ⟨g1, g2⟩ := argBest_lt (numAt xs) (xs.size - 1)
    refine h1 s'.heap s'.toks _ t (fun b o q => hm.heap b o (off q) (Heap.get?_push_of_some _ (Heap.get?_push_of_some _ q))) ?_ fun a ha => ?_
    · rw [numAt_eq]
      exact PySem.getD_mem (by rw [List.length_map, Array.length_toList]; omega)
    · obtain ⟨j, hj, rfl⟩ := mem_getD ha
      rw [List.length_map, Array.length_toList] at hj
      exact numAt_eq xs j ▸ g2 j (by omega)
end
section
variable {X : Cx}
def rMinD (K : PySem.W.Frag) : List V → List V → Hp → VK → Prop := fun xs zs H Q => ∃ (a : Addr) (ns : List Int) (d : V), xs = [.ref a] ∧ zs = [d] ∧ SqL K H a (ns.map V.int) ∧ (ns = [] → Q d H) ∧ ∀ m, m ∈ ns → (∀ b, b ∈ ns → m ≤ b) → Q (.int m) H
theorem cr_minD (hc : X.calm = true) : CallRK X (.builtin "min") [Str.ofString "default"] (rMinD X.K) := by
  intro pins s σ H xs zs us ws Q I r rz h
  obtain ⟨a, ns, d, rfl, rfl, hs, q0, q1⟩ := h
  obtain ⟨its, rv, hl, _⟩ := I.list hs
  obtain ⟨u, rfl, ru⟩ := vals1 rz
  rw [Vals.ref1 r]
  exact min_dflt (I.ok.hd hc) hl.isList rv.ints (fun e h' tk hk => ⟨d, H, I.kept hk, ru, q0 e⟩) fun h' tk m t' hk h1 h2 => ⟨.int m, H, I.kept hk, ⟨_, rfl⟩, q1 m h1 h2⟩
end

theorem cr_minDK {X : Cx} {K : PySem.W.Frag} (hc : X.calm = true) (e : X.K = K := by rfl) : CallRK X (.builtin "min") [Str.ofString "default"] (rMinD K) := e ▸ cr_minD hc
theorem x_minD {K : PySem.W.Frag} {H : Hp} {Q : VK} {a : Addr} {ns : List Int} {d : V} (h : SqL K H a (ns.map V.int)) (q0 : ns = [] → Q d H) (q1 : ∀ m, m ∈ ns → (∀ b, b ∈ ns → m ≤ b) → Q (.int m) H) : rMinD K [.ref a] [d] H Q := ⟨a, ns, d, rfl, rfl, h, q0, q1⟩
/-! ### math.lcm -/
section
variable {X : Cx}
def rLcm : List V → Hp → VK → Prop := fun vs H Q => ∃ a b : Int, vs = [.int a, .int b] ∧ a.natAbs < 2 ^ 10000 ∧ b.natAbs < 2 ^ 10000 ∧ (Nat.lcm a.natAbs b.natAbs) < 2 ^ 20000 ∧ Q (.int ((Nat.lcm a.natAbs b.natAbs : Nat) : Int)) H
theorem log_lt {n k : Nat} (h : n < 2 ^ k) (hk : 0 < k) : n.log2 < k := by
  by_cases h0 : n = 0
  · subst h0
    rw [Nat.log2_zero]
    exact hk
  · exact (Nat.log2_lt h0).mpr h
theorem max_lt2 {a b k : Nat} (ha : a < 2 ^ k) (hb : b < 2 ^ k) : max a b < 2 ^ k := Nat.max_lt.mpr ⟨ha, hb⟩
theorem cr_lcm : CallR X (.builtin "math.lcm") rLcm := by
  intro pins s σ H vs us Q I r h
  obtain ⟨a, b, rfl, ha, hb, hl, q⟩ := h
  obtain ⟨t, u, rfl⟩ := Vals.int2 r
  have e1 : Nat.lcm 1 a.natAbs = a.natAbs := Nat.lcm_one_left _
  have h1 : (max 1 a.natAbs).log2 < 10000 := log_lt (max_lt2 (Nat.one_lt_two_pow (by decide)) ha) (by decide)
  have h2 : (max a.natAbs b.natAbs).log2 < 10000 := log_lt (max_lt2 ha hb) (by decide)
  have h3 : (Nat.lcm a.natAbs b.natAbs).log2 < 20000 := log_lt hl (by decide)
  have h4 : (((((Nat.lcm 1 a.natAbs).lcm b.natAbs : Nat) : Int)).natAbs).log2 < bitsLine := by
    rw [e1, Int.natAbs_natCast]
    exact Nat.lt_of_lt_of_le h3 (by decide)
  refine call_function_meets PySem.W.MGF.kind_lcm PySem.W.MGF.plain_lcm PySem.W.MGF.entry_lcm (PySem.W.MGF.args_lcm _ _) (PySem.W.mg_run_lcm a t b u (by omega) (by omega) h4).meets ?_
  rw [e1]
  exact ⟨.int _, H, I.tok _, ⟨_, rfl⟩, q⟩
end
/-! ### a comprehension in a comprehension -/
def relabel' (scope sc : Scope) : Scope := { scope with names := scope.names.map fun (n, k) => if k == NameKind.free && sc.kind == .function && sc.names.lookup n == some .cell then (n, NameKind.cell) else (n, k) }
theorem relabel_eq (scope : Scope) (env : Env) : relabel scope env = relabel' scope env.scope := rfl
theorem blkOk_byN {N : List Str} {scope0 scope : Scope} {env0 : Env} {own : List (Str × Nat)} (h : blkC N (relabel' scope0 env0.scope) scope own = true) : BlkOk N (relabel scope0 env0) scope own := blkOk_by h
section
variable {X : Cx} {K : PySem.W.Frag} {tg e : Expr} {tl : TE}
theorem pi_listK (h : PE X e tl) (eK : X.K = K := by rfl) : PI X tg e (iList K tl) := eK ▸ pi_list h
theorem pi_tupK (h : PE X e tl) (eK : X.K = K := by rfl) : PI X tg e (iTup K tl) := eK ▸ pi_tup h
end

/-! ### calls by position and by name -/
structure Lkx (P : Program) (w : World) (K : PySem.W.Frag) (mg : Str → Option Value) (base : Heap) (x : Str) (k : Nat) (ps ks : List Str) (gV : List V → List V → List V) (sp : Sp) : Prop where
  ex : ∃ (f : Addr) (fd : FuncData) (g : List Value → List Value → List Value), FnOk P w K mg base CX0 k f fd ps sp ∧ mg x = some (.ref f) ∧ PySem.W.keepIn K (.ref f) = true ∧ KBinds K fd ps ks g gV
section
variable {X : Cx} {k : Nat} {x : Str} {ps ks : List Str} {sp : Sp} {e : Expr} {es : List Expr} {p pos : Pos} {t tk : TA} {kws : List Keyword} {gV : List V → List V → List V}
theorem pe_lkx (L : Lkx X.prog X.w X.K X.mg X.base x k ps ks gV sp) (hr : Room k X.A) (hg : Gl X x) (ha : PA X (e :: es) t) (hkw : PK X kws tk)
    (hall : (backToKw pos (keywordEach kws X.env)).all (·.1.isSome) = true := by rfl) (hks : (backToKw pos (keywordEach kws X.env)).filterMap (·.1) = ks := by rfl)
    (hdb : (x == ("__debug__" : Str)) = false := by decide) (he : starEach (e :: es) X.env = (false, eval e X.env) :: starEach es X.env := by rfl)
    (hpl : ((backTo pos (starEach (e :: es) X.env)).any (·.1) || (backToKw pos (keywordEach kws X.env)).any (·.1.isNone)) = false := by rfl) :
    PE X (.Call (.Name x p) (e :: es) kws pos) (tCallK sp gV E0 t tk) := by
  obtain ⟨f, fd, g, F, hm, hk, hb⟩ := L.ex
  exact pe_callK F hr hg hm hk hb pass0 ha hkw hall hks hdb he hpl
end
theorem x_kwx {σ : SS} {H : Hp} {Q : VK} {sp : Sp} {gV : List V → List V → List V} {t tk : TA} (q : t σ H fun vs H1 => tk σ H1 fun zs H2 => sp (gV vs zs) H2 Q E0) : tCallK sp gV E0 t tk σ H Q := q
/-- n by position, then m by name in their order -/
def gApp (n m : Nat) {α : Type} (us ws : List α) : List α := if us.length = n ∧ ws.length = m then us ++ ws else []
/-- n by name, the other way round -/
def gRev (n : Nat) {α : Type} (ws : List α) : List α := if ws.length = n then ws.reverse else []
theorem vals_app {vs zs : List V} {us ws : List Value} (r : Vals vs us) (q : Vals zs ws) : Vals (vs ++ zs) (us ++ ws) := by
  induction r with
  | nil => exact q
  | cons h _ ih => exact .cons h ih
theorem vals_rev {vs : List V} {us : List Value} (r : Vals vs us) : Vals vs.reverse us.reverse := by
  induction r with
  | nil => exact .nil
  | cons h _ ih =>
    rw [List.reverse_cons, List.reverse_cons]
    exact vals_app ih (.cons h .nil)
theorem gApp_rel {n m : Nat} {vs zs : List V} {us ws : List Value} (r : Vals vs us) (q : Vals zs ws) : Vals (gApp n m vs zs) (gApp n m us ws) := by
  unfold gApp
  rw [r.length, q.length]
  split
  · exact vals_app r q
  · exact .nil
theorem gRev_rel {n : Nat} {zs : List V} {ws : List Value} (q : Vals zs ws) : Vals (gRev n zs) (gRev n ws) := by
  unfold gRev
  rw [q.length]
  split
  · exact vals_rev q
  · exact .nil
theorem gApp_to {n m : Nat} {α : Type} {us ws : List α} (h : (gApp n m us ws).length = n + m) (h0 : 0 < n + m) : us.length = n ∧ ws.length = m := by
  unfold gApp at h
  split at h
  · assumption
  · rw [List.length_nil] at h; omega
theorem gRev_to {n : Nat} {α : Type} {ws : List α} (h : (gRev n ws).length = n) (h0 : 0 < n) : ws.length = n := by
  unfold gRev at h
  split at h
  · assumption
  · rw [List.length_nil] at h; omega
theorem len1 {α : Type} {l : List α} (h : l.length = 1) : ∃ a, l = [a] := by
  match l, h with
  | [a], _ => exact ⟨a, rfl⟩
theorem len2 {α : Type} {l : List α} (h : l.length = 2) : ∃ a b, l = [a, b] := by
  match l, h with
  | [a, b], _ => exact ⟨a, b, rfl⟩
theorem len3 {α : Type} {l : List α} (h : l.length = 3) : ∃ a b c, l = [a, b, c] := by
  match l, h with
  | [a, b, c], _ => exact ⟨a, b, c, rfl⟩
theorem len4 {α : Type} {l : List α} (h : l.length = 4) : ∃ a b c d, l = [a, b, c, d] := by
  match l, h with
  | [a, b, c, d], _ => exact ⟨a, b, c, d, rfl⟩
theorem x_rg2 {σ : SS} {H : Hp} {ta tb : TE} {QR : Int → Int → Hp → Prop} (q : ta σ H fun x H1 => tb σ H1 fun y H2 => ∃ n m, x = .int n ∧ y = .int m ∧ QR n m H2) : tRg2 ta tb σ H QR := q
theorem x_int2 {i j : Int} {R : Int → Int → Prop} (q : R i j) : ∃ n m, V.int i = .int n ∧ V.int j = .int m ∧ R n m := ⟨i, j, rfl, rfl, q⟩
theorem x_isIf {c : TT} {s1 s2 s3 : TS} {D : Ends} {σ : SS} {H : Hp} (q : tSeq (tIfS c s1 s2) s3 D σ H) : tSeq (tIfS c s1 s2) s3 D σ H := q

/-! ### own exception classes over any built-in base, whose __init__ stores -/
structure ExB (K : PySem.W.Frag) (C : Addr) (bmB : List Value) (newId : String) : Prop where
  inn : PySem.W.excInitIn K C bmB newId = true
  ov : PySem.W.excOver K C bmB = true
  hd : PySem.W.hasDictIn K C = true
  sa : PySem.W.findIn K (.ref C) "__setattr__" = some (some (.builtin "object.__setattr__"))
  exC : PySem.W.subIn K (.ref C) (.type "BaseException") = some true
  tyC : PySem.W.typeIn K (.ref C) = some (.type "type")
  kC : PySem.W.keepIn K (.ref C) = true
/-- the three bases' facts -/
structure ExF (B newId initId : String) (bmB : List Value) : Prop where
  so : StoreFacts B bmB "object.__setattr__" "object"
  ba : ExcBaseFacts B newId initId bmB
section
variable {X : Cx} {pins : List (Addr × Obj)} {σ : L2.St} {H : Hp} {s : Shared} {a C : Addr} {f : Str} {y : V} {u : Value} {Q : Unit → Shared → Prop} {E : Value → Shared → Prop} {A : Around} {B newId initId : String} {bmB : List Value}
/-- self.f = y, the first store into a new exception -/
theorem stB_new (FB : ExF B newId initId bmB) (T : ExB X.K C bmB newId) (I : Inv X pins σ H s) (e : H a = some (exo a C none)) (hno : PySem.W.takerIn X.K C f = some none) (ry : RelV y u)
    (h : ∀ dx s', H dx = none → dx ≠ a → Inv X pins σ (upd (upd H dx (exd dx [(f, y)])) a (exo a C (some dx))) s' → Q () s') : wpAny (model X.prog X.w) A (setAttr (.ref a) f u) Q E s := by
  obtain ⟨t1, ho⟩ := exo_at I.hok e
  obtain ⟨cd, hc, hdct⟩ := PySem.W.any_some T.hd
  obtain ⟨hp, g, d, t, os⟩ := s
  have lt : a < hp.objs.size := Heap.lt_size ho
  refine PySem.W.set_plain I.kIn (ox := { cls := .ref C, dict := none, data := .fields #[.ref t1, .none, .none, .none, .bool false, .none] }) (od := none) ⟨ho, rfl, rfl, trivial⟩ T.sa ?_
  refine PySem.W.osa_openX (od := none) FB.so I.kIn ⟨ho, rfl, rfl, trivial⟩ T.ov hno fun b => ?_
  refine wpAny_bind (wpAny_pure (wpAny_bind (PySem.W.instanceDict_exc ho (PySem.W.looks_clsIn I.kIn hc) hdct ?_)))
  show wpAny _ _ (Builtin.ObjectAttr.storeInDict hp.objs.size (.str f _) f u) _ _ _
  have hne : a ≠ hp.objs.size := Nat.ne_of_lt lt
  refine PySem.HandSPX.store_in_new ⟨_, #[], _, (Heap.get?_update_ne _ _ _ _ hne.symm).trans (Heap.get?_push_at rfl rfl), rfl, fun e he => absurd he (by simp), fun _ => rfl⟩ fun h' tk' hn' hs => ?_
  have ha1 : (hp.push (PySem.W.dictOf [] 0)).get? a = some { cls := .ref C, dict := none, data := .fields #[.ref t1, .none, .none, .none, .bool false, .none] } := Heap.get?_push_of_some _ ho
  have kp : ∀ b o, b ≠ a → hp.get? b = some o → h'.get? b = some o := fun b o hb q =>
    (hs.2 b (Nat.ne_of_lt (Heap.lt_size q))).trans ((Heap.get?_update_ne _ _ _ _ hb).trans (Heap.get?_push_of_some _ q))
  have hx : h'.get? a = some { cls := .ref C, dict := some hp.objs.size, data := .fields #[.ref t1, .none, .none, .none, .bool false, .none] } := (hs.2 a hne).trans (Heap.get?_update_self _ ha1 rfl)
  have nx : H hp.objs.size = none := I.hok.fresh (Nat.le_refl _)
  have nb : ∀ {b : Addr} {o : Obj}, hp.get? b = some o → b ≠ hp.objs.size := fun q => Nat.ne_of_lt (Heap.lt_size q)
  have na : ∀ {b : Addr}, H b = none → b ≠ a := fun n z => by rw [z, e] at n; cases n
  have two : ∀ {b : Addr} {o : HO}, H b = some o → (exo a C none ≠ o) → upd (upd H hp.objs.size (exd hp.objs.size [(f, y)])) a (exo a C (some hp.objs.size)) b = some o := fun {b o} q n => by
    rw [upd_ne (at_ne e q n), upd_ne (ne_of_none q nx)]
    exact q
  refine h hp.objs.size ⟨h', g, d, tk', os⟩ nx hne.symm (I.un (t' := tk') ⟨fun b o q n _ _ => kp b o (na n) q, fun b o q n _ _ => ⟨o.slots, kp b o (na n) q⟩, fun b o q n _ => by rw [upd_ne (na n), upd_ne (nb q)]; exact n, fun b o q _ => ?_, fun b xs q => two q exo_tup, fun b o v q => two q exo_frz, fun b ps q => ⟨#[], by rw [two q exo_tbl]; simp⟩⟩ fun b o q => ?_)
  · by_cases hb : b = a
    · exact ⟨_, by rw [hb]; exact hx⟩
    · exact ⟨o, kp b o hb q⟩
  · by_cases hb : b = a
    · subst hb
      rw [upd_same] at q
      cases q
      exact exo_ok hx
    · rw [upd_ne hb] at q
      by_cases hd : b = hp.objs.size
      · subst hd
        rw [upd_same] at q
        cases q
        exact exd_ok hn' (relO_put (fs := []) ry fun _ => True.intro)
      · rw [upd_ne hd] at q
        refine (I.hok b o q).stay (fun c v hc z => kp c v ?_ z) (fun c hc => two hc exo_own) fun c xs hc => two hc exo_tup
        rcases hc with hc | hc
        · rw [hc]; exact hb
        · exact at_ne e hc exo_own
end
section
variable {X : Cx} {o e : Expr} {es : List Expr} {to te : TE} {ta : TA} {f : Str} {p p' p1 p2 pos : Pos} {B newId initId : String} {bmB : List Value}
/-- self.f = e -/
def tStB (K : PySem.W.Frag) (bmB : List Value) (newId : String) (f : Str) (to te : TE) : TS := fun D σ H => te σ H fun y H1 => to σ H1 fun x H2 => ∃ a C : Addr, x = .ref a ∧ ExB K C bmB newId ∧ PySem.W.takerIn K C f = some none ∧ H2 a = some (exo a C none) ∧
  ∀ dx, H2 dx = none → dx ≠ a → D.nx σ (upd (upd H2 dx (exd dx [(f, y)])) a (exo a C (some dx)))
theorem ps_stB (FB : ExF B newId initId bmB) (ho : PE X o to) (he : PE X e te) (hs : swapsWith e (some (.Attribute o f p')) pos.line X.env = pure false := by rfl) : PS X (.Assign [.Attribute o f p'] e pos) (tStB X.K bmB newId f to te) := by
  refine ⟨fun pins s σ H D I h => ?_⟩
  refine plainObj_wpAny_Assign_Attribute (thn (he.run pins s σ H _ I h) fun v s1 hv => ?_) hs
  obtain ⟨y, H1, I1, r1, q1⟩ := hv
  refine thn (ho.run pins s1 σ H1 _ I1 q1) fun u s2 hu => ?_
  obtain ⟨x, H2, I2, r2, a, C, rfl, T, hno, ea, q⟩ := hu
  obtain rfl : u = Value.ref a := r2
  exact stB_new FB T I2 ea hno r1 fun dx s' n ne J => ⟨σ, _, J, q dx n ne⟩
/-- C(e, ..): by the promise of its __init__ -/
def tMkB (C : Addr) (sp : Sp) (ta : TA) : L2.St → Hp → XK → Prop := fun σ H Q => ta σ H fun vs H1 => vs.length ≤ 1000 ∧ ∀ a, H1 a = none → sp (.ref a :: vs) (upd H1 a (exo a C none))
  (fun v H2 => v = .non ∧ ∃ (d : Addr) (fs : List (Str × V)), H2 a = some (exo a C (some d)) ∧ H2 d = some (exd d fs) ∧ H1 d = none ∧ Q (.ref C) (some d) (upd (del H2 a) d (.xd fs))) (fun _ _ _ => False)
theorem pmk_B {x : Str} {C fI : Addr} {k : Nat} {fd : FuncData} {ps : List Str} {sp : Sp} (FB : ExF B newId initId bmB) (T : ExB X.K C bmB newId) (iC : PySem.W.findIn X.K (.ref C) "__init__" = some (some (.ref fI))) (tI : PySem.W.typeIn X.K (.ref fI) = some (.type "function"))
    (F1 : FnOk X.prog X.w X.K X.mg X.base CX0 k fI fd ps sp) (hr : Room (k + 1) X.A) (hb : Binds X.K fd ps []) (hg : Gl X x) (hm : X.mg x = some (.ref C)) (ha : PA X (e :: es) ta)
    (hdb : (x == ("__debug__" : Str)) = false := by decide) (he : starEach (e :: es) X.env = (false, eval e X.env) :: starEach es X.env := by rfl) (hpl : (backTo pos (starEach es X.env)).any (·.1) = false := by rfl) :
    PMk X (.Call (.Name x p) (e :: es) [] pos) (tMkB C sp ta) := by
  intro pins s σ H Q I h
  refine wpAny_Call_Name_kw (ld_glob I hg hm ?_ hdb)
  refine PySem.W.callWith_K (h₀ := X.base) I.ok.mod.kin T.kC (thn (ha.run pos pins s σ H _ I h) fun us s1 hu => ?_) he hpl
  obtain ⟨vs, H1, I1, r1, hz, q1⟩ := hu
  refine ⟨I1.kIn, ?_⟩
  show wpAny _ _ (call (.ref C) us) _ _ _
  obtain ⟨nm, N, qn, bs, bm, hdct, sn, sub, ab, col, dd, k0, k1, k2, k3, k5, hC, hT⟩ := PySem.W.excInit_of I1.kIn T.inn
  obtain ⟨hp, g, dr, tk, os⟩ := s1
  have up1 : hp.objs.size ≤ hp.objs.size + 1 := Nat.le_succ _
  have hq := q1 (hp.objs.size + 1) (I1.hok.fresh up1)
  have keep2 : ∀ b o, hp.get? b = some o → ((hp.push (PySem.W.kdv_tup us)).push (PySem.HandSPX.excO C hp.objs.size)).get? b = some o := fun b o q => Heap.get?_push_of_some _ (Heap.get?_push_of_some _ q)
  have at2 : ((hp.push (PySem.W.kdv_tup us)).push (PySem.HandSPX.excO C hp.objs.size)).get? (hp.objs.size + 1) = some (PySem.HandSPX.excO C hp.objs.size) := by heap_get
  have I2 : Inv X pins σ (upd H1 (hp.objs.size + 1) (exo (hp.objs.size + 1) C none)) ⟨(hp.push (PySem.W.kdv_tup us)).push (PySem.HandSPX.excO C hp.objs.size), g, dr, tk, os⟩ :=
    I1.laid (t' := tk) (a := hp.objs.size + 1) (o := exo (hp.objs.size + 1) C none) keep2 up1 (exo_ok at2)
  have r2 : Vals (V.ref (hp.objs.size + 1) :: vs) (Value.ref (hp.objs.size + 1) :: us) := .cons rfl r1
  have hl : (Value.ref (hp.objs.size + 1) :: us).length = ps.length := r2.length ▸ F1.len _ _ _ _ hq
  have hb' := hb ⟨(hp.push (PySem.W.kdv_tup us)).push (PySem.HandSPX.excO C hp.objs.size), g, dr, tk, os⟩ (Value.ref (hp.objs.size + 1) :: us) I2.kIn (by simpa using hl)
  simp only [List.append_nil] at hb'
  have hus : us.length ≤ sizeLine := by
    rw [← Paired.length r1, sizeLine_eq]
    omega
  refine wpAny_call (PySem.HandSPX.call_own FB.ba hT hC (PySem.W.looks_findIn I1.kIn iC) (fun self => PySem.W.bind_fn I1.kIn self tI) hus (codeAny_mono (F1.run _ X.stack _ _ ⟨Value.ref (hp.objs.size + 1) :: us, []⟩ _ _ _ (fun _ _ _ => False) (hr.make C us []) (I2.env0.make C us []) hb' r2 hq) fun r s' hq' => ?_))
  match r, hq' with
  | .ok (.ret u), hq' =>
    obtain ⟨v, H2, os2, bare2, un2, hok2, rv, rfl, d, fs, ea, ed, hd1, q2⟩ := hq'
    obtain ⟨h2, g2, d2, t2, os'⟩ := s'
    exact ⟨rv, mk_end (raises_own T.exC T.tyC) I1 up1 keep2 un2 hok2 os2 bare2 ea ed hd1 q2⟩
  | .ok .next, hq' => exact hq'.elim
  | .ok .brk, hq' => exact hq'.elim
  | .ok .cont, hq' => exact hq'.elim
  | .error e, hq' => exact hq'.elim
end

abbrev bmVE : List Value := [.type "ValueError", .type "Exception", .type "BaseException", .type "object"]
abbrev bmLE : List Value := [.type "LookupError", .type "Exception", .type "BaseException", .type "object"]
theorem exF_VE : ExF "ValueError" "ValueError.__new__" "ValueError.__init__" bmVE := ⟨PySem.F.store_ValueError, PySem.F.excBase_ValueError⟩
theorem exF_LE : ExF "LookupError" "LookupError.__new__" "LookupError.__init__" bmLE := ⟨PySem.F.store_LookupError, PySem.F.excBase_LookupError⟩
/-! ### calls that may raise -/
section
variable {X : Cx} {k : Nat} {ps ks : List Str} {sp : Sp} {x : Str} {p pos : Pos} {e : Expr} {es : List Expr} {t tk : TA} {kws : List Keyword} {W : WX}
theorem runE {pins : List (Addr × Obj)} {σ : L2.St} {H : Hp} {s : Shared} {Q : VK} {f : Addr} {fd : FuncData} {us : List Value} {kw : List (Str × Value)} {vs : List V} {ws : List Value}
    (F : FnOk X.prog X.w X.K X.mg X.base (L2.CX X.prog X.w) k f fd ps sp) (hr : Room k X.A) (hb : BindsTo s fd ⟨us, kw⟩ (ps.zip ws)) (I : Inv X pins σ H s) (r : Vals vs ws) (tk : Takes X W) (h : sp vs H Q (WE W σ)) :
    wpAny (model X.prog X.w) X.A (call (.ref f) us kw) (EP X pins σ Q) X.xe s := by
  refine wpAny_call (codeAny_mono (F.run X.A X.stack s H ⟨us, kw⟩ ws vs Q (WE W σ) hr I.env0 hb r h) fun r s' hq => ?_)
  match r, hq with
  | .ok (.ret u), hq => exact I.after hq
  | .ok .next, hq => exact hq.elim
  | .ok .brk, hq => exact hq.elim
  | .ok .cont, hq => exact hq.elim
  | .error e, hq => exact passAt tk σ pins H s e s' I hq
/-- a callee that may raise -/
structure LoX (P : Program) (w : World) (K : PySem.W.Frag) (mg : Str → Option Value) (base : Heap) (x : Str) (k : Nat) (ps : List Str) (sp : Sp) : Prop where
  ex : ∃ (f : Addr) (fd : FuncData), FnOk P w K mg base (L2.CX P w) k f fd ps sp ∧ mg x = some (.ref f) ∧ PySem.W.keepIn K (.ref f) = true ∧ Binds K fd ps []
structure LkxX (P : Program) (w : World) (K : PySem.W.Frag) (mg : Str → Option Value) (base : Heap) (x : Str) (k : Nat) (ps ks : List Str) (gV : List V → List V → List V) (sp : Sp) : Prop where
  ex : ∃ (f : Addr) (fd : FuncData) (g : List Value → List Value → List Value), FnOk P w K mg base (L2.CX P w) k f fd ps sp ∧ mg x = some (.ref f) ∧ PySem.W.keepIn K (.ref f) = true ∧ KBinds K fd ps ks g gV
structure LkwX (P : Program) (w : World) (K : PySem.W.Frag) (mg : Str → Option Value) (base : Heap) (x : Str) (k : Nat) (ps ks : List Str) (gV : List V → List V) (sp : Sp) : Prop where
  ex : ∃ (f : Addr) (fd : FuncData) (g : List Value → List Value), FnOk P w K mg base (L2.CX P w) k f fd ps sp ∧ mg x = some (.ref f) ∧ PySem.W.keepIn K (.ref f) = true ∧ KB K fd ps ks g gV
def tCallW (sp : Sp) (W : WX) (t : TA) : TE := fun σ H Q => t σ H fun vs H1 => sp vs H1 Q (WE W σ)
def tCallKW (sp : Sp) (gV : List V → List V → List V) (W : WX) (t tk : TA) : TE := fun σ H Q => t σ H fun vs H1 => tk σ H1 fun zs H2 => sp (gV vs zs) H2 Q (WE W σ)
def tCallNW (sp : Sp) (gV : List V → List V) (W : WX) (tk : TA) : TE := fun σ H Q => tk σ H fun zs H1 => sp (gV zs) H1 Q (WE W σ)
theorem pe_loX (L : LoX X.prog X.w X.K X.mg X.base x k ps sp) (tw : Takes X W) (hr : Room k X.A) (hg : Gl X x) (ha : PA X (e :: es) t)
    (hdb : (x == ("__debug__" : Str)) = false := by decide) (he : starEach (e :: es) X.env = (false, eval e X.env) :: starEach es X.env := by rfl) (hpl : (backTo pos (starEach es X.env)).any (·.1) = false := by rfl) :
    PE X (.Call (.Name x p) (e :: es) [] pos) (tCallW sp W t) := by
  obtain ⟨f, fd, F, hm, hk, hb⟩ := L.ex
  refine ⟨fun pins s σ H Q I h => ?_⟩
  refine wpAny_Call_Name_kw (ld_glob I hg hm ?_ hdb)
  refine PySem.W.callWith_K (h₀ := X.base) I.ok.mod.kin hk (thn (ha.run pos pins s σ H _ I h) fun us s1 hu => ?_) he hpl
  obtain ⟨vs, H1, I1, r, q⟩ := hu
  have hb1 := hb s1 us I1.kIn (by have := r.length ▸ F.len _ _ _ _ q; simpa using this)
  simp only [List.append_nil] at hb1
  exact ⟨I1.kIn, runE F hr hb1 I1 r tw q⟩
theorem pe_lkxX {gV : List V → List V → List V} (L : LkxX X.prog X.w X.K X.mg X.base x k ps ks gV sp) (tw : Takes X W) (hr : Room k X.A) (hg : Gl X x) (ha : PA X (e :: es) t) (hkw : PK X kws tk)
    (hall : (backToKw pos (keywordEach kws X.env)).all (·.1.isSome) = true := by rfl) (hks : (backToKw pos (keywordEach kws X.env)).filterMap (·.1) = ks := by rfl)
    (hdb : (x == ("__debug__" : Str)) = false := by decide) (he : starEach (e :: es) X.env = (false, eval e X.env) :: starEach es X.env := by rfl)
    (hpl : ((backTo pos (starEach (e :: es) X.env)).any (·.1) || (backToKw pos (keywordEach kws X.env)).any (·.1.isNone)) = false := by rfl) :
    PE X (.Call (.Name x p) (e :: es) kws pos) (tCallKW sp gV W t tk) := by
  obtain ⟨f, fd, g, F, hm, hk, hb⟩ := L.ex
  refine ⟨fun pins s σ H Q I h => ?_⟩
  refine wpAny_Call_Name_kw (ld_glob I hg hm ?_ hdb)
  refine PySem.W.callWith_KW (h₀ := X.base) I.ok.mod.kin hk hall (thn (ha.run pos pins s σ H _ I h) fun us s1 hu => ?_) hpl he
  obtain ⟨vs, H1, I1, r, q⟩ := hu
  refine thn (hkw.run pos pins s1 σ H1 _ I1 q) fun ws s2 hw => ?_
  obtain ⟨zs, H2, I2, rz, q2⟩ := hw
  refine ⟨I2.kIn, ?_⟩
  rw [hks]
  have r2 := hb.rel r rz
  exact runE F hr (hb.to s2 us ws I2.kIn (r2.length ▸ F.len _ _ _ _ q2)) I2 r2 tw q2
theorem pe_lkwX {gV : List V → List V} (L : LkwX X.prog X.w X.K X.mg X.base x k ps ks gV sp) (tw : Takes X W) (hr : Room k X.A) (hg : Gl X x) (hkw : PK X kws tk)
    (hall : (backToKw pos (keywordEach kws X.env)).all (·.1.isSome) = true := by rfl) (hks : (backToKw pos (keywordEach kws X.env)).filterMap (·.1) = ks := by rfl)
    (hdb : (x == ("__debug__" : Str)) = false := by decide)
    (hpl : ((backTo pos (starEach [] X.env)).any (·.1) || (backToKw pos (keywordEach kws X.env)).any (·.1.isNone)) = false := by rfl) :
    PE X (.Call (.Name x p) [] kws pos) (tCallNW sp gV W tk) := by
  obtain ⟨f, fd, g, F, hm, hk, hb⟩ := L.ex
  refine ⟨fun pins s σ H Q I h => ?_⟩
  refine wpAny_Call_Name_kw (ld_glob I hg hm ?_ hdb)
  refine PySem.W.callWith_KW0 (h₀ := X.base) I.ok.mod.kin hk hall ?_ hpl
  refine thn (hkw.run pos pins s σ H _ I h) fun ws s2 hw => ?_
  obtain ⟨zs, H2, I2, rz, q2⟩ := hw
  refine ⟨I2.kIn, ?_⟩
  rw [hks]
  have r2 := hb.rel rz
  exact runE F hr (hb.to s2 ws I2.kIn (r2.length ▸ F.len _ _ _ _ q2)) I2 r2 tw q2
end
theorem x_cW {σ : SS} {H : Hp} {Q : VK} {sp : Sp} {W : WX} {t : TA} (q : t σ H fun vs H1 => sp vs H1 Q (WE W σ)) : tCallW sp W t σ H Q := q
theorem x_cKW {σ : SS} {H : Hp} {Q : VK} {sp : Sp} {W : WX} {gV : List V → List V → List V} {t tk : TA} (q : t σ H fun vs H1 => tk σ H1 fun zs H2 => sp (gV vs zs) H2 Q (WE W σ)) : tCallKW sp gV W t tk σ H Q := q
theorem x_cNW {σ : SS} {H : Hp} {Q : VK} {sp : Sp} {W : WX} {gV : List V → List V} {tk : TA} (q : tk σ H fun zs H1 => sp (gV zs) H1 Q (WE W σ)) : tCallNW sp gV W tk σ H Q := q
/-! ### a caught exception as an object of the heap -/
def exk (a : Addr) (cls : Value) (d : Option Addr) : HO := .ext fun h => ∃ (oe : Obj) (vs : Array Value), h.get? a = some oe ∧ Zc cls d oe ∧ oe.data = .fields vs
theorem exk_ok {P : Program} {w : World} {H : Hp} {h : Heap} {a : Addr} {cls : Value} {d : Option Addr} {oe : Obj} {vs : Array Value} (e : h.get? a = some oe) (z : Zc cls d oe) (dt : oe.data = .fields vs) : ObjOk P w H h a (exk a cls d) :=
  ⟨⟨oe, vs, e, z, dt⟩, ⟨oe, e⟩, fun h1 h2 y k => by
    obtain ⟨oe, vs, e, z, dt⟩ := y
    exact ⟨oe, vs, k _ e, z, dt⟩⟩
theorem exk_at {P : Program} {w : World} {H : Hp} {h : Heap} {a : Addr} {cls : Value} {d : Option Addr} (hok : HOk P w H h) (e : H a = some (exk a cls d)) : ∃ (oe : Obj) (vs : Array Value), h.get? a = some oe ∧ Zc cls d oe ∧ oe.data = .fields vs := by
  have x : ObjOk P w H h a (.ext fun h => ∃ (oe : Obj) (vs : Array Value), h.get? a = some oe ∧ Zc cls d oe ∧ oe.data = .fields vs) := hok a _ e
  exact x.1
section
variable {X : Cx} {pins : List (Addr × Obj)} {σ : L2.St} {H : Hp} {s : Shared}
/-- what stands in the heap beside ours is taken among ours -/
theorem Inv.track {a : Addr} {oe : Obj} {vs : Array Value} {cls : Value} {d : Option Addr} (I : Inv X pins σ H s) (e : s.heap.get? a = some oe) (z : Zc cls d oe) (dt : oe.data = .fields vs) (hn : H a = none) (nL : a ≠ X.env.locals) (n0 : X.s_0.heap.get? a = none)
    (np : ∀ p ∈ X.pn ++ pins, p.1 ≠ a) : Inv X pins σ (upd H a (exk a cls d)) s := by
  refine ⟨I.ok, I.os, I.bare, ⟨I.base.keep, I.base.slot, fun b o q n x => ?_, I.base.there, fun b xs q => ?_, fun b o xs q => ?_, fun b ps q => ?_⟩, I.loc, I.cell, ?_, fun x c q => ?_, fun p hp => ?_, ?_, I.len⟩
  · rw [upd_ne (fun y => by rw [y, n0] at q; cases q)]
    exact I.base.free b o q n x
  · have := I.base.tups b xs q
    rw [upd_ne (ne_of_none this hn)]
    exact this
  · have := I.base.frzs b o xs q
    rw [upd_ne (ne_of_none this hn)]
    exact this
  · obtain ⟨more, h⟩ := I.base.tbls b ps q
    exact ⟨more, by rw [upd_ne (ne_of_none h hn)]; exact h⟩
  · rw [upd_ne nL.symm]
    exact I.free
  · obtain ⟨v, hc⟩ := I.cell x c q
    have : c ≠ a := fun y => by
      obtain ⟨o, h1, h2⟩ := hc
      rw [y, e] at h1
      cases h1
      rw [dt] at h2
      cases h2
    rw [upd_ne this]
    exact I.freeC x c q
  · obtain ⟨h1, h2, h3⟩ := I.pin p hp
    exact ⟨h1, by rw [upd_ne (np p hp)]; exact h2, h3⟩
  · exact HOk.laidN I.hok (fun _ _ q => q) hn (exk_ok e z dt)
end

/-! ### try: body, except c as n: suite; behind it the exception stands among ours -/
/-- the clause takes it; behind a suite that runs through, the exception at a is kept -/
def wKp (K : PySem.W.Frag) (c : Value) (i : Nat) (ts : Addr → Value → Option Addr → TS) (D : Ends) : WX := fun cls d σ H =>
  PySem.W.exmOne K cls c = some true ∧ ∀ a, H a = none → ts a cls d { nx := fun σ' H' => D.nx (σ'.set i none) (upd H' a (exk a cls d)), rt := D.rt, bk := fun σ' H' => D.bk (σ'.set i none) H', ct := fun σ' H' => D.ct (σ'.set i none) H' } (σ.set i (some (.ref a))) H
section
variable {X : Cx} {x n : Str} {c : Value} {i : Nat} {body suite : List Stmt} {b₀ : Stmt} {np pos pos' : Pos} {tb : WX → TS} {ts : Addr → Value → Option Addr → TS}
theorem ps_try_kp (hs : X.stack = X.env :: X.outer) (hf : X.env.frame = some X.env.locals) (hx : X.ex = []) (hN : X.N.Nodup) (hi : X.N[i]? = some n) (hln : X.env.kindOf n = some .local) (hc : Names X x c)
    (hb : ∀ (W : WX) (pn : List (Addr × Obj)) (xe : Value → Shared → Prop), Takes (X.tr pn xe) W → PassesOwn (model X.prog X.w) X.A X.env xe → PSs (X.tr pn xe) body (tb W))
    (hsu : ∀ (a : Addr) (oe : Obj) (cls : Value) (d : Option Addr) (pn : List (Addr × Obj)), Zc cls d oe → (∃ vs, oe.data = .fields vs) → PSs (X.suite a ((a, oe) :: pn)) (b₀ :: suite) (ts a cls d)) :
    PS X (.Try body [.ExceptHandler (some (.Name x np)) (some n) (b₀ :: suite) pos'] [] [] pos) (fun D σ H => tb (wKp X.K c i ts D) D σ H) := by
  refine ⟨fun pins s σ H D I h => ?_⟩
  have okX := I.ok
  have frm : X.A.frames = some (X.env :: X.outer) := hs ▸ okX.frames
  refine wpAny_Try_except (wpAny_mono ((hb (wKp X.K c i ts D) (X.pn ++ pins)
    (fun v t => wpAny (model X.prog X.w) X.A (noteFrame v X.env) (fun _ t1 => wpAny (model X.prog X.w) X.A (setFlight v none)
      (fun _ t2 => wpAny (model X.prog X.w) X.A (handleBy v X.env [.ExceptHandler (some (.Name x np)) (some n) (b₀ :: suite) pos']) (SP X pins D) X.xe t2) X.xe t1) X.xe t)
    (fun v t air => ?air) PassesOwn.looking).run [] s σ H D (I.toTry _) h) (fun fl t q => ?thru) fun _ _ z => z)
  case thru =>
    cases fl with
    | next =>
      obtain ⟨σ1, H1, J, q⟩ := q
      exact wpAny_execs_nil ⟨σ1, H1, J.ofTry okX, q⟩
    | ret v =>
      obtain ⟨v1, σ1, H1, J, r, q⟩ := q
      exact ⟨v1, σ1, H1, J.ofTry okX, r, q⟩
    | brk =>
      obtain ⟨σ1, H1, J, q⟩ := q
      exact ⟨σ1, H1, J.ofTry okX, q⟩
    | cont =>
      obtain ⟨σ1, H1, J, q⟩ := q
      exact ⟨σ1, H1, J.ofTry okX, q⟩
  case air =>
    obtain ⟨a, B, sI, pins1, σ1, H1, cls, d, rfl, J0, nb, up, sky, na, os, ag, hm, hyes⟩ := air
    have J : Inv X pins σ1 H1 sI := J0.ofTry okX
    have sky1 : Sky B (X.env :: X.outer) a (Zc cls d) X.env.locals t.heap := hs ▸ sky
    refine Sky.land Zc.steady frm hf sky1 fun h3 fl3 up3 => ?_
    have J3 : Inv X pins σ1 H1 { t with heap := h3 } := J.landed nb fl3.1 (up.trans up3) os ag
    obtain ⟨oe3, vs3, he3, hz3, hd3⟩ := fl3.there
    have off : ∀ {hh : Heap} {o : Obj} {vs : Array Value}, hh.FunFrames B (X.env :: X.outer) → hh.get? a = some o → o.data = .fields vs → a ∉ frs (X.env :: X.outer) := fun ff e1 e2 hm => by
      obtain ⟨_, o', e3, nf⟩ := ff.mem hm
      rw [e1] at e3
      cases e3
      exact nf _ e2
    have offS := off fl3.2.2.1 he3 hd3
    have nL : a ≠ X.env.locals := fun y => offS (List.mem_filterMap.mpr ⟨X.env, List.mem_cons_self, by rw [hf, y]⟩)
    have nF : a ∉ X.fs := fun hm => by
      obtain ⟨e1, m1, m2⟩ := List.mem_filterMap.mp hm
      exact offS (List.mem_filterMap.mpr ⟨e1, List.mem_cons_of_mem _ m1, m2⟩)
    -- it is new since the entry
    have newI : sI.heap.get? a = none := by
      cases q : sI.heap.get? a with
      | none => rfl
      | some o =>
        have := nb a o q (hs ▸ offS)
        rw [fl3.2.1] at this
        cases this
    have new0 : X.s_0.heap.get? a = none := by
      cases q : X.s_0.heap.get? a with
      | none => rfl
      | some o =>
        obtain ⟨o', q'⟩ := J.base.there a o q (by rw [hx]; simp)
        rw [newI] at q'
        cases q'
    have newP : ∀ p ∈ X.pn ++ pins, p.1 ≠ a := fun p hp y => by
      have := (J.pin p hp).1
      rw [y, newI] at this
      cases this
    have S3 := J3.suite he3 hd3 na nL nF
    refine wpAny_handleBy_cons (codeAny_handlers_test ?_) (by intro q; cases q)
    have look : PySem.W.Looks (model X.prog X.w) h3 (typeOf (.ref a)) cls := fun _ _ _ _ k q => wpAny_typeOf_ref (k _ _ he3) (hz3.1 ▸ q)
    have LM := PySem.W.exm_one (M := model X.prog X.w) J3.kIn look hm
    have name : ∀ {Q : Value → Shared → Prop} {E : Value → Shared → Prop}, Q c { t with heap := h3 } → wpAny (model X.prog X.w) (X.A.mark (some (.ref a))) (eval (.Name x np) X.env) Q E { t with heap := h3 } := fun q => by
      obtain ⟨g1, g2, g3 | ⟨g3, g4, g5⟩⟩ := hc
      · exact ld_glob (X := X.suite a ((a, oe3) :: (X.pn ++ pins))) S3 g1 g3 q g2
      · exact ld_blt (X := X.suite a ((a, oe3) :: (X.pn ++ pins))) S3 g1 g3 g4 q g5 g2
    refine name (LM.here (codeAny_handlers_suite_as (HandSPX.lands_againZ fl3 fun h4 fl4 up4 => ?_)))
    have J4 : Inv X pins σ1 H1 { t with heap := h4 } := J.landed nb fl4.1 ((up.trans up3).trans up4) os ag
    obtain ⟨oe4, vs4, he4, hz4, hd4⟩ := fl4.there
    have S4 := J4.suite he4 hd4 na nL nF
    refine store_ok (X := X.suite a ((a, oe4) :: (X.pn ++ pins))) (v := .ref a) S4 hN hi (.inl hln) rfl (fun s5 S5 => ?_) (.inr hln)
    refine wpAny_mono ((hsu a oe4 cls d (X.pn ++ pins) hz4 ⟨_, hd4⟩).run [] s5 _ H1 _ S5 (hyes a na)) (fun fl s6 q => ?_) (fun _ _ z => z.elim)
    have leave : ∀ {σ6 : L2.St} {H6 : Hp} {Q : Shared → Prop}, Inv (X.suite a ((a, oe4) :: (X.pn ++ pins))) [] σ6 H6 s6 → (∀ s7, Inv (X.suite a ((a, oe4) :: (X.pn ++ pins))) [] (σ6.set i none) H6 s7 → Q s7) →
        wpAny (model X.prog X.w) X.A (do bindName X.env n .none; unbindBehindTheSuite X.env n pos') (fun _ s7 => Q s7) X.xe s6 := fun S6 g => gone_ok (X := X.suite a ((a, oe4) :: (X.pn ++ pins))) S6 hN hi hln g
    cases fl with
    | next =>
      obtain ⟨σ6, H6, S6, q6⟩ := q
      refine leave S6 fun s7 S7 => ⟨_, _, ?_, q6⟩
      obtain ⟨p1, p2, p3, _⟩ := S7.pin (a, oe4) (List.mem_append_left _ List.mem_cons_self)
      exact Inv.track (S7.unsuite okX) p1 hz4 hd4 p2 nL new0 newP
    | brk =>
      obtain ⟨σ6, H6, S6, q6⟩ := q
      exact leave S6 fun s7 S7 => ⟨_, _, S7.unsuite okX, q6⟩
    | cont =>
      obtain ⟨σ6, H6, S6, q6⟩ := q
      exact leave S6 fun s7 S7 => ⟨_, _, S7.unsuite okX, q6⟩
    | ret u =>
      obtain ⟨v6, σ6, H6, S6, r6, q6⟩ := q
      exact leave S6 fun s7 S7 => ⟨_, _, _, S7.unsuite okX, r6, q6⟩
end
/-! ### what is asked of a kept exception -/
section
variable {X : Cx}
theorem dict_there {pins : List (Addr × Obj)} {σ : L2.St} {H : Hp} {s : Shared} {dd : Addr} {fs : List (Str × V)} (I : Inv X pins σ H s) (e : H dd = some (.xd fs)) : ∃ (od : Obj) (mA : Str → Option Value), s.heap.Ns1 dd mA ∧ (∀ f, RelO (fs.lookup f) (mA f)) ∧ s.heap.get? dd = some od := by
  have hx : ObjOk X.prog X.w H s.heap dd (.xd fs) := I.hok dd _ e
  obtain ⟨mA, hns, hr⟩ := hx
  obtain ⟨od, ho, _⟩ := lookIn_ns hns
  exact ⟨od, mA, hns, hr, ho⟩
/-- e.f of a kept exception -/
def tXk (K : PySem.W.Frag) (f : Str) (te : TE) : TE := fun σ H Q => te σ H fun x H1 => ∃ (a C dd : Addr) (fs : List (Str × V)) (v : V), x = .ref a ∧ XfC K C ∧ PySem.W.findIn K (.ref C) f = some none ∧ H1 a = some (exk a (.ref C) (some dd)) ∧ H1 dd = some (.xd fs) ∧ fs.lookup f = some v ∧ Q v H1
theorem pe_xk {e : Expr} {te : TE} {pos : Pos} {f : Str} (he : PE X e te) (hb : attributeBase e f X.env (eval e X.env) = eval e X.env := by rfl) : PE X (.Attribute e f pos) (tXk X.K f te) := by
  refine ⟨fun pins s σ H Q I h => ?_⟩
  refine attr_of hb (thn (he.run pins s σ H _ I h) fun u s1 hu => ?_)
  obtain ⟨x, H1, I1, rx, a, C, dd, fs, v, rfl, T, hno, ea, ed, l, q⟩ := hu
  obtain rfl : u = Value.ref a := rx
  obtain ⟨oe, vs, h1, h2, h3⟩ := exk_at I1.hok ea
  have hx : ObjOk X.prog X.w H1 s1.heap dd (.xd fs) := I1.hok dd _ ed
  obtain ⟨mA, hns, hr⟩ := hx
  obtain ⟨od, ho, hl⟩ := lookIn_ns hns
  obtain ⟨u, hu, ru⟩ := RelO.some_of (v := v) (o := mA f) (by rw [← l]; exact hr f)
  have J : PySem.W.InstAt s1.heap a oe C (some od) := ⟨h1, h2.1, by unfold PySem.W.notCls; rw [h3] <;> rfl, by rw [h2.2]; exact ho⟩
  exact HandSPX.exc_get I1.kIn J T.ga T.gg T.exC (PySem.W.findObj_own T.hdC hno rfl (by rw [hl, hu])) (handed_of ru) ⟨v, H1, I1.tok _, ru, q⟩
theorem x_xk {K : PySem.W.Frag} {σ : SS} {H : Hp} {Q : VK} {f : Str} {te : TE} (q : te σ H fun x H1 => ∃ (a C dd : Addr) (fs : List (Str × V)) (v : V), x = .ref a ∧ XfC K C ∧ PySem.W.findIn K (.ref C) f = some none ∧ H1 a = some (exk a (.ref C) (some dd)) ∧ H1 dd = some (.xd fs) ∧ fs.lookup f = some v ∧ Q v H1) : tXk K f te σ H Q := q
/-- isinstance(e, c), e a kept exception, c a class or a tuple of classes -/
def rIsK (K : PySem.W.Frag) : List V → Hp → VK → Prop := fun xs H Q => ∃ (a D dd : Addr) (fs : List (Str × V)) (c : V) (b : Bool), xs = [.ref a, c] ∧ ExcC K D ∧ H a = some (exk a (.ref D) (some dd)) ∧ H dd = some (.xd fs) ∧
  ((∃ cv, (∀ u, RelV c u → u = cv) ∧ PySem.W.kitOne K (.ref D) cv = some b) ∨ ∃ (t : Addr) (cs : List V) (cvs : List Value), c = .ref t ∧ SqT K H t cs ∧ (∀ us, Vals cs us → us = cvs) ∧ PySem.W.kitAny K (.ref D) cvs = some b) ∧ Q (.bl b) H
theorem call_isK : CallR X (.builtin "isinstance") (rIsK X.K) := by
  intro pins s σ H xs us Q I r h
  obtain ⟨a, D, dd, fs, c, b, rfl, C, ea, ed, hcls, q⟩ := h
  obtain ⟨u, w', rfl, ru, rw'⟩ := vals2 r
  obtain rfl : u = Value.ref a := ru
  obtain ⟨oe, vs, h1, h2, h3⟩ := exk_at I.hok ea
  obtain ⟨od, mA, _, _, ho⟩ := dict_there I ed
  have J : PySem.W.InstAt s.heap a oe D (some od) := ⟨h1, h2.1, by unfold PySem.W.notCls; rw [h3] <;> rfl, by rw [h2.2]; exact ho⟩
  have hcl : (PySem.W.clsIn X.K D).isSome = true := by
    obtain ⟨cd, hc, _⟩ := PySem.W.any_some C.hd
    rw [hc]; rfl
  rcases hcls with ⟨cv, hcv, e⟩ | ⟨t, cs, cvs, rfl, et, hcs, e⟩
  · have := hcv _ rw'
    subst this
    exact PySem.W.kia_one (PySem.W.kitx_exc hcl C.hg C.hk C.hs C.ha C.hn C.ht C.hm) I.kIn J e (fun z => nomatch z) fun tk => ⟨.bl b, H, I.kept (t' := tk) fun _ _ z => z, rfl, q⟩
  · obtain ⟨its, rv, ⟨o, ho2, hc2, n, hd2⟩, _⟩ := I.tuple et
    have := hcs _ rv
    subst this
    obtain rfl : w' = Value.ref t := rw'
    obtain ⟨cl, di, da, sl⟩ := o
    replace hc2 : cl = _ := hc2
    replace hd2 : da = _ := hd2
    subst hc2 hd2
    exact PySem.W.kia_tup (PySem.W.kitx_exc hcl C.hg C.hk C.hs C.ha C.hn C.ht C.hm) I.kIn J ho2 e (fun z => nomatch z) fun tk => ⟨.bl b, H, I.kept (t' := tk) fun _ _ z => z, rfl, q⟩
theorem x_isK1 {K : PySem.W.Frag} {H : Hp} {Q : VK} {a D dd : Addr} {fs : List (Str × V)} {c : V} {cv : Value} {b : Bool} (C : ExcC K D) (ea : H a = some (exk a (.ref D) (some dd))) (ed : H dd = some (.xd fs)) (hc : ∀ u, RelV c u → u = cv) (e : PySem.W.kitOne K (.ref D) cv = some b) (q : Q (.bl b) H) : rIsK K [.ref a, c] H Q :=
  ⟨a, D, dd, fs, c, b, rfl, C, ea, ed, .inl ⟨cv, hc, e⟩, q⟩
theorem x_isKT {K : PySem.W.Frag} {H : Hp} {Q : VK} {a D dd t : Addr} {fs : List (Str × V)} {cs : List V} {cvs : List Value} {b : Bool} (C : ExcC K D) (ea : H a = some (exk a (.ref D) (some dd))) (ed : H dd = some (.xd fs)) (et : SqT K H t cs) (hc : ∀ us, Vals cs us → us = cvs) (e : PySem.W.kitAny K (.ref D) cvs = some b) (q : Q (.bl b) H) : rIsK K [.ref a, .ref t] H Q :=
  ⟨a, D, dd, fs, .ref t, b, rfl, C, ea, ed, .inr ⟨t, cs, cvs, rfl, et, hc, e⟩, q⟩
end

/-! ### an own exception class, called -/
structure LxB (P : Program) (w : World) (K : PySem.W.Frag) (mg : Str → Option Value) (base : Heap) (x : Str) (C : Addr) (k : Nat) (ps : List Str) (sp : Sp) (bmB : List Value) (newId : String) : Prop where
  fb : ∃ B initId, ExF B newId initId bmB
  t : ExB K C bmB newId
  ex : ∃ (fI : Addr) (fd : FuncData), FnOk P w K mg base CX0 k fI fd ps sp ∧ PySem.W.findIn K (.ref C) "__init__" = some (some (.ref fI)) ∧ PySem.W.typeIn K (.ref fI) = some (.type "function") ∧ Binds K fd ps []
  hm : mg x = some (.ref C)
section
variable {X : Cx} {e : Expr} {es : List Expr} {ta : TA} {p pos : Pos} {newId : String} {bmB : List Value}
theorem pmk_lx {x : Str} {C : Addr} {k : Nat} {ps : List Str} {sp : Sp} (L : LxB X.prog X.w X.K X.mg X.base x C k ps sp bmB newId) (hr : Room (k + 1) X.A) (hg : Gl X x) (ha : PA X (e :: es) ta)
    (hdb : (x == ("__debug__" : Str)) = false := by decide) (he : starEach (e :: es) X.env = (false, eval e X.env) :: starEach es X.env := by rfl) (hpl : (backTo pos (starEach es X.env)).any (·.1) = false := by rfl) :
    PMk X (.Call (.Name x p) (e :: es) [] pos) (tMkB C sp ta) := by
  obtain ⟨B, initId, FB⟩ := L.fb
  obtain ⟨fI, fd, F1, iC, tI, hb⟩ := L.ex
  exact pmk_B FB L.t iC tI F1 hr hb hg L.hm ha hdb he hpl
/-- an __init__ that keeps one thing -/
def spI1 (C : Addr) (f : Str) : Sp := fun vs H Q _ => ∃ (a : Addr) (v : V), vs = [.ref a, v] ∧ H a = some (exo a C none) ∧ ∀ dx, H dx = none → dx ≠ a → Q .non (upd (upd H dx (exd dx [(f, v)])) a (exo a C (some dx)))
theorem x_mk {C : Addr} {sp : Sp} {ta : TA} {σ : L2.St} {H : Hp} {Q : XK} (q : ta σ H fun vs H1 => vs.length ≤ 1000 ∧ ∀ a, H1 a = none → sp (.ref a :: vs) (upd H1 a (exo a C none))
  (fun v H2 => v = .non ∧ ∃ (d : Addr) (fs : List (Str × V)), H2 a = some (exo a C (some d)) ∧ H2 d = some (exd d fs) ∧ H1 d = none ∧ Q (.ref C) (some d) (upd (del H2 a) d (.xd fs))) (fun _ _ _ => False)) : tMkB C sp ta σ H Q := q
theorem x_mkE {C : Addr} {f : Str} {v : V} {H1 : Hp} {Q : XK} (q : ∀ d H', H1 d = none → H' d = some (.xd [(f, v)]) → Kx [] H1 H' → Q (.ref C) (some d) H') : [v].length ≤ 1000 ∧ ∀ a, H1 a = none → spI1 C f (.ref a :: [v]) (upd H1 a (exo a C none))
  (fun u H2 => u = .non ∧ ∃ (d : Addr) (fs : List (Str × V)), H2 a = some (exo a C (some d)) ∧ H2 d = some (exd d fs) ∧ H1 d = none ∧ Q (.ref C) (some d) (upd (del H2 a) d (.xd fs))) (fun _ _ _ => False) := by
  refine ⟨by simp, fun a ha => ⟨a, v, rfl, upd_same, fun dx hd hne => ⟨rfl, dx, _, upd_same, (upd_ne hne).trans upd_same, ?_, q dx _ ?_ upd_same fun b o _ hb => ?_⟩⟩⟩
  · rw [upd_ne hne] at hd
    exact hd
  · rw [upd_ne hne] at hd
    exact hd
  · have h1 : b ≠ a := fun z => by rw [z, ha] at hb; cases hb
    rw [upd_ne hne] at hd
    have h2 : b ≠ dx := fun z => by rw [z, hd] at hb; cases hb
    rw [upd_ne h2]
    show (del _ a) b = _
    unfold del
    simp only [h1, if_false]
    rw [upd_ne h1, upd_ne h2, upd_ne h1]
    exact hb
end
/-! ### what stands for no integer -/
def isI : PyData → Bool
  | .int _ => true
  | _ => false
def isIB : PyData → Bool
  | .int _ => true
  | .bool _ => true
  | _ => false
def isB : PyData → Bool
  | .bool _ => true
  | _ => false
section
variable {K : PySem.W.Frag} {H : Hp} {Q : VK} {v : V} {d : PyData}
theorem tyL {a : Addr} {xs : List V} (h : SqL K H a xs) : TyX K H (.ref a) (.type "list") := by
  rcases h with (h | ⟨o, h⟩) | h
  · exact .base (.lst h)
  · exact .base (.frz h)
  · obtain ⟨o, its, n, e, c, _⟩ := h
    exact .kList e c
theorem tyT {a : Addr} {xs : List V} (h : SqT K H a xs) : TyX K H (.ref a) (.type "tuple") := by
  rcases h with (h | ⟨o, h⟩) | h
  · exact .base (.tup h)
  · exact .fTuple h
  · obtain ⟨o, its, n, e, c, _⟩ := h
    exact .kTuple e c
theorem x_isiDI (h : Dp K H v d) (q : Q (.bl (isIB d)) H) : rIsi K [v, .ty "int"] H Q := by
  cases h with
  | non => exact x_isi (b := false) (.base .non) (kit_ty (by decide +kernel)) q
  | bl b => exact x_isi (b := true) (.base (.bl b)) (kit_ty (by decide +kernel)) q
  | int i => exact x_isi (b := true) (.base (.int i)) (kit_ty (by decide +kernel)) q
  | str x => exact x_isi (b := false) (.base (.str x)) (kit_ty (by decide +kernel)) q
  | lst h _ => exact x_isi (b := false) (tyL h) (kit_ty (by decide +kernel)) q
  | tup h _ => exact x_isi (b := false) (tyT h) (kit_ty (by decide +kernel)) q
theorem x_isiDB (h : Dp K H v d) (q : Q (.bl (isB d)) H) : rIsi K [v, .ty "bool"] H Q := by
  cases h with
  | non => exact x_isi (b := false) (.base .non) (kit_ty (by decide +kernel)) q
  | bl b => exact x_isi (b := true) (.base (.bl b)) (kit_ty (by decide +kernel)) q
  | int i => exact x_isi (b := false) (.base (.int i)) (kit_ty (by decide +kernel)) q
  | str x => exact x_isi (b := false) (.base (.str x)) (kit_ty (by decide +kernel)) q
  | lst h _ => exact x_isi (b := false) (tyL h) (kit_ty (by decide +kernel)) q
  | tup h _ => exact x_isi (b := false) (tyT h) (kit_ty (by decide +kernel)) q
end
theorem dpK {K : PySem.W.Frag} {H H' : Hp} {v : V} {d : PyData} (k : Kx [] H H') (h : Dp K H v d) : Dp K H' v d :=
  match dp_keepAll k [d] [v] (.cons h .nil) with
  | .cons h _ => h
/-! ### repr of data of every kind -/
def boolT (b : Bool) : Str := if b then "True" else "False"
def shD : PyData → Str
  | .none => "None"
  | .bool b => boolT b
  | .int i => toString i
  | .str x => reprText x
  | d => d.shown
def ShOk : PyData → Prop
  | .none => True
  | .bool _ => True
  | .int i => i.natAbs.log2 < 1920
  | .str x => (reprText x).length ≤ sizeLine
  | d => d.showable = true ∧ d.hasDict = false ∧ d.depth ≤ 60 ∧ d.shown.length ≤ sizeLine
def rReprD (K : PySem.W.Frag) : List V → Hp → VK → Prop := fun xs H Q => ∃ v d, xs = [v] ∧ Dp K H v d ∧ ShOk d ∧ Q (.str (shD d)) H
theorem x_reprD {K : PySem.W.Frag} {H : Hp} {Q : VK} {v : V} {d : PyData} (h : Dp K H v d) (o : ShOk d) (q : Q (.str (shD d)) H) : rReprD K [v] H Q := ⟨v, d, rfl, h, o, q⟩
section
variable {X : Cx}
theorem call_reprD (hgd : X.A.guards = some []) (hu : X.A.units + 64 < cLine) : CallR X (.builtin "repr") (rReprD X.K) := by
  intro pins s σ H xs us Q I r h
  obtain ⟨v, d, rfl, hd, ho, q⟩ := h
  obtain ⟨u, rfl, ru⟩ := vals1 r
  have big : ∀ {a : Addr}, u = .ref a → Dp X.K H (.ref a) d → d.showable = true → d.hasDict = false → d.depth ≤ 60 → d.shown.length ≤ sizeLine → Q (.str d.shown) H → wpAny (model X.prog X.w) X.A (call (.builtin "repr") [u] []) (EP X pins σ Q) X.xe s := fun {a} e hd h1 h2 h3 h4 q => by
    subst e
    obtain ⟨as, hr⟩ := Dp.reads I d _ (.ref a) hd rfl
    exact repr_of_reads' (Q := EP X pins σ Q) (E := X.xe) hr h1 (PyData.noDict_hsm h2) hgd (by omega) (fun _ _ e => e) (fun h' u tk hk => ⟨.str d.shown, H, I.kept hk, ⟨u, rfl⟩, q⟩) h4
  cases hd with
  | non =>
    cases (show u = Value.none from ru)
    exact PySem.P.repr_of_none ⟨.str "None", H, I.tok _, ⟨_, rfl⟩, q⟩
  | bl b =>
    cases (show u = Value.bool b from ru)
    exact PySem.P.repr_of_bool ⟨.str (boolT b), H, I.tok _, ⟨_, rfl⟩, q⟩
  | int i =>
    obtain ⟨t, e⟩ := (show ∃ t, u = Value.int i t from ru)
    cases e
    exact PySem.P.repr_of_int ho ⟨.str (toString i), H, I.tok _, ⟨_, rfl⟩, q⟩
  | str x =>
    obtain ⟨t, e⟩ := (show ∃ t, u = Value.str x t from ru)
    cases e
    exact PySem.P.repr_of_str ⟨.str (reprText x), H, I.tok _, ⟨_, rfl⟩, q⟩ ho
  | lst h1 h2 =>
    obtain ⟨o1, o2, o3, o4⟩ := ho
    exact big ru (.lst h1 h2) o1 o2 o3 o4 q
  | tup h1 h2 =>
    obtain ⟨o1, o2, o3, o4⟩ := ho
    exact big ru (.tup h1 h2) o1 o2 o3 o4 q
end
theorem vals_refs : ∀ (cs : List Addr) (us : List Value), Vals (cs.map V.ref) us → us = cs.map Value.ref
  | [], _, .nil => rfl
  | c :: cs, _, .cons r t => by
    have h := vals_refs cs _ t
    rw [h, List.map_cons]
    exact congrArg (· :: _) r
theorem eqv_nats (ns : List Nat) : PyData.eqv (.tuple (ns.map fun (n : Nat) => PyData.int (n : Int))) (.tuple (ns.map fun (n : Nat) => PyData.int (n : Int))) = true := by
  show PyData.eqvAll _ _ = true
  induction ns with
  | nil => rfl
  | cons a r ih =>
    rw [List.map_cons]
    show (PyData.eqv (.int (a : Int)) (.int (a : Int)) && PyData.eqvAll _ _) = true
    rw [ih]
    simp [PyData.eqv]
theorem shaped_nats (ns : List Nat) : SeqAt.shaped (.tuple (ns.map fun (n : Nat) => PyData.int (n : Int))) = true := by
  have e : (ns.map fun (n : Nat) => PyData.int (n : Int)) = (ns.map fun (n : Nat) => (n : Int)).map PyData.int := by rw [List.map_map]; rfl
  rw [e]
  have := shaped_ints (ns.map fun (n : Nat) => (n : Int))
  unfold SeqAt.shaped at this ⊢
  simpa [PyData.canLay0, PyData.depth] using this
theorem x_neTN {K : PySem.W.Frag} {H : Hp} {Q : VK} {a b : Addr} {ns : List Nat} (h : SqT K H a (natV ns)) (h2 : SqT K H b (natV ns)) (q : Q (.bl false) H) : rNeD K (.ref a) (.ref b) H Q :=
  ⟨_, _, .tup h (dp_nats _), .tup h2 (dp_nats _), shaped_nats _, shaped_nats _, by rw [eqv_nats]; exact q⟩
theorem rgV_nat (n : Nat) : rgV 0 (n : Int) = natV (List.range n) := by
  unfold rgV natV
  rw [Int.sub_zero, Int.toNat_natCast]
  refine List.map_congr_left fun i _ => ?_
  rw [Int.zero_add]

open LamX (TabB Tabs TabS ExtN)
/-! ### the law's end, with tables of code objects (a law in which lambdas stand) -/
/-- what the abstract heap may know at the entry -/
def OnlyT (ts : List Addr) (H : Hp) : Prop := ∀ b, H b = none ∨ (b ∈ ts ∧ H b = some (.tbl #[])) ∨ ∃ o xs, H b = some (.frz o (.lst xs))
section
variable {P : Program} {w : World} {K : PySem.W.Frag} {mg mb : Str → Option Value} {k : Nat} {fa a : Addr} {cs : List (Addr × Addr)} {fd : FuncData} {x : Str} {sp : Sp} {s₁ : Shared} {vs : List Value} {ns : List Int}
/-- the run itself, from such a heap -/
theorem lawGT_core {H : Hp} (KX : K.In s₁.heap) (hns : s₁.heap.Ns mainGlobals mg) (hb : s₁.heap.Ns builtinsNs mb) (hbb : ∀ x : Str, x ≠ "__name__" → mb x = bootBuiltins x) (hlim : s₁.heap.NoLimit) (hg : s₁.gens = #[])
    (hT : ∀ p ∈ cs, s₁.heap.get? p.2 = some { cls := .none, data := .fields #[] }) (nT : ∀ p ∈ cs, K.lookup p.2 = none) (C : ∀ p ∈ cs, PySem.W.CodeHd s₁.heap p.1 p.2)
    (hbm : ∃ (bm : Addr) (ob : Obj), mg "__builtins__" = some (.ref bm) ∧ bm ≠ builtinsNs ∧ s₁.heap.get? bm = some ob ∧ ob.cls = .type "module" ∧ ob.dict = some builtinsNs ∧ ob.data = .plain)
    (ha : s₁.heap.get? a = some { cls := .type "list", data := .seq vs.toArray }) (hr : Room k callerA)
    (F : ∀ base : Heap, K.In base → base.Ns mainGlobals mg → (∀ p ∈ cs, TabB base mg p.1 p.2) → FnG P w K mg base k fa fd [x] sp) (hbind : ∀ (s : Shared) (u : Value), BindsTo s fd ⟨[u], []⟩ [(x, u)])
    (hS : sp [.ref a] H (fun v _ => v = .bl true) E0) (hO : OnlyT (cs.map (·.2)) H) (hH : ∀ p ∈ cs, H p.2 = some (.tbl #[])) (hok : HOk P w H s₁.heap) (hA : ∀ b, H b ≠ none → b = a ∨ b ∈ cs.map (·.2)) (hK : H a ≠ none → K.lookup a = none) :
    codeAny (model P w) callerA (.call (.ref fa) ⟨[.ref a], []⟩) (fun r s' => r = .ok (.ret (.bool true)) ∧ OldK s₁.heap s'.heap ∧ s'.os = s₁.os ∧ AllBare s'.gens) s₁ := by
  have tabAt : ∀ {b : Addr}, b ∈ cs.map (·.2) → s₁.heap.get? b = some { cls := .none, data := .fields #[] } := by
    intro b hb
    obtain ⟨p, hp, rfl⟩ := List.mem_map.mp hb
    exact hT p hp
  -- what is neither the script nor an empty table is not among ours
  have other : ∀ {b : Addr} {o : Obj}, s₁.heap.get? b = some o → (∀ us m, o.data ≠ .seq us m) → o.data ≠ .fields #[] → H b = none := by
    intro b o e n1 n2
    match q : H b with
    | none => rfl
    | some u =>
      rcases hA b (by rw [q]; simp) with rfl | hb
      · rw [ha] at e
        rw [← Option.some.inj e] at n1
        exact absurd rfl (n1 _ _)
      · rw [tabAt hb] at e
        rw [← Option.some.inj e] at n2
        exact absurd rfl n2
  have plain : ∀ {b : Addr} {o : Obj} {d : Data}, s₁.heap.get? b = some o → o.data = d → (∀ us m, d ≠ .seq us m) → d ≠ .fields #[] → (hidT s₁.heap H).get? b = some o := fun e ed n1 n2 => hidT_get e (other e (by rw [ed]; exact n1) (by rw [ed]; exact n2))
  have ns' : ∀ {b : Addr} {m : Str → Option Value}, s₁.heap.Ns b m → (hidT s₁.heap H).Ns b m := by
    rintro b m ⟨o, es, ep, e, d, r⟩
    exact ⟨o, es, ep, plain e d (fun _ _ z => nomatch z) (fun z => nomatch z), d, r⟩
  have inK : K.In (hidT s₁.heap H) := by
    intro b o e
    refine hidT_get (KX b o e) ?_
    match q : H b with
    | none => rfl
    | some u =>
      rcases hA b (by rw [q]; simp) with rfl | hb
      · rw [hK (by rw [q]; simp)] at e
        cases e
      · obtain ⟨p, hp, rfl⟩ := List.mem_map.mp hb
        rw [nT p hp] at e
        cases e
  have md : Mod K mg (hidT s₁.heap H) := by
    obtain ⟨mc, h1, h2⟩ := hlim
    exact ⟨inK, ns' hns, ⟨mb, ns' hb, hbb⟩, ⟨mc, ns' h1, h2⟩⟩
  have tabs : ∀ p ∈ cs, TabB (hidT s₁.heap H) mg p.1 p.2 := by
    intro p hp
    obtain ⟨og, esg, epg, eg, dg, rg⟩ := hns
    have atP := hT p hp
    constructor
    · obtain ⟨o, us, file, tf, flags, tg, inF, text, tt, e1, r1, r2, r3, r4, r5, r6, r7, r8, hne⟩ := C p hp
      have r2' : o.data = .fields us := r2
      exact ⟨o, us, file, tf, flags, tg, inF, text, tt, plain e1 r2' (fun _ _ z => nomatch z) (fun z => by cases z; simp at r3), r1, r2, r3, r4, r5, r6, r7, r8, hne⟩
    · obtain ⟨bm, ob, b1, b2, b3, b4, b5, b6⟩ := hbm
      refine ⟨bm, ob, b1, b2, ?_, ?_, plain b3 b6 (fun _ _ z => nomatch z) (fun z => nomatch z), b4, b5, b6⟩
      · rintro rfl
        rw [eg] at b3
        rw [← Option.some.inj b3, dg] at b6
        cases b6
      · rintro rfl
        rw [atP] at b3
        rw [← Option.some.inj b3] at b6
        cases b6
    · intro z
      rw [← z, eg] at atP
      rw [Option.some.inj atP] at dg
      cases dg
  have e0 : Env0 P w K mg (hidT s₁.heap H) callerA [] s₁ H := by
    refine ⟨rfl, md, fun b o e => of_hidT e, ?_, trivial, ?_, hok, .of_eq hg⟩
    · exact Nat.le_of_eq (hidT_size _ _)
    · exact fun b hb => absurd (show b ∈ ([] : List Addr) from hb) (by simp)
  have run := (F _ inK (ns' hns) tabs).run callerA [] s₁ H ⟨[.ref a], []⟩ [.ref a] [.ref a] _ _ rfl hr e0 (hbind s₁ (.ref a)) (.cons rfl .nil) hS
  refine codeAny_mono run fun r s' h => ?_
  match r, h with
  | .error e, h => exact False.elim h
  | .ok .next, h => exact False.elim h
  | .ok .brk, h => exact False.elim h
  | .ok .cont, h => exact False.elim h
  | .ok (.ret u), h =>
    obtain ⟨v, H', os, bare, un, hok', r', q⟩ := h
    replace q : v = .bl true := q
    subst q
    obtain rfl : u = Value.bool true := r'
    have same : ∀ b o, b ∉ cs.map (·.2) → s₁.heap.get? b = some o → s'.heap.get? b = some o := by
      intro b o nb e
      match q : H b with
      | none => exact un.keep b o e q (fun z => absurd (show b ∈ ([] : List Addr) from z) (by simp)) (by simp)
      | some u =>
        rcases hO b with z | ⟨z, _⟩ | ⟨ob, xs, z⟩
        · rw [q] at z
          cases z
        · exact absurd z nb
        · obtain ⟨e1, _⟩ := hok b _ z
          obtain ⟨e2, _⟩ := hok' b _ (un.frzs b ob _ z)
          rw [e] at e1
          rw [Option.some.inj e1]
          exact e2
    have more : ∀ p ∈ cs, ∃ us : Array Value, s'.heap.get? p.2 = some { cls := .none, data := .fields us } := by
      intro p hp
      obtain ⟨us, z⟩ := un.tbls p.2 #[] (hH p hp)
      exact ⟨_, hok' p.2 _ z⟩
    refine ⟨rfl, ⟨fun b o e => ?_, fun b o e => ?_⟩, os, bare⟩
    · by_cases nb : b ∈ cs.map (·.2)
      · obtain ⟨p, hp, rfl⟩ := List.mem_map.mp nb
        obtain ⟨us, hm⟩ := more p hp
        rw [hT p hp] at e
        rw [← Option.some.inj e]
        exact .inr (.inl ⟨((C p hp).tab (hT p hp)).isCodeTable, rfl, #[], us, rfl, by rw [Array.empty_append]; exact hm⟩)
      · exact .inl (same b o nb e)
    · by_cases nb : b ∈ cs.map (·.2)
      · obtain ⟨p, hp, rfl⟩ := List.mem_map.mp nb
        obtain ⟨us, hm⟩ := more p hp
        exact ⟨_, hm⟩
      · exact ⟨o, same b o nb e⟩
theorem lawGT (KX : K.In s₁.heap) (hns : s₁.heap.Ns mainGlobals mg) (hb : s₁.heap.Ns builtinsNs mb) (hbb : ∀ x : Str, x ≠ "__name__" → mb x = bootBuiltins x) (hlim : s₁.heap.NoLimit) (hg : s₁.gens = #[])
    (hT : ∀ p ∈ cs, s₁.heap.get? p.2 = some { cls := .none, data := .fields #[] }) (nT : ∀ p ∈ cs, K.lookup p.2 = none) (C : ∀ p ∈ cs, PySem.W.CodeHd s₁.heap p.1 p.2)
    (hbm : ∃ (bm : Addr) (ob : Obj), mg "__builtins__" = some (.ref bm) ∧ bm ≠ builtinsNs ∧ s₁.heap.get? bm = some ob ∧ ob.cls = .type "module" ∧ ob.dict = some builtinsNs ∧ ob.data = .plain)
    (ha : s₁.heap.get? a = some { cls := .type "list", data := .seq vs.toArray }) (hi : IntsAre vs ns) (hl : ns.length ≤ sizeLine) (hr : Room k callerA)
    (F : ∀ base : Heap, K.In base → base.Ns mainGlobals mg → (∀ p ∈ cs, TabB base mg p.1 p.2) → FnG P w K mg base k fa fd [x] sp) (hbind : ∀ (s : Shared) (u : Value), BindsTo s fd ⟨[u], []⟩ [(x, u)])
    (hsp : ∀ H : Hp, OnlyT (cs.map (·.2)) H → (∀ p ∈ cs, H p.2 = some (.tbl #[])) → SqL K H a (ns.map V.int) → sp [.ref a] H (fun v _ => v = .bl true) E0) :
    codeAny (model P w) callerA (.call (.ref fa) ⟨[.ref a], []⟩) (fun r s' => r = .ok (.ret (.bool true)) ∧ OldK s₁.heap s'.heap ∧ s'.os = s₁.os ∧ AllBare s'.gens) s₁ := by
  have rv := vals_ints hi
  have lenV := hi.length
  have tabAt : ∀ {b : Addr}, b ∈ cs.map (·.2) → s₁.heap.get? b = some { cls := .none, data := .fields #[] } := by
    intro b hb
    obtain ⟨p, hp, rfl⟩ := List.mem_map.mp hb
    exact hT p hp
  have inT : ∀ {p : Addr × Addr}, p ∈ cs → p.2 ∈ cs.map (·.2) := fun hp => List.mem_map_of_mem hp
  have aT : a ∉ cs.map (·.2) := by
    intro z
    have e := tabAt z
    rw [ha] at e
    cases congrArg Obj.data (Option.some.inj e)
  let Ht : Hp := fun b => if b ∈ cs.map (·.2) then some (.tbl #[]) else none
  have ht1 : ∀ {b : Addr}, b ∈ cs.map (·.2) → Ht b = some (.tbl #[]) := fun h => if_pos h
  have ht2 : ∀ {b : Addr}, b ∉ cs.map (·.2) → Ht b = none := fun h => if_neg h
  match hk : K.lookup a with
  | some o =>
    have e := KX a o hk
    rw [ha] at e
    have eo := Option.some.inj e
    subst eo
    have hO : OnlyT (cs.map (·.2)) Ht := fun b => by
      by_cases h : b ∈ cs.map (·.2)
      · exact .inr (.inl ⟨h, ht1 h⟩)
      · exact .inl (ht2 h)
    refine lawGT_core KX hns hb hbb hlim hg hT nT C hbm ha hr F hbind (hsp Ht hO (fun p hp => ht1 (inT hp)) (.inr ⟨_, vs.toArray, _, hk, rfl, rfl, rfl, ?_, by simpa using rv⟩)) hO (fun p hp => ht1 (inT hp)) (fun b u z => ?_) (fun b z => ?_) fun z => absurd (ht2 aT) z
    · rw [List.size_toArray, lenV]
      exact hl
    · by_cases h : b ∈ cs.map (·.2)
      · rw [ht1 h] at z
        rw [← Option.some.inj z]
        exact tabAt h
      · rw [ht2 h] at z
        cases z
    · by_cases h : b ∈ cs.map (·.2)
      · exact .inr h
      · exact absurd (ht2 h) z
  | none =>
    let Hs : Hp := fun b => if b = a then some (.frz { cls := .type "list", data := .seq vs.toArray } (.lst (ns.map V.int))) else Ht b
    have hs1 : Hs a = some (.frz { cls := .type "list", data := .seq vs.toArray } (.lst (ns.map V.int))) := if_pos rfl
    have hs2 : ∀ {b}, b ≠ a → Hs b = Ht b := fun h => if_neg h
    have hsT : ∀ p ∈ cs, Hs p.2 = some (.tbl #[]) := fun p hp => (hs2 fun z => aT (z ▸ inT hp)).trans (ht1 (inT hp))
    have hO : OnlyT (cs.map (·.2)) Hs := fun b => by
      by_cases h : b = a
      · exact .inr (.inr ⟨_, _, h ▸ hs1⟩)
      · by_cases h2 : b ∈ cs.map (·.2)
        · exact .inr (.inl ⟨h2, (hs2 h).trans (ht1 h2)⟩)
        · exact .inl ((hs2 h).trans (ht2 h2))
    refine lawGT_core KX hns hb hbb hlim hg hT nT C hbm ha hr F hbind (hsp Hs hO hsT (.inl (.inr ⟨{ cls := .type "list", data := .seq vs.toArray }, hs1⟩))) hO hsT (fun b u z => ?_) (fun b z => ?_) fun _ => hk
    · by_cases h : b = a
      · subst h
        rw [hs1] at z
        rw [← Option.some.inj z]
        exact ⟨ha, by rw [List.length_map]; exact hl, vs, _, rv, ha⟩
      · rw [hs2 h] at z
        by_cases h2 : b ∈ cs.map (·.2)
        · rw [ht1 h2] at z
          rw [← Option.some.inj z]
          exact tabAt h2
        · rw [ht2 h2] at z
          cases z
    · by_cases h : b = a
      · exact .inl h
      · by_cases h2 : b ∈ cs.map (·.2)
        · exact .inr h2
        · exact absurd ((hs2 h).trans (ht2 h2)) z
end
/-- the goal that k_head leaves, from the promise of a law in which lambdas stand: cs, the code objects and their tables -/
theorem walkGT {l : PySem.W.OpenLaw} {n k : Nat} {q : Program} {loose : List Str} {XP : (Str → Option Value) → Heap → Prop} {YP : World → Heap → Prop} {d : DefRec} {K : Params → PySem.W.Frag} {x : Str}
    (hn : l.most = some n) (hn2 : n ≤ sizeLine) (hdf : d.params.defaults = []) (hr : Room k callerA) (hY : ∀ (w : World) (h : Heap), YP w h → (K w.params).In h)
    (F : ∀ (w : World) (mg : Str → Option Value) (fa : Addr) (h : Heap), YP w h → (K w.params).In h → h.Ns mainGlobals mg → mg d.name = some (.ref fa) →
      ∃ (fd : FuncData) (cs : List (Addr × Addr)) (sp : Sp), (∀ p ∈ cs, h.get? p.2 = some { cls := .none, data := .fields #[] }) ∧ (∀ p ∈ cs, (K w.params).lookup p.2 = none) ∧ (∀ p ∈ cs, PySem.W.CodeHd h p.1 p.2) ∧ (∀ (s : Shared) (u : Value), BindsTo s fd ⟨[u], []⟩ [(x, u)]) ∧
        (∀ (H : Hp) (a : Addr) (ns : List Int), ns.length ≤ n → OnlyT (cs.map (·.2)) H → (∀ p ∈ cs, H p.2 = some (.tbl #[])) → SqL (K w.params) H a (ns.map V.int) → sp [.ref a] H (fun v _ => v = .bl true) E0) ∧
        ∀ base : Heap, (K w.params).In base → base.Ns mainGlobals mg → (∀ p ∈ cs, TabB base mg p.1 p.2) → FnG l.prog w (K w.params) mg base k fa fd [x] sp) :
    PySem.W.WalkO q loose XP YP l.row.toRowW d [] (fun f vs => PySem.call f vs) := by
  refine Att.attach_callB hn hdf ?_
  intro w s₀ s₁ mg mb fa o pm cd doc a vs ns G Y ho hd hcd hmg hobj hints hlen hbits hg
  obtain ⟨fd, cs, sp, hT, nT, C, hb, hsp, hF⟩ := F w mg fa _ Y (hY w _ Y) G.T.g hmg
  exact lawGT (hY w _ Y) G.T.g G.T.b G.T.builtins G.T.nolimit hg hT nT C G.T.bmain hobj hints (Nat.le_trans hlen hn2) hr hF hb fun H hO hH hS => hsp H a ns hlen hO hH hS

open LamX (TabB Tabs TabS ExtN CodeO LamS lamEnv lamCx lam_start2 lam_make2 lamS_by)
/-! ### a def whose code object's place is told -/
structure FunC (K : PySem.W.Frag) (x qual : Str) (st : Stmt) (f : Addr) (fd : FuncData) (cdv : Value) : Prop where
  ex : ∃ (oc : Value) (od : Option Addr) (kV doc pm : Value) (an : Option Addr) (ct : Value) (osl : Array (Option Value)),
    fd = PySem.W.fnOf x qual (defArgs st) (defBody st) (defScope st) .none kV doc pm an cdv ct ∧ K.lookup f = some ⟨oc, od, .func fd, osl⟩
  cd : PySem.W.codeIn K cdv qual = true
  kp : PySem.W.keepIn K (.ref f) = true
section
variable {P : Program} {w : World} {K : PySem.W.Frag} {mg : Str → Option Value} {base : Heap}
theorem funC_mk {x qual : Str} {st : Stmt} {f : Addr} {oc : Value} {od an : Option Addr} {osl : Array (Option Value)} {kV doc pm cdv ct : Value} (l : K.lookup f = some ⟨oc, od, .func (PySem.W.fnOf x qual (defArgs st) (defBody st) (defScope st) .none kV doc pm an cdv ct), osl⟩)
    (c : PySem.W.codeIn K cdv qual = true) (k : PySem.W.keepIn K (.ref f) = true) : FunC K x qual st f (PySem.W.fnOf x qual (defArgs st) (defBody st) (defScope st) .none kV doc pm an cdv ct) cdv :=
  { ex := ⟨oc, od, kV, doc, pm, an, ct, osl, rfl, l⟩, cd := c, kp := k }
theorem FnG.bodyC {x qual : Str} {st : Stmt} {f : Addr} {fd : FuncData} {N ps : List Str} {k : Nat} {sp : Sp} {cdv : Value} (F : FunC K x qual st f fd cdv) (S : FnScope N ps (defScope st)) (len : ∀ vs H Q E, sp vs H Q E → vs.length = ps.length)
    (hbody : ∀ (A : Around) (outer : List Env) (s : Shared) (H : Hp) (vs : List V) (Q : VK) (E : XK), (A.deeper (envOfC qual (defScope st) s.heap.objs.size f cdv)).guards = some [] → Room k (A.deeper (envOfC qual (defScope st) s.heap.objs.size f cdv)) → sp vs H Q E →
      ∃ t, PSs (cxOf CX0 P w K mg base N qual (defScope st) f cdv A outer s H E).nox (defBody st) t ∧ t { nx := fun _ H' => Q .non H', rt := Q } (start N vs) H) : FnG P w K mg base (k + 1) f fd ps sp := by
  obtain ⟨oc, od, kV, doc, pm, an, ct, osl, e, lk⟩ := F.ex
  subst e
  refine fnG_of lk F.cd S len fun A outer s H vs Q E hgd hr hsp => ?_
  obtain ⟨t, h, q⟩ := hbody A outer s H vs Q E hgd hr hsp
  exact ⟨t, h.nox, q⟩
end
/-! ### x(lambda: body), where x keeps the exception that the lambda lets out -/
section
variable {X : Cx} {pins : List (Addr × Obj)} {σ : L2.St} {H HZ : Hp} {s : Shared}
/-- a(), in the def that got the lambda; what is let out is wished at the slots that stand there -/
theorem pe_actW {CXg : CXT} {Eg : XK} {Ng : List Str} {qg : Str} {sg : Scope} {g f c' : Addr} {cdg pm ctv : Value} {params : Arguments} {body : Expr} {scope : Scope} {k i : Nat} {a : Str} {pn : List (Addr × Obj)} {xe : Value → Shared → Prop} {W : WX} {tb : XK → TE} {p1 p2 : Pos}
    (I : Inv X pins σ H s) (L : LamS X.env.scope scope) (hf : s.heap.get? f = some (PySem.W.kla_obj "<lambda>" (X.env.qual ++ "<lambda>") params body scope (cloFrom X.env.cells scope.names []) pm c' ctv)) (n0 : H f = none) (nfr : f ∉ frs X.stack)
    (hbind : bindArgs (PySem.W.kla_fn "<lambda>" (X.env.qual ++ "<lambda>") params body scope (cloFrom X.env.cells scope.names []) pm (.ref c') ctv) ⟨[], []⟩ = pure [])
    (tk : Takes ((cxOf CXg X.prog X.w X.K X.mg X.base Ng qg sg g cdg X.A X.stack s H Eg).tr pn xe) W) (hr : Room (k + 1) (X.A.deeper (envOfC qg sg s.heap.objs.size g cdg)))
    (hbody : ∀ (A : Around) (outer : List Env) (s : Shared) (H : Hp) (E : XK), Room k (A.deeper (lamEnv X scope s.heap.objs.size f c')) → PE (lamCx X A outer s H E scope f c') body (tb E)) (hN : Ng[i]? = some a) (hv : Vis sg a)
    (hd : (a == ("__debug__" : Str)) = false := by decide) (hcd : (a == ("__classdict__" : Str)) = false := by decide) :
    PE ((cxOf CXg X.prog X.w X.K X.mg X.base Ng qg sg g cdg X.A X.stack s H Eg).tr pn xe) (.Call (.Name a p1) [] [] p2) (fun σZ HZ Q => σZ[i]? = some (some (.ref f)) ∧ HZ c' = some (CodeO c' (X.env.qual ++ "<lambda>")) ∧ tb (WE W σZ) σ HZ Q) := by
  constructor
  rintro pinsZ sZ σZ HZ Q IZ ⟨hs, hc, ht⟩
  have var := (pe_var (pos := p1) (i := i) hN hv hd hcd).run pinsZ sZ σZ HZ (fun v H1 => v = .ref f ∧ H1 = HZ) IZ ⟨.ref f, hs, rfl, rfl⟩
  refine wpAny_Call_Name_kw (thn var ?_)
  rintro u s1 ⟨v, H1, I1, r1, rfl, rfl⟩
  cases (show u = Value.ref f from r1)
  have at1 : s1.heap.get? f = some (PySem.W.kla_obj "<lambda>" (X.env.qual ++ "<lambda>") params body scope (cloFrom X.env.cells scope.names []) pm c' ctv) := I1.base.keep f _ hf n0 nfr fun z => absurd (show f ∈ ([] : List Addr) from z) (by simp)
  refine PySem.W.callWith_F0 ⟨_, _, _, _, at1⟩ ?_
  have kept : Un (frs X.stack) [] H H1 s.heap s1.heap := I1.base
  obtain ⟨⟨oc, us, t, co1, co2, co3⟩, _⟩ := I1.hok c' _ hc
  have ran : codeAny (model X.prog X.w) (X.A.deeper (envOfC qg sg s.heap.objs.size g cdg)) (.call (.ref f) ⟨[], []⟩) (CR (L2.CX X.prog X.w) (envOfC qg sg s.heap.objs.size g cdg :: X.stack) X.prog X.w H1 s1 Q (WE W σZ)) s1 := by
    refine PySem.W.kla_callFunE hr.depth at1 rfl L.co L.gen rfl ⟨c', oc, us, t, rfl, co1, co2, co3⟩ ?_
    rw [hbind]
    refine wpAny_pure (wpAny_newFunctionEnv (fun y hy => (L.own y hy).2) (fun y hy => absurd hy (by simp)) (fun h₁ ns sub => ⟨I1.nolimit.fresh _ sub, ?_⟩) L.kind)
    have stay : ∀ b o, s1.heap.get? b = some o → h₁.get? b = some o := fun b o e => sub.extBut b o (Nat.ne_of_lt (Heap.lt_size e)) (Heap.get?_push_of_some _ e)
    have J := lam_start2 (A := X.A.deeper (envOfC qg sg s.heap.objs.size g cdg)) (outer := envOfC qg sg s.heap.objs.size g cdg :: X.stack) (E := WE W σZ) (scope := scope) (f := f) (c' := c') (tk := s1.toks + ([] : List (Str × Value)).length) I L I1.env0 hr.hd kept ns stay
    refine PySem.W.kla_codeExpr (wpAny_mono ((hbody _ _ s1 H1 (WE W σZ) (hr.deeper _)).run [] _ _ H1 Q J ht) ?_ fun _ _ z => z)
    rintro v s' ⟨w', H', J', rv, q⟩
    exact ⟨w', H', J'.os, J'.bare, J'.base, J'.hok, rv, q⟩
  refine wpAny_call (codeAny_mono ran fun r s' hq => ?_)
  match r, hq with
  | .ok (.ret u), hq => exact I1.after hq
  | .ok .next, hq => exact hq.elim
  | .ok .brk, hq => exact hq.elim
  | .ok .cont, hq => exact hq.elim
  | .error e, hq => exact passAt tk σZ pinsZ H1 s1 e s' I1 hq
/-- a() as a statement in the body of try -/
def tAct (f c' : Addr) (q : Str) (tl : XK → Hp → VK → Prop) (W : WX) : TS := fun D σ H => σ[0]? = some (some (.ref f)) ∧ H c' = some (CodeO c' q) ∧ tl (WE W σ) H fun _ H' => D.nx σ H'
theorem ps_act {Z : Cx} {f c' : Addr} {q a : Str} {tl : XK → Hp → VK → Prop} {W : WX} {p1 p2 pos : Pos} (act : PE Z (.Call (.Name a p1) [] [] p2) (fun σZ HZ Q => σZ[0]? = some (some (.ref f)) ∧ HZ c' = some (CodeO c' q) ∧ tl (WE W σZ) HZ Q)) :
    PS Z (.Expr (.Call (.Name a p1) [] [] p2) pos) (tAct f c' q tl W) := ps_expr act
/-- the def that calls what it got; TT: what it asks of the lambda's reading -/
def Gives (X : Cx) (Ng : List Str) (x : Str) (st : Stmt) (g : Addr) (cdg : Value) (a q : Str) (k : Nat) (TT : (XK → Hp → VK → Prop) → Hp → VK → Prop) : Prop :=
  ∀ (f c' : Addr) (s : Shared) (H : Hp) (Q : VK) (tl : XK → Hp → VK → Prop), Room k (X.A.deeper (envOfC x (defScope st) s.heap.objs.size g cdg)) →
    (∀ (W : WX) (pn : List (Addr × Obj)) (xe : Value → Shared → Prop) (p1 p2 : Pos), Takes ((cxOf CX0 X.prog X.w X.K X.mg X.base Ng x (defScope st) g cdg X.A X.stack s H E0).tr pn xe) W →
      PE ((cxOf CX0 X.prog X.w X.K X.mg X.base Ng x (defScope st) g cdg X.A X.stack s H E0).tr pn xe) (.Call (.Name a p1) [] [] p2) (fun σZ HZ Q => σZ[0]? = some (some (.ref f)) ∧ HZ c' = some (CodeO c' q) ∧ tl (WE W σZ) HZ Q)) →
    H c' = some (CodeO c' q) → TT tl H Q → ∃ t, PSs (cxOf CX0 X.prog X.w X.K X.mg X.base Ng x (defScope st) g cdg X.A X.stack s H E0).nox (defBody st) t ∧ t { nx := fun _ H' => Q .non H', rt := Q } (start Ng [.ref f]) H
/-- the callee's facts -/
structure LamD (K : PySem.W.Frag) (mg : Str → Option Value) (x a : Str) (st : Stmt) (g : Addr) (fd : FuncData) (cdv : Value) (Ng : List Str) : Prop where
  fn : FunC K x x st g fd cdv
  hm : mg x = some (.ref g)
  hb : Binds K fd [a] []
  sg : FnScope Ng [a] (defScope st)
  h0 : Ng[0]? = some a
  hv : Vis (defScope st) a
def tLamW (T : List (Addr × Str)) (TT : (XK → Hp → VK → Prop) → Hp → VK → Prop) (t : XK → TE) : TE := fun σ H Q => Tabs T H ∧ ∀ H1, ExtN H H1 → Tabs T H1 → TT (fun E H' Q' => t E σ H' Q') H1 Q
theorem pe_lamW {T : List (Addr × Str)} {TT : (XK → Hp → VK → Prop) → Hp → VK → Prop} {x a : Str} {st : Stmt} {g c P : Addr} {k : Nat} {fd : FuncData} {cdv : Value} {Ng : List Str} {params : Arguments} {body : Expr} {scope : Scope} {t : XK → TE} {p lpos pos : Pos}
    (D : LamD X.K X.mg x a st g fd cdv Ng) (hG : Gives X Ng x st g cdv a (X.env.qual ++ "<lambda>") (k + 1) TT) (TB : TabB X.base X.mg c P) (hcode : X.env.code = .ref c) (hmT : (P, X.env.qual ++ "<lambda>") ∈ T) (hu : ∀ p ∈ T, p.1 = P → p.2 = X.env.qual ++ "<lambda>")
    (hr : Room (k + 2) X.A) (hg : Gl X x) (L : LamS X.env.scope scope) (hbody : ∀ (A : Around) (outer : List Env) (s : Shared) (H : Hp) (E : XK) (f c' : Addr), Room k (A.deeper (lamEnv X scope s.heap.objs.size f c')) → PE (lamCx X A outer s H E scope f c') body (t E))
    (hdef : defaultsOf params X.env = ([], []) := by rfl) (hbind : ∀ (q : Str) (cl : List (Str × Addr)) (pm cv ctv : Value), bindArgs (PySem.W.kla_fn "<lambda>" q params body scope cl pm cv ctv) ⟨[], []⟩ = pure [] := by exact fun _ _ _ _ _ => rfl)
    (hdb : (x == ("__debug__" : Str)) = false := by decide) (hd : (a == ("__debug__" : Str)) = false := by decide) (hcd : (a == ("__classdict__" : Str)) = false := by decide) :
    PE X (.Call (.Name x p) [.Lambda params body scope lpos] [] pos) (tLamW T TT t) := by
  constructor
  rintro pins s σ H Q I ⟨hT, h⟩
  refine wpAny_Call_Name_kw (ld_glob I hg D.hm ?_ hdb)
  refine PySem.W.callWith_K (h₀ := X.base) I.ok.mod.kin D.fn.kp ?_ (by rfl) (by rfl)
  refine Calls.spliced_cons (lam_make2 I TB hcode hmT hu hT hdef (L.has I.ok) fun f c' pm' ctv H1 s' I1 eN T1 hf hfn hfr hco => ?_)
  refine Calls.spliced_nil ⟨I1.kIn, ?_⟩
  obtain ⟨oc, od, kV, doc, pm, an, ct, osl, efd, lk⟩ := D.fn.ex
  subst efd
  have ran : codeAny (model X.prog X.w) X.A (.call (.ref g) ⟨[.ref f], []⟩) (CR CX0 X.stack X.prog X.w H1 s' Q E0) s' := by
    refine LamX.run_ofS (N := Ng) (ps := [a]) (us := [.ref f]) (vs := [.ref f]) lk D.fn.cd D.sg hr I1.env0 (D.hb s' [.ref f] I1.kIn rfl) (.cons rfl .nil) rfl fun room => ?_
    obtain ⟨t', ps, run⟩ := hG f c' s' H1 Q (fun E H' Q' => t E σ H' Q') room (fun W pn xe p1 p2 tk => pe_actW (i := 0) I1 L hf hfn hfr (hbind _ _ _ _ _) tk room (fun A outer s H E r => hbody A outer s H E f c' r) D.h0 D.hv hd hcd) hco (h H1 eN T1)
    exact ⟨t', ps.nox, run⟩
  refine wpAny_call (codeAny_mono ran fun r s2 hq => ?_)
  match r, hq with
  | .ok (.ret u), hq => exact I1.after hq
  | .ok .next, hq => exact hq.elim
  | .ok .brk, hq => exact hq.elim
  | .ok .cont, hq => exact hq.elim
  | .error e, hq => exact False.elim hq
end

/-! ### tuples of great ints -/
structure GoodN (L : Nat) (d : PyData) (dep w : Nat) : Prop where
  sh : d.showable = true
  nd : d.hasDict = false
  dp : d.depth ≤ dep
  sl : d.leavesShort L = true
  wt : d.weight ≤ w
theorem GoodN.int {z : Int} (h : z.natAbs < 2 ^ 400) : GoodN 130 (.int z) 0 401 := by
  have hl : z.natAbs.log2 < 400 := PySem.Flt.log2_lt_of (by decide) h
  refine ⟨?_, rfl, Nat.le_refl _, ?_, ?_⟩
  · simp only [PyData.showable, decide_eq_true_eq]
    omega
  · simp only [PyData.leavesShort, PyData.shown]
    have := int_text_length_le10 (a := z) (k := 121) (by decide) (Nat.lt_of_lt_of_le h (by decide))
    refine decide_eq_true ?_
    show (Str.ofString (toString z)).length ≤ 130
    rw [PySem.ofString_length]
    omega
  · simp only [PyData.weight]
    split <;> omega
theorem goodN_all {L k w : Nat} : ∀ {ds : List PyData}, (∀ d ∈ ds, GoodN L d k w) → PyData.showableAll ds = true ∧ PyData.hasDictAll ds = false ∧ PyData.depthAll ds ≤ k ∧ PyData.leavesShortAll L ds = true ∧ PyData.weightAll ds ≤ ds.length * (w + 1)
  | [], _ => ⟨rfl, rfl, Nat.zero_le _, rfl, Nat.zero_le _⟩
  | d :: ds, h => by
    obtain ⟨a1, a2, a3, a4, a5⟩ := goodN_all (ds := ds) fun x hx => h x (List.mem_cons_of_mem _ hx)
    have g := h d List.mem_cons_self
    refine ⟨?_, ?_, ?_, ?_, ?_⟩
    · simp only [PyData.showableAll, g.sh, a1, Bool.and_self]
    · simp only [PyData.hasDictAll, g.nd, a2, Bool.or_self]
    · simp only [PyData.depthAll]
      exact Nat.max_le.mpr ⟨g.dp, a3⟩
    · simp only [PyData.leavesShortAll, g.sl, a4, Bool.and_self]
    · simp only [PyData.weightAll, List.length_cons, Nat.add_mul]
      have := g.wt
      omega
theorem GoodN.tuple {L : Nat} {ds : List PyData} {k w n : Nat} (h : ∀ d ∈ ds, GoodN L d k w) (hn : ds.length ≤ n) : GoodN L (.tuple ds) (k + 1) (n * (w + 1)) := by
  obtain ⟨a1, a2, a3, a4, a5⟩ := goodN_all h
  exact ⟨by simpa only [PyData.showable] using a1, by simpa only [PyData.hasDict] using a2, by simp only [PyData.depth]; omega, by simpa only [PyData.leavesShort] using a4, by simp only [PyData.weight]; exact Nat.le_trans a5 (Nat.mul_le_mul_right _ hn)⟩

/-! ### try: body, except (c, c2) as n: suite; behind it the exception stands among ours -/
/-- the clause of two classes takes it; behind a suite that runs through, the exception at a is kept -/
def wKp2 (K : PySem.W.Frag) (c c2 : Value) (i : Nat) (ts : Addr → Value → Option Addr → TS) (D : Ends) : WX := fun cls d σ H =>
  PySem.W.exmAny K cls [c, c2] = some true ∧ ∀ a, H a = none → ts a cls d { nx := fun σ' H' => D.nx (σ'.set i none) (upd H' a (exk a cls d)), rt := D.rt, bk := fun σ' H' => D.bk (σ'.set i none) H', ct := fun σ' H' => D.ct (σ'.set i none) H' } (σ.set i (some (.ref a))) H
theorem flying_keeps {B h h' : Heap} {l : List Env} {e : Addr} {Z : Obj → Prop} (f : HandSPX.FlyingZ B l e Z h) (kp : ∀ q o, h.get? q = some o → h'.get? q = some o) : HandSPX.FlyingZ B l e Z h' := by
  obtain ⟨f1, f2, f3, oe, vs, T, oT, ts, q1, q2, q3, q4, q5, q6, q7, q8, q9⟩ := f
  exact ⟨fun b o e => kp _ _ (f1 b o e), f2, f3.of_keeps (fun b o e _ => ⟨o, kp _ _ e, rfl⟩), oe, vs, T, oT, ts, kp _ _ q1, q2, q3, q4, q5, q6, kp _ _ q7, q8, q9⟩
section
variable {X : Cx} {x x2 n : Str} {c c2 : Value} {i : Nat} {body suite : List Stmt} {b₀ : Stmt} {np np2 tpos pos pos' : Pos} {kk : Nat} {tb : WX → TS} {ts : Addr → Value → Option Addr → TS}
theorem ps_try_kp2 (hs : X.stack = X.env :: X.outer) (hf : X.env.frame = some X.env.locals) (hx : X.ex = []) (hN : X.N.Nodup) (hi : X.N[i]? = some n) (hln : X.env.kindOf n = some .local) (hc : Names X x c) (hc2 : Names X x2 c2)
    (hb : ∀ (W : WX) (pn : List (Addr × Obj)) (xe : Value → Shared → Prop), Takes (X.tr pn xe) W → PassesOwn (model X.prog X.w) X.A X.env xe → PSs (X.tr pn xe) body (tb W))
    (hsu : ∀ (a : Addr) (oe : Obj) (cls : Value) (d : Option Addr) (pn : List (Addr × Obj)), Zc cls d oe → (∃ vs, oe.data = .fields vs) → PSs (X.suite a ((a, oe) :: pn)) (b₀ :: suite) (ts a cls d)) :
    PS X (.Try body [.ExceptHandler (some (.Tuple [.Name x np, .Name x2 np2] kk tpos)) (some n) (b₀ :: suite) pos'] [] [] pos) (fun D σ H => tb (wKp2 X.K c c2 i ts D) D σ H) := by
  refine ⟨fun pins s σ H D I h => ?_⟩
  have okX := I.ok
  have frm : X.A.frames = some (X.env :: X.outer) := hs ▸ okX.frames
  refine wpAny_Try_except (wpAny_mono ((hb (wKp2 X.K c c2 i ts D) (X.pn ++ pins)
    (fun v t => wpAny (model X.prog X.w) X.A (noteFrame v X.env) (fun _ t1 => wpAny (model X.prog X.w) X.A (setFlight v none)
      (fun _ t2 => wpAny (model X.prog X.w) X.A (handleBy v X.env [.ExceptHandler (some (.Tuple [.Name x np, .Name x2 np2] kk tpos)) (some n) (b₀ :: suite) pos']) (SP X pins D) X.xe t2) X.xe t1) X.xe t)
    (fun v t air => ?air) PassesOwn.looking).run [] s σ H D (I.toTry _) h) (fun fl t q => ?thru) fun _ _ z => z)
  case thru =>
    cases fl with
    | next =>
      obtain ⟨σ1, H1, J, q⟩ := q
      exact wpAny_execs_nil ⟨σ1, H1, J.ofTry okX, q⟩
    | ret v =>
      obtain ⟨v1, σ1, H1, J, r, q⟩ := q
      exact ⟨v1, σ1, H1, J.ofTry okX, r, q⟩
    | brk =>
      obtain ⟨σ1, H1, J, q⟩ := q
      exact ⟨σ1, H1, J.ofTry okX, q⟩
    | cont =>
      obtain ⟨σ1, H1, J, q⟩ := q
      exact ⟨σ1, H1, J.ofTry okX, q⟩
  case air =>
    obtain ⟨a, B, sI, pins1, σ1, H1, cls, d, rfl, J0, nb, up, sky, na, os, ag, hm, hyes⟩ := air
    have J : Inv X pins σ1 H1 sI := J0.ofTry okX
    have sky1 : Sky B (X.env :: X.outer) a (Zc cls d) X.env.locals t.heap := hs ▸ sky
    refine Sky.land Zc.steady frm hf sky1 fun h3 fl3 up3 => ?_
    have J3 : Inv X pins σ1 H1 { t with heap := h3 } := J.landed nb fl3.1 (up.trans up3) os ag
    obtain ⟨oe3, vs3, he3, hz3, hd3⟩ := fl3.there
    have off : ∀ {hh : Heap} {o : Obj} {vs : Array Value}, hh.FunFrames B (X.env :: X.outer) → hh.get? a = some o → o.data = .fields vs → a ∉ frs (X.env :: X.outer) := fun ff e1 e2 hm => by
      obtain ⟨_, o', e3, nf⟩ := ff.mem hm
      rw [e1] at e3
      cases e3
      exact nf _ e2
    have offS := off fl3.2.2.1 he3 hd3
    have nL : a ≠ X.env.locals := fun y => offS (List.mem_filterMap.mpr ⟨X.env, List.mem_cons_self, by rw [hf, y]⟩)
    have nF : a ∉ X.fs := fun hm => by
      obtain ⟨e1, m1, m2⟩ := List.mem_filterMap.mp hm
      exact offS (List.mem_filterMap.mpr ⟨e1, List.mem_cons_of_mem _ m1, m2⟩)
    -- it is new since the entry
    have newI : sI.heap.get? a = none := by
      cases q : sI.heap.get? a with
      | none => rfl
      | some o =>
        have := nb a o q (hs ▸ offS)
        rw [fl3.2.1] at this
        cases this
    have new0 : X.s_0.heap.get? a = none := by
      cases q : X.s_0.heap.get? a with
      | none => rfl
      | some o =>
        obtain ⟨o', q'⟩ := J.base.there a o q (by rw [hx]; simp)
        rw [newI] at q'
        cases q'
    have newP : ∀ p ∈ X.pn ++ pins, p.1 ≠ a := fun p hp y => by
      have := (J.pin p hp).1
      rw [y, newI] at this
      cases this
    have S3 := J3.suite he3 hd3 na nL nF
    refine wpAny_handleBy_cons (codeAny_handlers_test ?_) (by intro q; cases q)
    have look : PySem.W.Looks (model X.prog X.w) h3 (typeOf (.ref a)) cls := fun _ _ _ _ k q => wpAny_typeOf_ref (k _ _ he3) (hz3.1 ▸ q)
    have name : ∀ {x : Str} {c : Value} {np : Pos} {Q : Value → Shared → Prop} {E : Value → Shared → Prop}, Names X x c → Q c { t with heap := h3 } → wpAny (model X.prog X.w) (X.A.mark (some (.ref a))) (eval (.Name x np) X.env) Q E { t with heap := h3 } := fun hc q => by
      obtain ⟨g1, g2, g3 | ⟨g3, g4, g5⟩⟩ := hc
      · exact ld_glob (X := X.suite a ((a, oe3) :: (X.pn ++ pins))) S3 g1 g3 q g2
      · exact ld_blt (X := X.suite a ((a, oe3) :: (X.pn ++ pins))) S3 g1 g3 g4 q g5 g2
    have kp : ∀ q o, h3.get? q = some o → (h3.push { cls := .type "tuple", data := .seq [c, c2].toArray }).get? q = some o := fun _ _ z => Heap.get?_push_of_some _ z
    have upP : h3.UpToSlots (h3.push { cls := .type "tuple", data := .seq [c, c2].toArray }) := fun b o e _ => ⟨o.slots, kp _ _ e⟩
    have flP := flying_keeps fl3 kp
    have LM := PySem.W.exm_tup2 (M := model X.prog X.w) (J3.kIn.keeps kp) (look.keeps kp) (Heap.get?_push_size h3 rfl) hm
    refine wpAny_Tuple ?_
    refine wpAny_items_cons (name hc ?_)
    refine wpAny_items_cons (name hc2 ?_)
    refine wpAny_items_nil ⟨Nat.le_trans (Nat.le_refl 2) (by decide), ?_⟩
    refine LM.here (codeAny_handlers_suite_as (HandSPX.lands_againZ flP fun h4 fl4 up4 => ?_))
    have J4 : Inv X pins σ1 H1 { t with heap := h4 } := J.landed nb fl4.1 (((up.trans up3).trans upP).trans up4) os ag
    obtain ⟨oe4, vs4, he4, hz4, hd4⟩ := fl4.there
    have S4 := J4.suite he4 hd4 na nL nF
    refine store_ok (X := X.suite a ((a, oe4) :: (X.pn ++ pins))) (v := .ref a) S4 hN hi (.inl hln) rfl (fun s5 S5 => ?_) (.inr hln)
    refine wpAny_mono ((hsu a oe4 cls d (X.pn ++ pins) hz4 ⟨_, hd4⟩).run [] s5 _ H1 _ S5 (hyes a na)) (fun fl s6 q => ?_) (fun _ _ z => z.elim)
    have leave : ∀ {σ6 : L2.St} {H6 : Hp} {Q : Shared → Prop}, Inv (X.suite a ((a, oe4) :: (X.pn ++ pins))) [] σ6 H6 s6 → (∀ s7, Inv (X.suite a ((a, oe4) :: (X.pn ++ pins))) [] (σ6.set i none) H6 s7 → Q s7) →
        wpAny (model X.prog X.w) X.A (do bindName X.env n .none; unbindBehindTheSuite X.env n pos') (fun _ s7 => Q s7) X.xe s6 := fun S6 g => gone_ok (X := X.suite a ((a, oe4) :: (X.pn ++ pins))) S6 hN hi hln g
    cases fl with
    | next =>
      obtain ⟨σ6, H6, S6, q6⟩ := q
      refine leave S6 fun s7 S7 => ⟨_, _, ?_, q6⟩
      obtain ⟨p1, p2, p3, _⟩ := S7.pin (a, oe4) (List.mem_append_left _ List.mem_cons_self)
      exact Inv.track (S7.unsuite okX) p1 hz4 hd4 p2 nL new0 newP
    | brk =>
      obtain ⟨σ6, H6, S6, q6⟩ := q
      exact leave S6 fun s7 S7 => ⟨_, _, S7.unsuite okX, q6⟩
    | cont =>
      obtain ⟨σ6, H6, S6, q6⟩ := q
      exact leave S6 fun s7 S7 => ⟨_, _, S7.unsuite okX, q6⟩
    | ret u =>
      obtain ⟨v6, σ6, H6, S6, r6, q6⟩ := q
      exact leave S6 fun s7 S7 => ⟨_, _, _, S7.unsuite okX, r6, q6⟩
end

/-! ### a comprehension with two fors -/
section
variable {K : PySem.W.Frag} {σ : SS} {H : Hp} {Q : VK} {g g1 : TG} {te : TE} {ta : TA} {tt tt1 : TT} {wi1 : TI} {vs vs1 : List Nat}
/-- the inner walk's own loop, over J1; what is found goes behind the list at D; at its end Nx -/
def WI (J1 : It) (g1 : TG) (tt1 : TT) (te : TE) (vs1 : List Nat) (σ : SS) (D : Addr) (H : Hp) (Nx : Hp → Prop) : Prop := ∃ W1 : Nat → Nat → Hp → Prop, (∃ m, W1 0 m H) ∧ ∀ j k H, W1 j k H →
  (J1.stop j H ∧ Nx H) ∨ (J1.go j H ∧ ∃ Nx1 : Hp → Prop, (∀ H', Nx1 H' → ∃ k', k' < k ∧ W1 (j + 1) k' H') ∧ ∀ x H', J1.yld j H x H' → g1 x (wipe σ vs1) H' fun σ3 H5 => wipe σ3 vs1 = wipe σ vs1 ∧ tt1 σ3 H5 fun b H6 =>
    if b = true then te σ3 H6 fun y H7 => ∃ acc, H7 D = some (.lst acc) ∧ acc.length < sizeLine ∧ Nx1 (upd H7 D (.lst (acc ++ [y]))) else Nx1 H6)
def WC2 (J : It) (g : TG) (tt : TT) (wi1 : TI) (g1 : TG) (tt1 : TT) (te : TE) (vs vs1 : List Nat) (σ : SS) (H : Hp) (Q : VK) : Prop := ∀ D, H D = none → ∃ W : Nat → Nat → Hp → Prop, (∃ m, W 0 m (upd H D (.lst []))) ∧ ∀ i m H, W i m H →
  (J.stop i H ∧ Q (.ref D) H) ∨ (J.go i H ∧ ∃ Nx : Hp → Prop, (∀ H', Nx H' → ∃ m', m' < m ∧ W (i + 1) m' H') ∧ ∀ x H', J.yld i H x H' → g x (wipe σ vs) H' fun σ2 H2 => wipe σ2 vs = wipe σ vs ∧ tt σ2 H2 fun b H3 =>
    if b = true then wi1 σ2 H3 fun J1 H4 => WI J1 g1 tt1 te vs1 σ2 D H4 Nx else Nx H3)
theorem x_lc2 {wi : TI} (q : wi σ H fun J H1 => WC2 J g tt wi1 g1 tt1 te vs vs1 σ H1 Q) : tLc2 wi g tt wi1 g1 tt1 te vs vs1 σ H Q := q
def AskC2 (n : Nat) (G : Hp → Prop) (Y : Nat → Hp → V → Hp → Prop) (g : TG) (tt : TT) (wi1 : TI) (g1 : TG) (tt1 : TT) (te : TE) (vs vs1 : List Nat) (σ : SS) (H : Hp) (Q : VK) : Prop :=
  ∀ D, H D = none → ∃ Pv : Nat → Hp → Prop, Pv 0 (upd H D (.lst [])) ∧ (∀ i H, i ≤ n → Pv i H → G H) ∧
    (∀ i x H H', i < n → Pv i H → Y i H x H' → g x (wipe σ vs) H' fun σ2 H2 => wipe σ2 vs = wipe σ vs ∧ tt σ2 H2 fun b H3 =>
      if b = true then wi1 σ2 H3 fun J1 H4 => WI J1 g1 tt1 te vs1 σ2 D H4 (Pv (i + 1)) else Pv (i + 1) H3) ∧ ∀ H, Pv n H → Q (.ref D) H
def AskI (n : Nat) (G : Hp → Prop) (Y : Nat → Hp → V → Hp → Prop) (g1 : TG) (tt1 : TT) (te : TE) (vs1 : List Nat) (σ : SS) (D : Addr) (H : Hp) (Nx : Hp → Prop) : Prop :=
  ∃ Pv : Nat → Hp → Prop, Pv 0 H ∧ (∀ i H, i ≤ n → Pv i H → G H) ∧
    (∀ i x H H', i < n → Pv i H → Y i H x H' → g1 x (wipe σ vs1) H' fun σ2 H2 => wipe σ2 vs1 = wipe σ vs1 ∧ tt1 σ2 H2 fun b H3 =>
      if b = true then te σ2 H3 fun y H4 => ∃ acc, H4 D = some (.lst acc) ∧ acc.length < sizeLine ∧ Pv (i + 1) (upd H4 D (.lst (acc ++ [y]))) else Pv (i + 1) H3) ∧ ∀ H, Pv n H → Nx H
theorem askC2 {J : It} {n : Nat} {G : Hp → Prop} {Y : Nat → Hp → V → Hp → Prop} (w : Walk J n G Y) (q : AskC2 n G Y g tt wi1 g1 tt1 te vs vs1 σ H Q) : WC2 J g tt wi1 g1 tt1 te vs vs1 σ H Q := by
  intro D hD
  obtain ⟨Pv, h0, hG, hs, hd⟩ := q D hD
  refine ⟨fun i m H1 => (m = n - i ∧ i ≤ n) ∧ Pv i H1, ⟨n, ⟨by simp, Nat.zero_le _⟩, h0⟩, ?_⟩
  rintro i m H1 ⟨⟨e, hi⟩, p⟩
  have gd := hG i H1 hi p
  rcases Nat.lt_or_ge i n with lt | ge
  · exact .inr ⟨w.goes i H1 lt gd, Pv (i + 1), fun H' p' => ⟨n - (i + 1), by omega, ⟨rfl, lt⟩, p'⟩, fun x H' y => hs i x H1 H' lt p (w.yields i H1 x H' lt gd y)⟩
  · obtain rfl : i = n := by omega
    exact .inl ⟨w.stops H1 gd, hd H1 p⟩
theorem askI {J1 : It} {n : Nat} {G : Hp → Prop} {Y : Nat → Hp → V → Hp → Prop} {D : Addr} {Nx : Hp → Prop} (w : Walk J1 n G Y) (q : AskI n G Y g1 tt1 te vs1 σ D H Nx) : WI J1 g1 tt1 te vs1 σ D H Nx := by
  obtain ⟨Pv, h0, hG, hs, hd⟩ := q
  refine ⟨fun i m H1 => (m = n - i ∧ i ≤ n) ∧ Pv i H1, ⟨n, ⟨by simp, Nat.zero_le _⟩, h0⟩, ?_⟩
  rintro i m H1 ⟨⟨e, hi⟩, p⟩
  have gd := hG i H1 hi p
  rcases Nat.lt_or_ge i n with lt | ge
  · exact .inr ⟨w.goes i H1 lt gd, Pv (i + 1), fun H' p' => ⟨n - (i + 1), by omega, ⟨rfl, lt⟩, p'⟩, fun x H' y => hs i x H1 H' lt p (w.yields i H1 x H' lt gd y)⟩
  · obtain rfl : i = n := by omega
    exact .inl ⟨w.stops H1 gd, hd H1 p⟩
variable {a : Addr} {xs : List V}
theorem y_lc2L (h : SqL K H a xs) (q : AskC2 xs.length (fun H => SqL K H a xs) (YA xs) g tt wi1 g1 tt1 te vs vs1 σ H Q) : ∃ b, V.ref a = .ref b ∧ (∃ xs, SqL K H b xs) ∧ WC2 (Itl K b) g tt wi1 g1 tt1 te vs vs1 σ H Q := ⟨a, rfl, ⟨xs, h⟩, askC2 walk_list q⟩
theorem y_lc2E (h : SqL K H a xs) (q : AskC2 xs.length (fun H => SqL K H a xs) (YE xs) g tt wi1 g1 tt1 te vs vs1 σ H Q) : ∃ b ys, [V.ref a] = [.ref b] ∧ SqL K H b ys ∧ WC2 (Ite K b) g tt wi1 g1 tt1 te vs vs1 σ H Q := ⟨a, xs, rfl, h, askC2 walk_enum q⟩
theorem y_lc2ET (h : SqT K H a xs) (q : AskC2 xs.length (fun H => SqT K H a xs) (YE xs) g tt wi1 g1 tt1 te vs vs1 σ H Q) : ∃ b ys, [V.ref a] = [.ref b] ∧ SqT K H b ys ∧ WC2 (IteT K b) g tt wi1 g1 tt1 te vs vs1 σ H Q := ⟨a, xs, rfl, h, askC2 walk_enumT q⟩
theorem y_inET {D : Addr} {Nx : Hp → Prop} (h : SqT K H a xs) (q : AskI xs.length (fun H => SqT K H a xs) (YE xs) g1 tt1 te vs1 σ D H Nx) : ∃ b ys, [V.ref a] = [.ref b] ∧ SqT K H b ys ∧ WI (IteT K b) g1 tt1 te vs1 σ D H Nx := ⟨a, xs, rfl, h, askI walk_enumT q⟩
theorem y_inT {D : Addr} {Nx : Hp → Prop} (h : SqT K H a xs) (q : AskI xs.length (fun H => SqT K H a xs) (YA xs) g1 tt1 te vs1 σ D H Nx) : ∃ b, V.ref a = .ref b ∧ (∃ xs, SqT K H b xs) ∧ WI (Itt K b) g1 tt1 te vs1 σ D H Nx := ⟨a, rfl, ⟨xs, h⟩, askI walk_tup q⟩
theorem y_inR1 {D : Addr} {Nx : Hp → Prop} {j : Int} (h0 : 0 ≤ j) (h1 : j < 1000000) (q : AskI j.toNat (fun _ => True) (YFn fun i => .int (0 + i)) g1 tt1 te vs1 σ D H Nx) : -(2 ^ 62) ≤ j ∧ j < 2 ^ 62 ∧ WI (Itr 0 j.toNat) g1 tt1 te vs1 σ D H Nx :=
  ⟨by omega, by omega, askI walk_range q⟩
theorem y_inL {D : Addr} {Nx : Hp → Prop} (h : SqL K H a xs) (q : AskI xs.length (fun H => SqL K H a xs) (YA xs) g1 tt1 te vs1 σ D H Nx) : ∃ b, V.ref a = .ref b ∧ (∃ xs, SqL K H b xs) ∧ WI (Itl K b) g1 tt1 te vs1 σ D H Nx := ⟨a, rfl, ⟨xs, h⟩, askI walk_list q⟩
end
theorem pi_enumTK {X : Cx} {K : PySem.W.Frag} {e : Expr} {ta : TA} {p pos tpos : Pos} {elts : List Expr} {kk : Nat} (hg : Gl X "enumerate") (hm : X.mg "enumerate" = none) (ha : PA X [e] ta) (hs : starEach [e] X.env = [(false, eval e X.env)] := by rfl) (eK : X.K = K := by rfl) : PI X (.Tuple elts kk tpos) (.Call (.Name "enumerate" p) [e] [] pos) (iEnumT K ta) := eK ▸ pi_enumT hg hm ha hs
/-! ### list.count of truths; list.index of one -/
section
variable {X : Cx}
def rCountB (K : PySem.W.Frag) : V → List V → Hp → VK → Prop := fun x xs H Q => ∃ (a : Addr) (bs : List Bool) (b : Bool), x = .ref a ∧ xs = [.bl b] ∧ SqL K H a (bs.map V.bl) ∧ Q (.int ((bs.count b : Nat) : Int)) H
theorem dp_bls {K : PySem.W.Frag} {H : Hp} : ∀ bs : List Bool, DpAll K H (bs.map V.bl) (bs.map PyData.bool)
  | [] => .nil
  | b :: r => .cons (.bl b) (dp_bls r)
theorem plain_bls : ∀ bs : List Bool, PyData.plainAll (bs.map PyData.bool) = true
  | [] => rfl
  | b :: r => by simp only [List.map_cons, PyData.plainAll, PyData.plain, Bool.true_and]; exact plain_bls r
theorem depth_bls : ∀ bs : List Bool, PyData.depthAll (bs.map PyData.bool) = 0
  | [] => rfl
  | b :: r => by simp only [List.map_cons, PyData.depthAll, PyData.depth, depth_bls r]; rfl
theorem countP_bls (b : Bool) : ∀ bs : List Bool, ((bs.map PyData.bool).countP fun y => PyData.eqv y (.bool b)) = bs.count b
  | [] => rfl
  | c :: r => by
    rw [List.map_cons, List.countP_cons, List.count_cons, countP_bls b r]
    cases b <;> cases c <;> rfl
theorem mt_countB (hu : X.A.units + 64 < cLine) : MtR X "list.count" (rCountB X.K) := by
  intro pins s σ H x xs v us Q I rx rxs h
  obtain ⟨a, bs, b, rfl, rfl, hs, q⟩ := h
  cases rx
  obtain ⟨u, rfl, ru⟩ := rxs.one
  obtain ⟨its, rv, ⟨⟨cls, dd, data, sls⟩, n, ho, hc, hdn, hdt⟩, hlen⟩ := I.list hs
  simp only at hc hdt
  subst hc hdt
  obtain ⟨as, r1⟩ := Dp.reads I (.bool b) (.bl b) u (.bl b) ru
  obtain ⟨as2, r2⟩ := Dp.readsAll I _ _ its (dp_bls bs) rv
  refine SeqAt.count_list_data (vs := its.toArray) ⟨_, ho, rfl, n, rfl⟩ (show ReadsAll s.heap its.toArray.toList _ _ from r2) r1 (plain_bls bs) rfl (by rw [depth_bls]; simp only [Nat.zero_min, PyData.depth]; omega) ?_
  rw [countP_bls]
  exact ⟨.int _, H, I.kept (t' := s.toks + 1) fun _ _ z => z, ⟨_, rfl⟩, q⟩
end

local macro_rules | `(tactic| walk_at "lk") => `(tactic| first
  | assumption
  | exact upd_same
  | (refine' lk_ne ?h (by assumption); (case h => walk_at "lk"))
  | (refine' lk_ne2 ?n ?h; (case n => walk_at "ne"); (case h => walk_at "lk"))
  | (refine' lk_keep (by assumption) ?n ?h; (case n => walk_at "nin"); (case h => walk_at "lk")))
local macro_rules | `(tactic| walk_at "ne") => `(tactic| first
  | assumption
  | exact Ne.symm (by assumption))
local macro_rules | `(tactic| walk_at "nin") => `(tactic| first
  | assumption
  | (simp only [List.mem_cons, List.not_mem_nil, or_false, not_or, not_false_eq_true, and_true]; (repeat' apply And.intro); all_goals walk_at "ne"))
local macro_rules | `(tactic| walk_at "lkL") => `(tactic| first
  | assumption
  | (refine' SqL.of ?h; (case h => walk_at "lk"))
  | (refine' Kx.sqL ?k ?n ?h; (case k => walk_at "kx"); (case n => walk_at "nin"); (case h => walk_at "lkL")))
local macro_rules | `(tactic| walk_at "kx") => `(tactic| first
  | assumption
  | (refine' Kx.new ?k ?n; (case n => assumption); (case k => first | walk_at "kx" | exact Kx.refl [] _)))
local macro_rules | `(tactic| walk_at "lkT") => `(tactic| first
  | assumption
  | (refine' SqT.of ?h; (case h => walk_at "lk"))
  | (refine' FT.seq ?h; (case h => assumption))
  | (refine' Kx.sqT ?k ?n ?h; (case k => walk_at "kx"); (case n => walk_at "nin"); (case h => walk_at "lkT")))
local macro_rules | `(tactic| walk_at "sz") => `(tactic| first
  | exact Nat.zero_le _
  | (show (_ : Nat) ≤ sizeLine; decide)
  | (refine Nat.le_of_lt (small1000 ?h); (case h => first | omega | (simp; done) | (simp; omega))))
local macro_rules | `(tactic| walk_at "at") => `(tactic| first
  | exact rfl
  | assumption)
local macro_rules | `(tactic| walk_at "side") => `(tactic| first
  | assumption
  | (show (0 : Int) < _; first | decide | omega)
  | exact Or.inl ⟨by omega, by omega⟩
  | exact Or.inr ⟨by omega, by omega⟩
  | exact ⟨by omega, by omega⟩
  | exact ⟨by decide, by decide, by decide⟩
  | exact ⟨by decide, by decide, natAbs_lt (by omega) (by omega)⟩
  | exact small1000 (by first | omega | (simp; done) | (simp; omega))
  | omega)
local macro_rules | `(tactic| walk_at "rd") => `(tactic| dsimp only)
local macro_rules | `(tactic| walk_at "rd") => `(tactic| ((with_reducible refine' x_c  ?_)))
local macro_rules | `(tactic| walk_at "rd") => `(tactic| ((with_reducible refine' x_op  ?_)))
local macro_rules | `(tactic| walk_at "rd") => `(tactic| ((with_reducible refine' x_un  ?_)))
local macro_rules | `(tactic| walk_at "rd") => `(tactic| ((with_reducible refine' x_I0  ?_)))
local macro_rules | `(tactic| walk_at "rd") => `(tactic| ((with_reducible refine' x_U  ?_)))
local macro_rules | `(tactic| walk_at "rd") => `(tactic| ((with_reducible refine' x_isN  ?_)))
local macro_rules | `(tactic| walk_at "rd") => `(tactic| ((with_reducible refine' x_notN  ?_)))
local macro_rules | `(tactic| walk_at "rd") => `(tactic| ((with_reducible refine' x_nil  ?_)))
local macro_rules | `(tactic| walk_at "rd") => `(tactic| ((with_reducible refine' x_cons  ?_)))
local macro_rules | `(tactic| walk_at "rd") => `(tactic| ((with_reducible refine' x_lst  ?_)))
local macro_rules | `(tactic| walk_at "rd") => `(tactic| ((with_reducible refine' x_tup  ?_)))
local macro_rules | `(tactic| walk_at "rd") => `(tactic| ((with_reducible refine' x_tupF  ?_)))
local macro_rules | `(tactic| walk_at "rd") => `(tactic| ((with_reducible refine' x_CB  ?_)))
local macro_rules | `(tactic| walk_at "rd") => `(tactic| ((with_reducible refine' x_call  ?_)))
local macro_rules | `(tactic| walk_at "rd") => `(tactic| ((with_reducible refine' x_test  ?_)))
local macro_rules | `(tactic| walk_at "rd") => `(tactic| ((with_reducible refine' x_bl  ?_)))
local macro_rules | `(tactic| walk_at "rd") => `(tactic| ((with_reducible refine' x_B  ?_)))
local macro_rules | `(tactic| walk_at "rd") => `(tactic| ((with_reducible refine' x_andV  ?_)))
local macro_rules | `(tactic| walk_at "rd") => `(tactic| ((with_reducible refine' x_orV  ?_)))
local macro_rules | `(tactic| walk_at "rd") => `(tactic| ((with_reducible refine' x_notV  ?_)))
local macro_rules | `(tactic| walk_at "rd") => `(tactic| ((with_reducible refine' x_and  ?_)))
local macro_rules | `(tactic| walk_at "rd") => `(tactic| ((with_reducible refine' x_or  ?_)))
local macro_rules | `(tactic| walk_at "rd") => `(tactic| ((with_reducible refine' x_not  ?_)))
local macro_rules | `(tactic| walk_at "rd") => `(tactic| ((with_reducible refine' x_if  ?_)))
local macro_rules | `(tactic| walk_at "rd") => `(tactic| ((with_reducible refine' x_sl  ?_)))
local macro_rules | `(tactic| walk_at "rd") => `(tactic| ((with_reducible refine' x_no  ?_)))
local macro_rules | `(tactic| walk_at "rd") => `(tactic| ((with_reducible refine' x_part  ?_)))
local macro_rules | `(tactic| walk_at "rd") => `(tactic| ((with_reducible refine' x_int  ?_)))
local macro_rules | `(tactic| walk_at "rd") => `(tactic| ((with_reducible refine' x_seq  ?_)))
local macro_rules | `(tactic| walk_at "rd") => `(tactic| ((with_reducible refine' x_next  ?_)))
local macro_rules | `(tactic| walk_at "rd") => `(tactic| ((with_reducible refine' x_brk  ?_)))
local macro_rules | `(tactic| walk_at "rd") => `(tactic| ((with_reducible refine' x_cont  ?_)))
local macro_rules | `(tactic| walk_at "rd") => `(tactic| ((with_reducible refine' x_drop  ?_)))
local macro_rules | `(tactic| walk_at "rd") => `(tactic| ((with_reducible refine' x_ret  ?_)))
local macro_rules | `(tactic| walk_at "rd") => `(tactic| ((with_reducible refine' x_retN  ?_)))
local macro_rules | `(tactic| walk_at "rd") => `(tactic| ((with_reducible refine' x_asg  ?_)))
local macro_rules | `(tactic| walk_at "rd") => `(tactic| ((with_reducible refine' x_gnil  ?_)))
local macro_rules | `(tactic| walk_at "rd") => `(tactic| ((with_reducible refine' x_gcons  ?_)))
local macro_rules | `(tactic| walk_at "rd") => `(tactic| ((with_reducible refine' x_gsub  ?_)))
local macro_rules | `(tactic| walk_at "rd") => `(tactic| ((with_reducible refine' x_par  ?_)))
local macro_rules | `(tactic| walk_at "rd") => `(tactic| ((with_reducible refine' x_ifS  ?_)))
local macro_rules | `(tactic| walk_at "rd") => `(tactic| ((with_reducible refine' x_ipI  ?_)))
local macro_rules | `(tactic| walk_at "rd") => `(tactic| ((with_reducible refine' x_augS  ?_)))
local macro_rules | `(tactic| walk_at "rd") => `(tactic| ((with_reducible refine' x_abs  ?_)))
local macro_rules | `(tactic| walk_at "rd") => `(tactic| ((with_reducible refine' x_toI  ?_)))
local macro_rules | `(tactic| walk_at "rd") => `(tactic| ((with_reducible refine' x_toIb  ?_)))
local macro_rules | `(tactic| walk_at "rd") => `(tactic| ((with_reducible refine' x_min2  ?_)))
local macro_rules | `(tactic| walk_at "rd") => `(tactic| ((with_reducible refine' x_bm  ?_)))
local macro_rules | `(tactic| walk_at "rd") => `(tactic| ((with_reducible refine' x_bm0  ?_)))
local macro_rules | `(tactic| walk_at "rd") => `(tactic| ((with_reducible refine' x_bmF  ?_)))
local macro_rules | `(tactic| walk_at "rd") => `(tactic| ((with_reducible refine' x_lrg  ?_)))
local macro_rules | `(tactic| walk_at "rd") => `(tactic| ((with_reducible refine' x_yes  ?_)))
local macro_rules | `(tactic| walk_at "rd") => `(tactic| ((with_reducible refine' x_rg1  ?_)))
local macro_rules | `(tactic| walk_at "rd") => `(tactic| ((with_reducible refine' x_for  ?_)))
local macro_rules | `(tactic| walk_at "rd") => `(tactic| ((with_reducible refine' x_lc  ?_)))
local macro_rules | `(tactic| walk_at "rd") => `(tactic| ((with_reducible refine' x_iL  ?_)))
local macro_rules | `(tactic| walk_at "rd") => `(tactic| ((with_reducible refine' x_iT  ?_)))
local macro_rules | `(tactic| walk_at "rd") => `(tactic| ((with_reducible refine' x_iR1  ?_)))
local macro_rules | `(tactic| walk_at "rd") => `(tactic| ((with_reducible refine' x_iR2  ?_)))
local macro_rules | `(tactic| walk_at "rd") => `(tactic| ((with_reducible refine' x_iE  ?_)))
local macro_rules | `(tactic| walk_at "rd") => `(tactic| ((with_reducible refine' x_iET  ?_)))
local macro_rules | `(tactic| walk_at "rd") => `(tactic| ((with_reducible refine' x_name  ?_); try simp only [List.set_cons_zero, List.set_cons_succ]))
local macro_rules | `(tactic| walk_at "rd") => `(tactic| ((with_reducible refine' x_new ?s0 ?_); (case s0 => walk_at "sz"); intro _ _))
local macro_rules | `(tactic| walk_at "rd") => `(tactic| ((with_reducible refine' x_newF ?s0 ?_); (case s0 => walk_at "sz"); intro _ _ _ _ _))
local macro_rules | `(tactic| walk_at "rd") => `(tactic| ((with_reducible refine' x_iteT  ?_)))
local macro_rules | `(tactic| walk_at "rd") => `(tactic| ((with_reducible refine' x_iteF  ?_)))
local macro_rules | `(tactic| walk_at "rd") => `(tactic| ((with_reducible refine' x_neNil ?s0 ?s1 ?_); (case s0 => walk_at "lkL"); (case s1 => walk_at "lkL")))
local macro_rules | `(tactic| walk_at "rd") => `(tactic| ((with_reducible refine' x_two  ?_); try simp only [List.set_cons_zero, List.set_cons_succ]))
local macro_rules | `(tactic| walk_at "rd") => `(tactic| ((with_reducible refine' x_getL ?s0 ?s1 ?_); (case s0 => walk_at "lkL"); (case s1 => walk_at "at")))
local macro_rules | `(tactic| walk_at "rd") => `(tactic| ((with_reducible refine' x_var ?s0 ?_); (case s0 => exact rfl)))
local macro_rules | `(tactic| walk_at "rd") => `(tactic| ((with_reducible refine' x_eq ?s0 ?_); (case s0 => exact rfl)))
local macro_rules | `(tactic| walk_at "rd") => `(tactic| ((with_reducible refine' x_ne ?s0 ?_); (case s0 => exact rfl)))
local macro_rules | `(tactic| walk_at "rd") => `(tactic| ((with_reducible refine' x_I ?s0 ?_); (case s0 => walk_at "side")))
local macro_rules | `(tactic| walk_at "rd") => `(tactic| ((with_reducible refine' x_ixL ?s0 ?s1 ?_); (case s0 => walk_at "lkL"); (case s1 => walk_at "at")))
local macro_rules | `(tactic| walk_at "rd") => `(tactic| ((with_reducible refine' x_ixT ?s0 ?s1 ?_); (case s0 => walk_at "lkT"); (case s1 => walk_at "at")))
local macro_rules | `(tactic| walk_at "rd") => `(tactic| ((with_reducible refine' x_slL ?s0 ?_); (case s0 => walk_at "lkL")))
local macro_rules | `(tactic| walk_at "rd") => `(tactic| ((with_reducible refine' x_gtup ?s0 ?s1 ?_); (case s0 => walk_at "lkT"); (case s1 => exact rfl)))
local macro_rules | `(tactic| walk_at "rd") => `(tactic| ((with_reducible refine' x_setL ?s0 ?s1 ?_); (case s0 => walk_at "lk"); (case s1 => walk_at "at"); try simp only [Int.reduceToNat, List.set]))
local macro_rules | `(tactic| walk_at "rd") => `(tactic| ((with_reducible refine' x_aug ?s0 ?_); (case s0 => exact rfl)))
local macro_rules | `(tactic| walk_at "rd") => `(tactic| ((with_reducible refine' x_lenS ?s0 ?_); (case s0 => walk_at "lkL")))
local macro_rules | `(tactic| walk_at "rd") => `(tactic| ((with_reducible refine' x_lenT ?s0 ?_); (case s0 => walk_at "lkT")))
local macro_rules | `(tactic| walk_at "rd") => `(tactic| ((with_reducible refine' x_tupS ?s0 ?_); (case s0 => walk_at "lkL")))
local macro_rules | `(tactic| walk_at "rd") => `(tactic| ((with_reducible refine' x_tupF1 ?s0 ?_); (case s0 => walk_at "lkL")))
local macro_rules | `(tactic| walk_at "rd") => `(tactic| ((with_reducible refine' x_insert ?s0 ?s1 ?s2 ?s3 ?_); (case s0 => walk_at "lk"); (case s1 => walk_at "side"); (case s2 => walk_at "side"); (case s3 => walk_at "side")))
local macro_rules | `(tactic| walk_at "rd") => `(tactic| ((with_reducible refine' x_append ?s0 ?s1 ?_); (case s0 => walk_at "lk"); (case s1 => walk_at "side")))
local macro_rules | `(tactic| walk_at "rd") => `(tactic| ((with_reducible refine' x_reverse ?s0 ?_); (case s0 => walk_at "lk")))
local macro_rules | `(tactic| walk_at "rd") => `(tactic| ((with_reducible refine' x_dc  ?_)))
local macro_rules | `(tactic| walk_at "rd") => `(tactic| ((with_reducible refine' x_while  ?_)))
local macro_rules | `(tactic| walk_at "rd") => `(tactic| ((with_reducible refine' x_din  ?_)))
local macro_rules | `(tactic| walk_at "rd") => `(tactic| ((with_reducible refine' x_dnotin  ?_)))
local macro_rules | `(tactic| walk_at "rd") => `(tactic| ((with_reducible refine' x_dput  ?_)))
local macro_rules | `(tactic| walk_at "rd") => `(tactic| ((with_reducible refine' x_dget  ?_)))
local macro_rules | `(tactic| walk_at "rd") => `(tactic| ((with_reducible refine' x_pop ?s0 ?s1 ?_); (case s0 => walk_at "lk"); (case s1 => walk_at "at")))
local macro_rules | `(tactic| walk_at "rd") => `(tactic| ((with_reducible refine' x_dgI ?s0 ?_); (case s0 => walk_at "lk")))
local macro_rules | `(tactic| walk_at "rd") => `(tactic| ((with_reducible refine' x_dpI ?s0 ?s1 ?_); (case s0 => walk_at "lk"); (case s1 => walk_at "side")))
local macro_rules | `(tactic| walk_at "rd") => `(tactic| ((with_reducible refine' x_listD ?s0 ?_); (case s0 => walk_at "lk"); intro _ _))
local macro_rules | `(tactic| walk_at "rd") => `(tactic| ((with_reducible refine' x_truthL ?s0 ?_); (case s0 => walk_at "lkL")))
local macro_rules | `(tactic| walk_at "rd") => `(tactic| ((with_reducible refine' x_inL ?s0 ?s1 ?s2 ?_); (case s0 => walk_at "lkL"); (case s1 => exact rfl); (case s2 => first | assumption | exact flat_ints _)))
local macro_rules | `(tactic| walk_at "rd") => `(tactic| ((with_reducible refine' x_notInL ?s0 ?s1 ?s2 ?_); (case s0 => walk_at "lkL"); (case s1 => exact rfl); (case s2 => first | assumption | exact flat_ints _)))
local macro_rules | `(tactic| walk_at "rd") => `(tactic| ((with_reducible refine' x_kw  ?_)))
local macro_rules | `(tactic| walk_at "rd") => `(tactic| ((with_reducible refine' x_ckw  ?_)))
local macro_rules | `(tactic| walk_at "rd") => `(tactic| ((with_reducible refine' x_iR3  ?_)))
local macro_rules | `(tactic| walk_at "rd") => `(tactic| ((with_reducible refine' x_par3  ?_); try simp only [List.set_cons_zero, List.set_cons_succ]))
local macro_rules | `(tactic| walk_at "rd") => `(tactic| ((with_reducible refine' x_three  ?_); try simp only [List.set_cons_zero, List.set_cons_succ]))
local macro_rules | `(tactic| walk_at "rd") => `(tactic| ((with_reducible refine' x_orT  ?_)))
local macro_rules | `(tactic| walk_at "rd") => `(tactic| ((with_reducible refine' x_truN  ?_)))
local macro_rules | `(tactic| walk_at "rd") => `(tactic| ((with_reducible refine' x_truT ?s0 ?_); (case s0 => walk_at "lkT")))
local macro_rules | `(tactic| walk_at "rd") => `(tactic| ((with_reducible refine' x_glst ?s0 ?s1 ?_); (case s0 => walk_at "lkL"); (case s1 => exact rfl)))
local macro_rules | `(tactic| walk_at "rd") => `(tactic| ((with_reducible refine' x_chain  ?_)))
local macro_rules | `(tactic| walk_at "rd") => `(tactic| ((with_reducible refine' x_isiII  ?_)))
local macro_rules | `(tactic| walk_at "rd") => `(tactic| ((with_reducible refine' x_isiIB  ?_)))
local macro_rules | `(tactic| walk_at "rd") => `(tactic| ((with_reducible refine' x_revL  ?_)))
local macro_rules | `(tactic| walk_at "rd") => `(tactic| ((with_reducible refine' x_kwx  ?_)))
local macro_rules | `(tactic| walk_at "rd") => `(tactic| ((with_reducible refine' x_rg2  ?_)))
local macro_rules | `(tactic| walk_at "rd") => `(tactic| ((with_reducible refine' x_int2  ?_)))
local macro_rules | `(tactic| walk_at "rd") => `(tactic| ((with_reducible refine' x_dget2  ?_)))
def topS (i : Nat) : Stmt := PySem.Challenge.pw_slotfall_k11_refused_nodes_and_slots.main.body.getD i (.Pass ⟨0, 0, 0, 0⟩)
abbrev sWall : Stmt := topS 0
theorem scWall : FnScope ["k"] ["k"] (defScope sWall) := ⟨rfl, rfl, rfl, by decide +kernel, rfl, by decide +kernel, by decide +kernel⟩
abbrev sNoNodeInit : Stmt := inClass (topS 4) 0
theorem scNoNodeInit : FnScope ["self", "node"] ["self", "node"] (defScope sNoNodeInit) := ⟨rfl, rfl, rfl, by decide +kernel, rfl, by decide +kernel, by decide +kernel⟩
abbrev sNoReferenceInit : Stmt := inClass (topS 5) 0
theorem scNoReferenceInit : FnScope ["self", "node"] ["self", "node"] (defScope sNoReferenceInit) := ⟨rfl, rfl, rfl, by decide +kernel, rfl, by decide +kernel, by decide +kernel⟩
abbrev sNoSlotInit : Stmt := inClass (topS 6) 0
theorem scNoSlotInit : FnScope ["self", "slot"] ["self", "slot"] (defScope sNoSlotInit) := ⟨rfl, rfl, rfl, by decide +kernel, rfl, by decide +kernel, by decide +kernel⟩
abbrev sNotFreedInit : Stmt := inClass (topS 7) 0
theorem scNotFreedInit : FnScope ["self", "node"] ["self", "node"] (defScope sNotFreedInit) := ⟨rfl, rfl, rfl, by decide +kernel, rfl, by decide +kernel, by decide +kernel⟩
abbrev sNoPositionInit : Stmt := inClass (topS 8) 0
theorem scNoPositionInit : FnScope ["self", "position"] ["self", "position"] (defScope sNoPositionInit) := ⟨rfl, rfl, rfl, by decide +kernel, rfl, by decide +kernel, by decide +kernel⟩
abbrev sUndoErrorInit : Stmt := inClass (topS 9) 0
theorem scUndoErrorInit : FnScope ["self", "count"] ["self", "count"] (defScope sUndoErrorInit) := ⟨rfl, rfl, rfl, by decide +kernel, rfl, by decide +kernel, by decide +kernel⟩
abbrev sIsInteger : Stmt := topS 11
theorem scIsInteger : FnScope ["value"] ["value"] (defScope sIsInteger) := ⟨rfl, rfl, rfl, by decide +kernel, rfl, by decide +kernel, by decide +kernel⟩
abbrev sIsBetween : Stmt := topS 12
theorem scIsBetween : FnScope ["value", "low", "high"] ["value", "low", "high"] (defScope sIsBetween) := ⟨rfl, rfl, rfl, by decide +kernel, rfl, by decide +kernel, by decide +kernel⟩
abbrev sIsLive : Stmt := topS 14
theorem scIsLive : FnScope ["heap", "value", "slots"] ["heap", "value"] (defScope sIsLive) := ⟨rfl, rfl, rfl, by decide +kernel, rfl, by decide +kernel, by decide +kernel⟩
abbrev sNeedLive : Stmt := topS 15
theorem scNeedLive : FnScope ["heap", "node"] ["heap", "node"] (defScope sNeedLive) := ⟨rfl, rfl, rfl, by decide +kernel, rfl, by decide +kernel, by decide +kernel⟩
abbrev sNeedReference : Stmt := topS 16
theorem scNeedReference : FnScope ["heap", "node"] ["heap", "node"] (defScope sNeedReference) := ⟨rfl, rfl, rfl, by decide +kernel, rfl, by decide +kernel, by decide +kernel⟩
abbrev sCounts : Stmt := topS 18
theorem scCounts : FnScope ["heap", "slots", "outside", "uses", "node", "row"] ["heap"] (defScope sCounts) := ⟨rfl, rfl, rfl, by decide +kernel, rfl, by decide +kernel, by decide +kernel⟩
abbrev sSlotUses : Stmt := topS 19
theorem scSlotUses : FnScope ["slots", "uses", "row", "held"] ["slots"] (defScope sSlotUses) := ⟨rfl, rfl, rfl, by decide +kernel, rfl, by decide +kernel, by decide +kernel⟩
abbrev sReleasingInit : Stmt := inClass (topS 21) 0
theorem scReleasingInit : FnScope ["self", "heap", "limit", "row"] ["self", "heap", "limit"] (defScope sReleasingInit) := ⟨rfl, rfl, rfl, by decide +kernel, rfl, by decide +kernel, by decide +kernel⟩
abbrev sReleasingDrop : Stmt := inClass (topS 21) 1
theorem scReleasingDrop : FnScope ["self", "node", "taken"] ["self", "node"] (defScope sReleasingDrop) := ⟨rfl, rfl, rfl, by decide +kernel, rfl, by decide +kernel, by decide +kernel⟩
abbrev sReleasingPut : Stmt := inClass (topS 21) 2
theorem scReleasingPut : FnScope ["self", "node", "slot", "target", "held"] ["self", "node", "slot", "target"] (defScope sReleasingPut) := ⟨rfl, rfl, rfl, by decide +kernel, rfl, by decide +kernel, by decide +kernel⟩
abbrev sReleasingEmpty : Stmt := inClass (topS 21) 3
theorem scReleasingEmpty : FnScope ["self", "node", "slot"] ["self", "node"] (defScope sReleasingEmpty) := ⟨rfl, rfl, rfl, by decide +kernel, rfl, by decide +kernel, by decide +kernel⟩
abbrev sReleasingResult : Stmt := inClass (topS 21) 4
theorem scReleasingResult : FnScope ["self", "log", "peak", "rows", "event", "row"] ["self"] (defScope sReleasingResult) := ⟨rfl, rfl, rfl, by decide +kernel, rfl, by decide +kernel, by decide +kernel⟩
abbrev sReleasingSpared : Stmt := inClass (topS 21) 5
theorem scReleasingSpared : FnScope ["self"] ["self"] (defScope sReleasingSpared) := ⟨rfl, rfl, rfl, by decide +kernel, rfl, by decide +kernel, by decide +kernel⟩
abbrev sReleasingReleaseAll : Stmt := inClass (topS 21) 6
theorem scReleasingReleaseAll : FnScope ["self", "holder", "slot", "node", "depth"] ["self"] (defScope sReleasingReleaseAll) := ⟨rfl, rfl, rfl, by decide +kernel, rfl, by decide +kernel, by decide +kernel⟩
abbrev sReleasingRelease : Stmt := inClass (topS 21) 7
theorem scReleasingRelease : FnScope ["self", "holder", "slot", "node", "depth", "left"] ["self", "holder", "slot", "node", "depth"] (defScope sReleasingRelease) := ⟨rfl, rfl, rfl, by decide +kernel, rfl, by decide +kernel, by decide +kernel⟩
abbrev sReleasingDestroy : Stmt := inClass (topS 21) 8
theorem scReleasingDestroy : FnScope ["self", "node", "depth", "row", "slot"] ["self", "node", "depth"] (defScope sReleasingDestroy) := ⟨rfl, rfl, rfl, by decide +kernel, rfl, by decide +kernel, by decide +kernel⟩
abbrev sRunDrop : Stmt := topS 23
theorem scRunDrop : FnScope ["heap", "node", "limit", "work"] ["heap", "node", "limit"] (defScope sRunDrop) := ⟨rfl, rfl, rfl, by decide +kernel, rfl, by decide +kernel, by decide +kernel⟩
abbrev sRunPut : Stmt := topS 24
theorem scRunPut : FnScope ["heap", "node", "slot", "target", "limit", "work"] ["heap", "node", "slot", "target", "limit"] (defScope sRunPut) := ⟨rfl, rfl, rfl, by decide +kernel, rfl, by decide +kernel, by decide +kernel⟩
abbrev sRunEmpty : Stmt := topS 25
theorem scRunEmpty : FnScope ["heap", "node", "limit", "work"] ["heap", "node", "limit"] (defScope sRunEmpty) := ⟨rfl, rfl, rfl, by decide +kernel, rfl, by decide +kernel, by decide +kernel⟩
abbrev sDrop : Stmt := topS 27
theorem scDrop : FnScope ["heap", "node", "limit"] ["heap", "node", "limit"] (defScope sDrop) := ⟨rfl, rfl, rfl, by decide +kernel, rfl, by decide +kernel, by decide +kernel⟩
abbrev sSetSlot : Stmt := topS 28
theorem scSetSlot : FnScope ["heap", "node", "slot", "target", "limit"] ["heap", "node", "slot", "target", "limit"] (defScope sSetSlot) := ⟨rfl, rfl, rfl, by decide +kernel, rfl, by decide +kernel, by decide +kernel⟩
abbrev sEmptySlots : Stmt := topS 29
theorem scEmptySlots : FnScope ["heap", "node", "limit"] ["heap", "node", "limit"] (defScope sEmptySlots) := ⟨rfl, rfl, rfl, by decide +kernel, rfl, by decide +kernel, by decide +kernel⟩
abbrev sTrace : Stmt := topS 31
theorem scTrace : FnScope ["heap", "node", "limit"] ["heap", "node", "limit"] (defScope sTrace) := ⟨rfl, rfl, rfl, by decide +kernel, rfl, by decide +kernel, by decide +kernel⟩
abbrev sQPen : Stmt := topS 33
theorem scQPen : FnScope ["_law_script"] ["_law_script"] (defScope sQPen) := ⟨rfl, rfl, rfl, by decide +kernel, rfl, by decide +kernel, by decide +kernel⟩
abbrev sQDraw : Stmt := topS 34
theorem scQDraw : FnScope ["_law_pen_here", "_law_most_one", "_law_digit", "_law_place", "_law_cell", "_law_whole", "_law_mixed"] ["_law_pen_here", "_law_most_one"] (defScope sQDraw) := ⟨rfl, rfl, rfl, by decide +kernel, rfl, by decide +kernel, by decide +kernel⟩
abbrev sQShuffled : Stmt := topS 35
theorem scQShuffled : FnScope ["_law_pen_here", "_law_row", "_law_result", "_law_entry"] ["_law_pen_here", "_law_row"] (defScope sQShuffled) := ⟨rfl, rfl, rfl, by decide +kernel, rfl, by decide +kernel, by decide +kernel⟩
abbrev sQLinked : Stmt := topS 36
theorem scQLinked : FnScope ["_law_pen_here", "_law_labels", "_law_alive", "_law_rows", "_law_way", "_law_place", "_law_near", "_law_back", "_law_row", "_law_forward", "_law_turn", "_law_one", "_law_other", "_law_entry", "_law_label"] ["_law_pen_here", "_law_labels", "_law_alive"] (defScope sQLinked) := ⟨rfl, rfl, rfl, by decide +kernel, rfl, by decide +kernel, by decide +kernel⟩
abbrev sQBase : Stmt := topS 37
theorem scQBase : FnScope ["_law_pen_here", "_law_alive", "_law_spare", "_law_labels", "_law_rows", "_law_label", "_law_handles", "_law_turn", "_law_row"] ["_law_pen_here"] (defScope sQBase) := ⟨rfl, rfl, rfl, by decide +kernel, rfl, by decide +kernel, by decide +kernel⟩
abbrev sQOdd : Stmt := topS 38
theorem scQOdd : FnScope ["_law_pen_here", "_law_size"] ["_law_pen_here", "_law_size"] (defScope sQOdd) := ⟨rfl, rfl, rfl, by decide +kernel, rfl, by decide +kernel, by decide +kernel⟩
abbrev sQMissing : Stmt := topS 39
theorem scQMissing : FnScope ["_law_call", "_law_caught", "error", "_law_marks", "_law_others"] ["_law_call"] (defScope sQMissing) := ⟨rfl, rfl, rfl, by decide +kernel, rfl, by decide +kernel, by decide +kernel⟩
abbrev sQIsNode : Stmt := topS 40
theorem scQIsNode : FnScope ["_law_base_here", "_law_thing"] ["_law_base_here", "_law_thing"] (defScope sQIsNode) := ⟨rfl, rfl, rfl, by decide +kernel, rfl, by decide +kernel, by decide +kernel⟩
abbrev sQDue : Stmt := topS 41
theorem scQDue : FnScope ["_law_base_here", "_law_spot"] ["_law_base_here", "_law_spot"] (defScope sQDue) := ⟨rfl, rfl, rfl, by decide +kernel, rfl, by decide +kernel, by decide +kernel⟩
abbrev sQDueSlot : Stmt := topS 42
theorem scQDueSlot : FnScope ["_law_base_here", "_law_spot", "_law_place", "_law_goal"] ["_law_base_here", "_law_spot", "_law_place", "_law_goal"] (defScope sQDueSlot) := ⟨rfl, rfl, rfl, by decide +kernel, rfl, by decide +kernel, by decide +kernel⟩
abbrev sQOneRight : Stmt := topS 43
theorem scQOneRight : FnScope ["_law_base_here", "_law_spot", "_law_bound", "_law_due_here", "_law_first", "_law_second", "_law_third", "_law_lone"] ["_law_base_here", "_law_spot", "_law_bound"] (defScope sQOneRight) := ⟨rfl, rfl, rfl, by decide +kernel, rfl, by decide +kernel, by decide +kernel⟩
abbrev sQPick : Stmt := topS 44
theorem scQPick : FnScope ["_law_pen_here", "_law_base_here", "_law_alive"] ["_law_pen_here", "_law_base_here", "_law_alive"] (defScope sQPick) := ⟨rfl, rfl, rfl, by decide +kernel, rfl, by decide +kernel, by decide +kernel⟩
abbrev sLaw : Stmt := topS 45
theorem scLaw : FnScope ["_law_script", "_law_pen_here", "_law_turn", "_law_before", "_law_spot", "_law_alive", "_law_change", "_law_due_here", "_law_base_here", "_law_goal", "_law_place", "_law_row", "_law_k"] ["_law_script"] (defScope sLaw) := ⟨rfl, rfl, rfl, by decide +kernel, rfl, by decide +kernel, by decide +kernel⟩

theorem boot'_LookupError : bootBuiltins "LookupError" = some (.type "LookupError") := by decide +kernel
structure Txt (mg : Str → Option Value) : Prop where
  b_len : mg "len" = none
  b_LookupError : mg "LookupError" = none
  b_abs : mg "abs" = none
  b_int : mg "int" = none
  b_bool : mg "bool" = none
  b_list : mg "list" = none
  b_tuple : mg "tuple" = none
  b_min : mg "min" = none
  b_max : mg "max" = none
  b_sum : mg "sum" = none
  b_any : mg "any" = none
  b_all : mg "all" = none
  b_repr : mg "repr" = none
  b_sorted : mg "sorted" = none
  b_isinstance : mg "isinstance" = none
  b_range : mg "range" = none
  b_enumerate : mg "enumerate" = none

/-- the pen at p over the cells at c: at most n cells drawn -/
def PenAt (H : Hp) (p c : Addr) (n : Nat) : Prop := ∃ (cs : List Int) (pl r : Int), H p = some (.lst [.ref c, .int pl, .int r]) ∧ H c = some (.lst (cs.map V.int)) ∧ cs.length ≤ 63 ∧ 0 ≤ pl ∧ pl ≤ n ∧ 0 ≤ r
theorem PenAt.ne {H : Hp} {p c : Addr} {n : Nat} (h : PenAt H p c n) : c ≠ p := by
  obtain ⟨cs, pl, r, h1, h2, _⟩ := h
  rintro rfl
  rw [h1] at h2
  have e := HO.lst.inj (Option.some.inj h2)
  cases cs with
  | nil => cases e
  | cons z t => cases (List.cons.inj e).1
def spDraw : Sp := fun vs H Q _ => ∃ (p c : Addr) (n : Nat) (m : Int), vs = [.ref p, .int m] ∧ PenAt H p c n ∧ n < 1000000 ∧ 0 < m ∧ m < 100000000 ∧
  ∀ d H', 0 ≤ d → d < m → Kx [p] H H' → PenAt H' p c (n + 1) → Q (.int d) H'
theorem at_mod {cs : List Int} (i : Int) (h : ¬ (!cs.isEmpty) = false) : (0 : Int) < (cs.map V.int).length ∧ ∃ z, atI (cs.map V.int) (i % ((cs.map V.int).length : Int)) = some (.int z) := by
  have hl : 0 < cs.length := by
    cases cs with
    | nil => exact absurd rfl h
    | cons z t => exact Nat.succ_pos _
  have h0 : (0 : Int) < (cs.map V.int).length := by
    rw [List.length_map]
    omega
  refine ⟨h0, ?_⟩
  have h1 := Int.emod_nonneg i (Int.ne_of_gt h0)
  have h2 := Int.emod_lt_of_pos i h0
  generalize i % ((cs.map V.int).length : Int) = k at h1 h2
  rw [List.length_map] at h2
  obtain ⟨j, rfl⟩ : ∃ j : Nat, k = j := ⟨k.toNat, by omega⟩
  have hj : j < cs.length := by omega
  exact ⟨cs[j], atI_nat (by rw [List.getElem?_map, List.getElem?_eq_getElem hj]; rfl)⟩
theorem draw_bound {a pl : Int} (h0 : 0 ≤ a) (h1 : a < 2147483647) (h2 : 0 ≤ pl) (h3 : pl ≤ 1000000) : (a * (2 * pl + 13) + 90007 * pl * pl).natAbs < 2 ^ 64 := by
  have e1 : 0 ≤ a * (2 * pl + 13) := Int.mul_nonneg h0 (by omega)
  have e2 : a * (2 * pl + 13) ≤ 2147483647 * 2000013 := Int.mul_le_mul (by omega) (by omega) (by omega) (by decide)
  have e3 : 0 ≤ 90007 * pl * pl := Int.mul_nonneg (by omega) h2
  have e4 : 90007 * pl * pl ≤ 90007 * 1000000 * 1000000 := Int.mul_le_mul (by omega) (by omega) (by omega) (by decide)
  generalize a * (2 * pl + 13) = x at e1 e2
  generalize 90007 * pl * pl = y at e3 e4
  omega
section Xtra
local macro_rules | `(tactic| walk_at "side") => `(tactic| exact ⟨by decide, by decide, draw_bound (Int.emod_nonneg _ (by decide)) (Int.emod_lt_of_pos _ (by decide)) (by assumption) (by omega)⟩)
section
variable {P : Program} {w : World} {K : PySem.W.Frag} {mg : Str → Option Value} {base : Heap}
theorem ok_draw {f : Addr} {fd : FuncData} (F : Fun K "_law_draw" "_law_draw" sQDraw f fd) (T : Txt mg) : FnOk P w K mg base CX0 1 f fd ["_law_pen_here", "_law_most_one"] spDraw := by
  refine F.ok scQDraw (fun vs H Q E h => ?_) (fun cdv A outer s H vs Q E hr h => ?_)
  · obtain ⟨p, c, n, m, rfl, _⟩ := h
    rfl
  · obtain ⟨p, c, n, m, rfl, hpen, hn, hm0, hm1, k⟩ := h
    have ncp := hpen.ne
    obtain ⟨cs, pl, r, hp, hcs, hl, h0, h1, h2⟩ := hpen
    refine ⟨_, (pss_cons (ps_if (pt_cmpR op_gt (pe_ix ix_list (pv 0) pe_int (fun _ _ => rfl)) pe_int (nomark _)) (pss_cons (ps_set (i := 2) scQDraw.nd rfl (Or.inl rfl) (pe_op op_mod (pe_ix ix_list (pv 0) pe_int (fun _ _ => rfl)) (pv 1)))
      (pss_cons (ps_asg (pe_op op_fdiv (pe_ix ix_list (pv 0) pe_int (fun _ _ => rfl)) (pv 1)) (pg_sub (pv 0) pe_int set_list))
      (pss_one (ps_ret (pv 2))))) pss_nil)
      (pss_cons (ps_set (i := 3) scQDraw.nd rfl (Or.inl rfl) (pe_ix ix_list (pv 0) pe_int (fun _ _ => rfl)))
      (pss_cons (ps_asg (pe_op op_add (pv 3) pe_int) (pg_sub (pv 0) pe_int set_list))
      (pss_cons (ps_set (i := 4) scQDraw.nd rfl (Or.inl rfl) (pe_op op_add (pe_op op_mul pe_int (pv 3)) pe_int))
      (pss_cons (ps_if (pt_cmpR (op_neD hr.units) (pe_ix ix_list (pv 0) pe_int (fun _ _ => rfl)) (pe_lst pa_nil) (nomark _)) (pss_one (ps_set (i := 4) scQDraw.nd rfl (Or.inl rfl) (pe_ix ix_list (pe_ix ix_list (pv 0) pe_int (fun _ _ => rfl)) (pe_op op_mod (pv 3) (pe_callB call_len_seq (by rfl) T.b_len boot'_len (pa_cons (pe_ix ix_list (pv 0) pe_int (fun _ _ => rfl)) pa_nil))) (fun _ _ => rfl)))) pss_nil)
      (pss_cons (ps_if ((pw_and (pt_cmpR op_lt (pv 3) (pe_callB call_len_seq (by rfl) T.b_len boot'_len (pa_cons (pe_ix ix_list (pv 0) pe_int (fun _ _ => rfl)) pa_nil)) (nomark _)) (pw_and1 (pt_cmpR op_ge (pe_callB call_abs (by rfl) T.b_abs boot'_abs (pa_cons (pv 4) pa_nil)) (pe_op op_pow pe_int pe_int) (nomark _))))).pt (pss_cons (ps_set (i := 5) scQDraw.nd rfl (Or.inl rfl) (pe_op op_add (pe_op op_mul pe_int (pe_callB call_abs (by rfl) T.b_abs boot'_abs (pa_cons (pv 4) pa_nil))) (pe_callTy call_int1 (by rfl) T.b_int boot'_int (pa_cons (pe_cmpR op_lt (pv 4) pe_int (nomark _)) pa_nil))))
      (pss_cons (ps_asg (pe_op op_fdiv (pv 5) (pv 1)) (pg_sub (pv 0) pe_int set_list))
      (pss_one (ps_ret (pe_op op_mod (pv 5) (pv 1)))))) pss_nil)
      (pss_cons (ps_set (i := 6) scQDraw.nd rfl (Or.inl rfl) (pe_op op_mod (pe_op op_pow (pe_op op_add (pe_op op_add (pe_op op_mod (pv 4) pe_int) (pe_op op_mul pe_int (pv 3))) pe_int) pe_int) pe_int))
      (pss_cons (ps_set (i := 6) scQDraw.nd rfl (Or.inl rfl) (pe_op op_mod (pe_op op_pow (pe_op op_add (pe_op op_mul (pv 6) (pe_op op_add (pe_op op_mul pe_int (pv 3)) pe_int)) (pe_op op_mul (pe_op op_mul pe_int (pv 3)) (pv 3))) pe_int) pe_int))
      (pss_one (ps_ret (pe_op op_mod (pe_op op_fdiv (pv 6) pe_int) (pv 1)))))))))))), ?_⟩
    refine x_start (σ' := [some (.ref p), some (.int m), none, none, none, none, none]) rfl ?_
    dsimp only [cxOf]
    have fin : ∀ d H1 pl' r', 0 ≤ d → d < m → Kx [p] H H1 → H1 p = some (.lst [.ref c, .int pl', .int r']) → 0 ≤ pl' → pl' ≤ pl + 1 → 0 ≤ r' → Q (.int d) H1 := by
      intro d H1 pl' r' a1 a2 a3 a4 a5 a6 a7
      exact k d H1 a1 a2 a3 ⟨cs, pl', r', a4, a3 c _ (by simpa using ncp) hcs, hl, a5, by omega, a7⟩
    have kx : ∀ o, Kx [p] H (upd H p o) := fun o => (Kx.refl _ _).wr (.inr (by simp))
    repeat walk_at "rd"
    refine ite2 (fun hc => ?_) (fun hc => ?_)
    · repeat walk_at "rd"
      exact fin _ _ pl (r / m) (Int.emod_nonneg _ (by omega)) (Int.emod_lt_of_pos _ hm0) (kx _) upd_same h0 (by omega) (Int.ediv_nonneg h2 (by omega))
    · repeat walk_at "rd"
      generalize hH1 : upd H p (.lst [.ref c, .int (pl + 1), .int r]) = H1
      rename_i q nq
      rw [hH1] at nq
      have p1 : H1 p = some (.lst [.ref c, .int (pl + 1), .int r]) := by rw [← hH1]; exact upd_same
      have k1 : Kx [p] H H1 := by rw [← hH1]; exact kx _
      generalize hH2 : upd H1 q (.lst []) = H2
      have p2 : H2 p = some (.lst [.ref c, .int (pl + 1), .int r]) := by rw [← hH2]; exact lk_ne p1 nq
      have c2 : H2 c = some (.lst (cs.map V.int)) := by rw [← hH2]; exact lk_ne (k1 c _ (by simpa using ncp) hcs) nq
      have q2 : H2 q = some (.lst []) := by rw [← hH2]; exact upd_same
      have k2 : Kx [p] H H2 := by rw [← hH2]; exact k1.new nq
      repeat walk_at "rd"
      refine ite2 (fun hc2 => ?_) (fun hc2 => ?_)
      · obtain ⟨hz0, z, hz⟩ := at_mod (cs := cs) pl (by simpa using hc2)
        repeat walk_at "rd"
        refine ite2 (fun hc3 => ?_) (fun hc3 => ?_)
        · repeat walk_at "rd"
          refine ite2 (fun hc4 => ?_) (fun hc4 => ?_)
          · repeat walk_at "rd"
            refine fin _ _ (pl + 1) _ (Int.emod_nonneg _ (by omega)) (Int.emod_lt_of_pos _ hm0) (k2.wr (.inr (by simp))) upd_same (by omega) (by omega) (Int.ediv_nonneg ?_ (by omega))
            split <;> split <;> omega
          · repeat walk_at "rd"
            exact fin _ _ (pl + 1) r (Int.emod_nonneg _ (by omega)) (Int.emod_lt_of_pos _ hm0) k2 p2 (by omega) (by omega) h2
        · repeat walk_at "rd"
          exact fin _ _ (pl + 1) r (Int.emod_nonneg _ (by omega)) (Int.emod_lt_of_pos _ hm0) k2 p2 (by omega) (by omega) h2
      · repeat walk_at "rd"
        refine ite2 (fun hc3 => ?_) (fun hc3 => ?_)
        · repeat walk_at "rd"
          refine ite2 (fun hc4 => ?_) (fun hc4 => ?_)
          · repeat walk_at "rd"
            refine fin _ _ (pl + 1) _ (Int.emod_nonneg _ (by omega)) (Int.emod_lt_of_pos _ hm0) (k2.wr (.inr (by simp))) upd_same (by omega) (by omega) (Int.ediv_nonneg ?_ (by omega))
            split <;> split <;> omega
          · repeat walk_at "rd"
            exact fin _ _ (pl + 1) r (Int.emod_nonneg _ (by omega)) (Int.emod_lt_of_pos _ hm0) k2 p2 (by omega) (by omega) h2
        · repeat walk_at "rd"
          exact fin _ _ (pl + 1) r (Int.emod_nonneg _ (by omega)) (Int.emod_lt_of_pos _ hm0) k2 p2 (by omega) (by omega) h2
end

end Xtra

section
variable {P : Program} {w : World} {K : PySem.W.Frag} {mg : Str → Option Value} {base : Heap}
def spPen (K : PySem.W.Frag) : Sp := fun vs H Q _ => ∃ (a : Addr) (ns : List Int), vs = [.ref a] ∧ SqL K H a (ns.map V.int) ∧
  ∀ p c H', H p = none → H c = none → Kx [] H H' → PenAt H' p c 0 → Q (.ref p) H'
theorem ok_pen {f : Addr} {fd : FuncData} (F : Fun K "_law_pen" "_law_pen" sQPen f fd) (T : Txt mg) : FnOk P w K mg base CX0 1 f fd ["_law_script"] (spPen K) := by
  refine F.ok scQPen (fun vs H Q E h => ?_) (fun cdv A outer s H vs Q E hr h => ?_)
  · obtain ⟨a, ns, rfl, _⟩ := h
    rfl
  · obtain ⟨a, ns, rfl, ha, k⟩ := h
    refine ⟨_, (pss_one (ps_ret (pe_lst (pa_cons (pe_callTy call_list_of (by rfl) T.b_list boot'_list (pa_cons (pe_slice sl_list (pv 0) po_none (po_some pe_int)) pa_nil)) (pa_cons pe_int (pa_cons pe_int pa_nil)))))), ?_⟩
    refine x_start (σ' := [some (.ref a)]) rfl ?_
    dsimp only [cxOf]
    repeat walk_at "rd"
    intro t nt
    rw [cut63, ← List.map_take]
    repeat walk_at "rd"
    intro c nc
    repeat walk_at "rd"
    rename_i p np
    have ntc : t ≠ c := ne_of_none upd_same nc
    have ncp : c ≠ p := ne_of_none upd_same np
    have nc0 : H c = none := by rwa [upd_ne ntc.symm] at nc
    have np0 : H p = none := by
      have e1 := np
      rw [upd_ne ncp.symm] at e1
      exact ((Kx.refl [] H).new nt).fresh (by simp) e1
    refine k p c _ np0 nc0 ((((Kx.refl [] H).new nt).new nc).new np) ⟨ns.take 63, 0, 0, upd_same, ?_, ?_, by omega, by omega, by omega⟩
    · rw [upd_ne ncp, upd_same]
    · rw [List.length_take]
      exact Nat.min_le_left _ _
theorem x_draw {H : Hp} {p c : Addr} {n : Nat} {m : Int} {Q : VK} {E : XK} (h : PenAt H p c n) (hn : n < 1000000) (h0 : 0 < m) (h1 : m < 100000000)
    (q : ∀ d H', 0 ≤ d → d < m → Kx [p] H H' → PenAt H' p c (n + 1) → Q (.int d) H') : spDraw ([V.ref p, V.int m] ++ []) H Q E := ⟨p, c, n, m, rfl, h, hn, h0, h1, q⟩
def spShuf (K : PySem.W.Frag) : Sp := fun vs H Q _ => ∃ (p c a : Addr) (n : Nat) (xs : List V), vs = [.ref p, .ref a] ∧ PenAt H p c n ∧ SqL K H a xs ∧ a ≠ p ∧ xs.length ≤ 1000 ∧ n ≤ 900000 ∧
  ∀ l ys H', H l = none → ys.Perm xs → Kx [p] H H' → H' l = some (.lst ys) → PenAt H' p c (n + xs.length) → Q (.ref l) H'
theorem ins_perm {ys : List V} {v : V} {i : Nat} : (ys.take i ++ [v] ++ ys.drop i).Perm (ys ++ [v]) := by
  have e : (ys.take i ++ [v] ++ ys.drop i) = ys.take i ++ ([v] ++ ys.drop i) := by rw [List.append_assoc]
  rw [e]
  refine (List.Perm.append_left _ List.perm_append_comm).trans ?_
  rw [← List.append_assoc, List.take_append_drop]
theorem PenAt.up {H H' : Hp} {p c : Addr} {n m : Nat} (h : PenAt H p c n) (e1 : H' p = H p) (e2 : H' c = H c) (l : n ≤ m) : PenAt H' p c m := by
  obtain ⟨cs, pl, r, h1, h2, h3, h4, h5, h6⟩ := h
  exact ⟨cs, pl, r, e1.trans h1, e2.trans h2, h3, h4, by omega, h6⟩
theorem PenAt.keep {H H' : Hp} {S : List Addr} {p c : Addr} {n m : Nat} (h : PenAt H p c n) (k : Kx S H H') (hp : p ∉ S) (hc : c ∉ S) (l : n ≤ m) : PenAt H' p c m := by
  obtain ⟨cs, pl, r, h1, h2, h3, h4, h5, h6⟩ := h
  exact ⟨cs, pl, r, k _ _ hp h1, k _ _ hc h2, h3, h4, by omega, h6⟩
theorem PenAt.some {H : Hp} {p c : Addr} {n : Nat} (h : PenAt H p c n) : (∃ o, H p = some o) ∧ ∃ o, H c = some o := by
  obtain ⟨cs, pl, r, h1, h2, _⟩ := h
  exact ⟨⟨_, h1⟩, _, h2⟩
theorem ok_shuf {f : Addr} {fd : FuncData} (F : Fun K "_law_shuffled" "_law_shuffled" sQShuffled f fd) (T : Txt mg) (l_law_draw : Lo P w K mg base "_law_draw" 1 ["_law_pen_here", "_law_most_one"] spDraw) :
    FnOk P w K mg base CX0 2 f fd ["_law_pen_here", "_law_row"] (spShuf K) := by
  refine F.ok scQShuffled (fun vs H Q E h => ?_) (fun cdv A outer s H vs Q E hr h => ?_)
  · obtain ⟨p, c, a, n, xs, rfl, _⟩ := h
    rfl
  · obtain ⟨p, c, a, n, xs, rfl, hpen, ha, nap, hlen, hn, k⟩ := h
    refine ⟨_, (pss_cons (ps_set (i := 2) scQShuffled.nd rfl (Or.inl rfl) (pe_lst pa_nil))
      (pss_cons (ps_for PassesOwn.never rfl (pi_list (pv 1)) (pg_name (i := 3) scQShuffled.nd rfl (Or.inl rfl))
      (pss_one (ps_expr (pe_bm PySem.F.plainAttrs_list PySem.F.slot_list_insert PySem.F.type_list_insert mt_insert (pv 2) (pa_cons (pe_lo l_law_draw (hr.mono (by decide)) (by rfl) (pa_cons (pv 0) (pa_cons (pe_op op_add (pe_callB call_len_seq (by rfl) T.b_len boot'_len (pa_cons (pv 2) pa_nil)) pe_int) pa_nil))) (pa_cons (pv 3) pa_nil))))))
      (pss_one (ps_ret (pv 2))))), ?_⟩
    refine x_start (σ' := [some (.ref p), some (.ref a), none, none]) rfl ?_
    dsimp only [cxOf]
    repeat walk_at "rd"
    rename_i l nl
    obtain ⟨⟨op, hp⟩, oc, hc⟩ := hpen.some
    have nlp : l ≠ p := (ne_of_none hp nl).symm
    have nlc : l ≠ c := (ne_of_none hc nl).symm
    have k0 : Kx [p] H (upd H l (.lst [])) := (Kx.refl _ _).new nl
    refine y_forL (xs := xs) (k0.sqL (by simpa using nap) ha) ⟨fun i σ H1 => ∃ ys y3, σ = [some (.ref p), some (.ref a), some (.ref l), y3] ∧ ys.Perm (xs.take i) ∧ Kx [p] H H1 ∧ H1 l = some (.lst ys) ∧ PenAt H1 p c (n + i),
      ⟨[], none, rfl, by simp, k0, upd_same, hpen.keep ((Kx.refl [] H).new nl) (by simp) (by simp) (by omega)⟩, ?_, ?_, ?_⟩
    · rintro i σ H1 hi ⟨ys, y3, rfl, hys, k1, hl, hp1⟩
      exact k1.sqL (by simpa using nap) ha
    · rintro i x σ H1 H1' hi ⟨ys, y3, rfl, hys, k1, hl, hp1⟩ ⟨rfl, hx⟩
      have hyl : ys.length = i := by
        rw [hys.length_eq, List.length_take]
        omega
      repeat walk_at "rd"
      refine ⟨ty_list (SqL.of hl), ?_⟩
      repeat walk_at "rd"
      refine x_draw hp1 (by omega) (by omega) (by omega) fun d H2 d0 d1 k2 hp2 => ?_
      have hl2 : H2 l = some (.lst ys) := k2 l _ (by simpa using nlp) hl
      repeat walk_at "rd"
      refine ⟨_, _, rfl, ins_perm.trans ?_, (k1.trans k2).wr (.inl nl), upd_same, ?_⟩
      · rw [List.take_add_one, hx]
        exact hys.append_right _
      · exact hp2.up (upd_ne nlp.symm) (upd_ne nlc.symm) (by omega)
    · rintro σ H1 ⟨ys, y3, rfl, hys, k1, hl, hp1⟩
      repeat walk_at "rd"
      exact k l ys H1 nl (by simpa using hys) k1 hl hp1
end

section
variable {P : Program} {w : World} {K : PySem.W.Frag} {mg : Str → Option Value} {base : Heap}
/-- the rows that stand at rs, the list of them at R; all of it new since H0 -/
structure RowsI (H0 H : Hp) (R : Addr) (rs : List Addr) (rows : List (List V)) (live : List Int) (B : Nat) : Prop where
  hR : H R = some (.lst (rs.map V.ref))
  len : rows.length = rs.length
  nd : rs.Nodup
  fr : ∀ r ∈ rs, H0 r = none
  frR : H0 R = none
  nR : R ∉ rs
  at_ : ∀ (i : Nat) (r : Addr) (row : List V), rs[i]? = some r → rows[i]? = some row → H r = some (.lst row)
  good : ∀ row ∈ rows, row.length ≤ B ∧ ∀ v ∈ row, v = .non ∨ ∃ z ∈ live, v = V.int z
theorem RowsI.mono {H0 H : Hp} {R : Addr} {rs : List Addr} {rows : List (List V)} {live : List Int} {B B' : Nat} (h : RowsI H0 H R rs rows live B) (l : B ≤ B') : RowsI H0 H R rs rows live B' :=
  ⟨h.hR, h.len, h.nd, h.fr, h.frR, h.nR, h.at_, fun row hr => ⟨Nat.le_trans (h.good row hr).1 l, (h.good row hr).2⟩⟩
theorem RowsI.keep {H0 H H' : Hp} {S : List Addr} {R : Addr} {rs : List Addr} {rows : List (List V)} {live : List Int} {B : Nat} (h : RowsI H0 H R rs rows live B) (k : Kx S H H') (hS : ∀ b ∈ S, ∃ o, H0 b = some o) : RowsI H0 H' R rs rows live B := by
  have hn : ∀ b, H0 b = none → b ∉ S := fun b hb z => by
    obtain ⟨o, ho⟩ := hS b z
    rw [hb] at ho
    cases ho
  exact ⟨k _ _ (hn _ h.frR) h.hR, h.len, h.nd, h.fr, h.frR, h.nR, fun i r row h1 h2 => k _ _ (hn _ (h.fr r (List.mem_of_getElem? h1))) (h.at_ i r row h1 h2), h.good⟩
theorem RowsI.wr {H0 H : Hp} {R r : Addr} {rs : List Addr} {rows : List (List V)} {live : List Int} {B : Nat} {i : Nat} {row' : List V} (h : RowsI H0 H R rs rows live B) (hr : rs[i]? = some r) (hl : row'.length ≤ B)
    (hv : ∀ v ∈ row', v = .non ∨ ∃ z ∈ live, v = V.int z) : RowsI H0 (upd H r (.lst row')) R rs (rows.set i row') live B := by
  have hm : r ∈ rs := List.mem_of_getElem? hr
  refine ⟨?_, by rw [List.length_set]; exact h.len, h.nd, h.fr, h.frR, h.nR, ?_, ?_⟩
  · rw [upd_ne (fun e => h.nR (by rw [e]; exact hm))]
    exact h.hR
  · intro j q row hj hrow
    by_cases e : j = i
    · subst e
      rw [hr] at hj
      have e2 : r = q := Option.some.inj hj
      subst e2
      have hi : j < rows.length := by
        rw [h.len]
        exact (List.getElem?_eq_some_iff.mp hr).1
      rw [List.getElem?_set_self hi] at hrow
      rw [← Option.some.inj hrow]
      exact upd_same
    · have nq : q ≠ r := by
        rintro rfl
        exact e ((List.getElem?_inj (List.getElem?_eq_some_iff.mp hj).1 h.nd).mp (hj.trans hr.symm))
      rw [List.getElem?_set_ne (Ne.symm e)] at hrow
      rw [upd_ne nq]
      exact h.at_ j q row hj hrow
  · intro row hrow
    rcases List.mem_or_eq_of_mem_set hrow with z | rfl
    · exact h.good row z
    · exact ⟨hl, hv⟩
theorem RowsI.get {H0 H : Hp} {R : Addr} {rs : List Addr} {rows : List (List V)} {live : List Int} {B : Nat} {z : Int} (h : RowsI H0 H R rs rows live B) (h0 : 0 ≤ z) (h1 : z < rs.length) :
    ∃ (i : Nat) (r : Addr) (row : List V), z = i ∧ rs[i]? = some r ∧ rows[i]? = some row ∧ H r = some (.lst row) ∧ atI (rs.map V.ref) z = some (.ref r) ∧ H0 r = none := by
  obtain ⟨i, rfl⟩ : ∃ i : Nat, z = i := ⟨z.toNat, by omega⟩
  have hi : i < rs.length := by omega
  have hi2 : i < rows.length := by rw [h.len]; exact hi
  have e1 := List.getElem?_eq_getElem hi
  have e2 := List.getElem?_eq_getElem hi2
  refine ⟨i, rs[i], rows[i], rfl, e1, e2, h.at_ i _ _ e1 e2, atI_nat ?_, h.fr _ (List.getElem_mem hi)⟩
  rw [List.getElem?_map, e1]
  rfl
theorem at_ints {zs : List Int} {w : Int} (h0 : 0 ≤ w) (h1 : w < zs.length) : ∃ z ∈ zs, zs[w.toNat]? = some z ∧ atI (zs.map V.int) w = some (.int z) := by
  obtain ⟨i, rfl⟩ : ∃ i : Nat, w = i := ⟨w.toNat, by omega⟩
  have hi : i < zs.length := by omega
  have e1 := List.getElem?_eq_getElem hi
  refine ⟨zs[i], List.getElem_mem hi, by simpa using e1, atI_nat ?_⟩
  rw [List.getElem?_map, e1]
  rfl
def spLinked (K : PySem.W.Frag) : Sp := fun vs H Q _ => ∃ (p c a : Addr) (n : Nat) (ls : List Int) (al : Nat), vs = [.ref p, .ref a, .int al] ∧ PenAt H p c n ∧ SqL K H a (ls.map V.int) ∧ a ≠ p ∧ ls.length ≤ 40 ∧ (∀ z ∈ ls, 0 ≤ z ∧ z < ls.length) ∧ 1 ≤ al ∧ al ≤ ls.length ∧ n ≤ 900000 ∧
  ∀ R rs rows H', RowsI H H' R rs rows (ls.take al) 40 → rs.length = ls.length → Kx [p] H H' → PenAt H' p c (n + 400) → Q (.ref R) H'
theorem ok_linked {f : Addr} {fd : FuncData} (F : Fun K "_law_linked" "_law_linked" sQLinked f fd) (T : Txt mg) (l_law_draw : Lo P w K mg base "_law_draw" 1 ["_law_pen_here", "_law_most_one"] spDraw) :
    FnOk P w K mg base CX0 2 f fd ["_law_pen_here", "_law_labels", "_law_alive"] (spLinked K) := by
  refine F.ok scQLinked (fun vs H Q E h => ?_) (fun cdv A outer s H vs Q E hr h => ?_)
  · obtain ⟨p, c, a, n, ls, al, rfl, _⟩ := h
    rfl
  · obtain ⟨p, c, a, n, ls, al, rfl, hpen, ha, nap, hN, hls, hal, hal2, hn, k⟩ := h
    refine ⟨_, (pss_cons (ps_setLc (i := 3) (own := [("_law_label", 14)]) rfl scQLinked.nd rfl rfl (sw_true rfl rfl rfl (by decide +kernel)) (pi_list (pv 1)) (blkOk_by (N := ["_law_pen_here", "_law_labels", "_law_alive", "_law_rows", "_law_way", "_law_place", "_law_near", "_law_back", "_law_row", "_law_forward", "_law_turn", "_law_one", "_law_other", "_law_entry", "_law_label"]) (sc := defScope sQLinked) (by decide +kernel)) (fun _ _ _ _ _ => (pg_name (i := 14) scQLinked.nd rfl (Or.inl rfl))) (fun _ _ _ _ _ => pts_nil) (fun _ _ _ _ _ => (pe_lst pa_nil)))
      (pss_cons (ps_set (i := 4) scQLinked.nd rfl (Or.inl rfl) (pe_lo l_law_draw (hr.mono (by decide)) (by rfl) (pa_cons (pv 0) (pa_cons pe_int pa_nil))))
      (pss_cons (ps_for PassesOwn.never rfl (pi_range2 (by rfl) T.b_range (pa_cons pe_int (pa_cons (pv 2) pa_nil))) (pg_name (i := 5) scQLinked.nd rfl (Or.inl rfl))
      (pss_cons (ps_set (i := 6) scQLinked.nd rfl (Or.inl rfl) (pe_op op_add pe_int (pe_lo l_law_draw (hr.mono (by decide)) (by rfl) (pa_cons (pv 0) (pa_cons (pe_callB (call_min2 rfl) (by rfl) T.b_min boot'_min (pa_cons (pv 5) (pa_cons pe_int pa_nil))) pa_nil)))))
      (pss_cons (ps_set (i := 7) scQLinked.nd rfl (Or.inl rfl) (pe_ix ix_list (pe_lst (pa_cons pe_int (pa_cons (pv 5) (pa_cons (pv 6) (pa_cons (pe_op op_add pe_int (pe_lo l_law_draw (hr.mono (by decide)) (by rfl) (pa_cons (pv 0) (pa_cons (pv 5) pa_nil)))) (pa_cons (pv 6) pa_nil)))))) (pv 4) (fun _ _ => rfl)))
      (pss_cons (ps_set (i := 8) scQLinked.nd rfl (Or.inl rfl) (pe_ix ix_list (pv 3) (pe_ix ix_list (pv 1) (pe_op op_sub (pv 5) (pv 7)) (fun _ _ => rfl)) (fun _ _ => rfl)))
      (pss_one (ps_expr (pe_bm PySem.F.plainAttrs_list PySem.F.slot_list_insert PySem.F.type_list_insert mt_insert (pv 8) (pa_cons (pe_lo l_law_draw (hr.mono (by decide)) (by rfl) (pa_cons (pv 0) (pa_cons (pe_op op_add (pe_callB call_len_seq (by rfl) T.b_len boot'_len (pa_cons (pv 8) pa_nil)) pe_int) pa_nil))) (pa_cons (pe_ix ix_list (pv 1) (pv 5) (fun _ _ => rfl)) pa_nil)))))))))
      (pss_cons (ps_set (i := 9) scQLinked.nd rfl (Or.inl rfl) (pe_lo l_law_draw (hr.mono (by decide)) (by rfl) (pa_cons (pv 0) (pa_cons pe_int pa_nil))))
      (pss_cons (ps_for PassesOwn.never rfl (pi_range1 (by rfl) T.b_range (pa_cons (pe_ix ix_list (pe_lst (pa_cons pe_int (pa_cons (pe_lo l_law_draw (hr.mono (by decide)) (by rfl) (pa_cons (pv 0) (pa_cons pe_int pa_nil))) (pa_cons (pe_op op_fdiv (pv 2) pe_int) (pa_cons (pv 2) pa_nil))))) (pe_lo l_law_draw (hr.mono (by decide)) (by rfl) (pa_cons (pv 0) (pa_cons pe_int pa_nil))) (fun _ _ => rfl)) pa_nil)) (pg_name (i := 10) scQLinked.nd rfl (Or.inl rfl))
      (pss_cons (ps_par (i := 11) (j := 12) rfl scQLinked.nd rfl rfl (by decide) rfl rfl (pa_cons (pe_lo l_law_draw (hr.mono (by decide)) (by rfl) (pa_cons (pv 0) (pa_cons (pv 2) pa_nil))) (pa_cons (pe_lo l_law_draw (hr.mono (by decide)) (by rfl) (pa_cons (pv 0) (pa_cons (pv 2) pa_nil))) pa_nil)) (by rfl))
      (pss_cons (ps_if (pt_cmpR op_eq (pv 9) pe_int (nomark _)) (pss_one (ps_par (i := 11) (j := 12) rfl scQLinked.nd rfl rfl (by decide) rfl rfl (pa_cons (pe_callB (call_min2 rfl) (by rfl) T.b_min boot'_min (pa_cons (pv 11) (pa_cons (pv 12) pa_nil))) (pa_cons (pe_callB (call_max2 rfl) (by rfl) T.b_max boot'_max (pa_cons (pv 11) (pa_cons (pv 12) pa_nil))) pa_nil)) (by rfl))) pss_nil)
      (pss_cons (ps_set (i := 13) scQLinked.nd rfl (Or.inl rfl) (pe_ix ix_list (pe_lst (pa_cons (pe_ix ix_list (pv 1) (pv 12) (fun _ _ => rfl)) (pa_cons pe_non pa_nil))) (pe_callTy call_int1 (by rfl) T.b_int boot'_int (pa_cons (pe_or (pe_cmpR op_eq (pe_lo l_law_draw (hr.mono (by decide)) (by rfl) (pa_cons (pv 0) (pa_cons pe_int pa_nil))) pe_int (nomark _)) (pe_one (pe_and (pe_cmpR op_eq (pv 9) pe_int (nomark _)) (pe_one (pe_cmpR op_eq (pv 11) (pv 12) (nomark _)))))) pa_nil)) (fun _ _ => rfl)))
      (pss_cons (ps_set (i := 8) scQLinked.nd rfl (Or.inl rfl) (pe_ix ix_list (pv 3) (pe_ix ix_list (pv 1) (pv 11) (fun _ _ => rfl)) (fun _ _ => rfl)))
      (pss_one (ps_if (pt_cmpR op_lt (pe_callB call_len_seq (by rfl) T.b_len boot'_len (pa_cons (pv 8) pa_nil)) pe_int (nomark _)) (pss_one (ps_expr (pe_bm PySem.F.plainAttrs_list PySem.F.slot_list_insert PySem.F.type_list_insert mt_insert (pv 8) (pa_cons (pe_lo l_law_draw (hr.mono (by decide)) (by rfl) (pa_cons (pv 0) (pa_cons (pe_op op_add (pe_callB call_len_seq (by rfl) T.b_len boot'_len (pa_cons (pv 8) pa_nil)) pe_int) pa_nil))) (pa_cons (pv 13) pa_nil))))) pss_nil)))))))
      (pss_one (ps_ret (pv 3)))))))), ?_⟩
    refine x_start (σ' := [some (.ref p), some (.ref a), some (.int al), none, none, none, none, none, none, none, none, none, none, none, none]) rfl ?_
    dsimp only [cxOf]
    obtain ⟨⟨op, hp⟩, oc, hc⟩ := hpen.some
    repeat walk_at "rd"
    refine y_lcL (xs := ls.map V.int) ha (fun R nR => ⟨fun i H1 => ∃ rs : List Addr, rs.length = i ∧ H1 R = some (.lst (rs.map V.ref)) ∧ rs.Nodup ∧ R ∉ rs ∧ (∀ r ∈ rs, H r = none ∧ H1 r = some (.lst [])) ∧ Kx [] H H1,
      ⟨[], rfl, upd_same, List.nodup_nil, by simp, by simp, (Kx.refl _ _).new nR⟩, ?_, ?_, ?_⟩)
    · rintro i H1 hi ⟨rs, _, _, _, _, _, k1⟩
      exact k1.sqL (by simp) ha
    · rintro i x H1 H1' hi ⟨rs, e1, e2, e3, e4, e5, k1⟩ ⟨rfl, hx⟩
      rw [List.length_map] at hi
      repeat walk_at "rd"
      refine ⟨rfl, ?_⟩
      repeat walk_at "rd"
      rename_i q nq
      have nqR : q ≠ R := (ne_of_none e2 nq).symm
      refine ⟨rs.map V.ref, lk_ne e2 nq, small1000 (by rw [List.length_map]; omega), rs ++ [q], by rw [List.length_append, e1]; rfl, ?_, ?_, ?_, ?_, ?_⟩
      · rw [upd_same, List.map_append]
        rfl
      · rw [List.nodup_append]
        refine ⟨e3, by simp, ?_⟩
        intro b hb b2 hb2
        rw [List.mem_singleton.mp hb2]
        exact ne_of_none (e5 b hb).2 nq
      · simp only [List.mem_append, List.mem_singleton, not_or]
        exact ⟨e4, nqR.symm⟩
      · intro r hr
        rcases List.mem_append.mp hr with z | z
        · have nrR : r ≠ R := fun e => e4 (e ▸ z)
          exact ⟨(e5 r z).1, by rw [upd_ne nrR]; exact lk_ne (e5 r z).2 nq⟩
        · rw [List.mem_singleton.mp z]
          exact ⟨k1.fresh (by simp) nq, by rw [upd_ne nqR]; exact upd_same⟩
      · exact (k1.new nq).wr (.inl nR)
    rintro H1 ⟨rs, e1, e2, e3, e4, e5, k1⟩
    rw [List.length_map] at e1
    have I1 : RowsI H H1 R rs (rs.map fun _ => []) (ls.take al) 0 := by
      refine ⟨e2, by rw [List.length_map], e3, fun r hr => (e5 r hr).1, nR, e4, ?_, ?_⟩
      · intro i r row h1 h2
        rw [List.getElem?_map, h1] at h2
        rw [← Option.some.inj h2]
        exact (e5 r (List.mem_of_getElem? h1)).2
      · intro row hrow
        obtain ⟨_, _, rfl⟩ := List.mem_map.mp hrow
        exact ⟨Nat.le_refl _, by simp⟩
    have P1 : PenAt H1 p c n := hpen.keep k1 (by simp) (by simp) (Nat.le_refl _)
    have K1 : Kx [p] H H1 := k1.mono (by simp)
    clear e2 e3 e4 e5 k1
    repeat walk_at "rd"
    refine x_draw P1 (by omega) (by omega) (by omega) fun way H2 w0 w1 k2 P2 => ?_
    replace K1 := K1.trans k2
    replace I1 := I1.keep k2 (by simpa using ⟨_, hp⟩)
    clear k2 P1
    repeat walk_at "rd"
    have hnp : ∀ b, H b = none → b ≠ p := fun b hb e => by
      rw [e, hp] at hb
      cases hb
    have hlab : ∀ {w : Int}, 0 ≤ w → w < al → ∃ z, z ∈ ls.take al ∧ 0 ≤ z ∧ z < rs.length ∧ atI (ls.map V.int) w = some (.int z) := by
      intro w hw0 hw1
      obtain ⟨z, hz, hz1, hz2⟩ := at_ints (zs := ls) hw0 (by omega)
      refine ⟨z, ?_, (hls z hz).1, by rw [e1]; exact (hls z hz).2, hz2⟩
      exact List.mem_of_getElem? (i := w.toNat) (by rw [List.getElem?_take_of_lt (by omega)]; exact hz1)
    have hlist : ∀ {H1 : Hp}, Kx [p] H H1 → SqL K H1 a (ls.map V.int) := fun k1 => k1.sqL (by simpa using nap) ha
    refine y_forR2 (by omega) (by omega) (by omega) (by omega) ⟨fun i σ H3 => ∃ rows y5 y6 y7 y8, σ = [some (.ref p), some (.ref a), some (.int al), some (.ref R), some (.int way), y5, y6, y7, y8, none, none, none, none, none, none] ∧
      RowsI H H3 R rs rows (ls.take al) i ∧ Kx [p] H H3 ∧ PenAt H3 p c (n + 1 + 3 * i), ⟨_, none, none, none, none, rfl, I1, K1, P2⟩, fun _ _ _ _ _ => trivial, ?_, ?_⟩
    · rintro i x σ H3 H3' hi ⟨rows, y5, y6, y7, y8, rfl, I3, K3, P3⟩ ⟨rfl, rfl⟩
      have hi2 : 1 + (i : Int) < al := by omega
      repeat walk_at "rd"
      refine x_draw P3 (by omega) (by split <;> omega) (by split <;> omega) fun d1 H4 a0 a1 k4 P4 => ?_
      replace K3 := K3.trans k4
      replace I3 := I3.keep k4 (by simpa using ⟨_, hp⟩)
      clear k4 P3
      repeat walk_at "rd"
      refine x_draw P4 (by omega) (by omega) (by omega) fun d2 H5 b0 b1 k5 P5 => ?_
      replace K3 := K3.trans k5
      replace I3 := I3.keep k5 (by simpa using ⟨_, hp⟩)
      clear k5 P4
      have ha1 : d1 < 1 + (i : Int) ∧ d1 < 3 := by split at a1 <;> omega
      obtain ⟨back, hat, hb0, hb1⟩ : ∃ back, atI [V.int 1, V.int (1 + (i : Int)), V.int (1 + d1), V.int (1 + d2), V.int (1 + d1)] way = some (.int back) ∧ 1 ≤ back ∧ back ≤ 1 + (i : Int) := by
        obtain ⟨z, hz, _, hz2⟩ := at_ints (zs := [1, 1 + (i : Int), 1 + d1, 1 + d2, 1 + d1]) w0 (by simpa using w1)
        refine ⟨z, hz2, ?_⟩
        simp only [List.mem_cons, List.not_mem_nil, or_false] at hz
        omega
      obtain ⟨z, hz, hz0, hz1, hatz⟩ := hlab (w := 1 + (i : Int) - back) (by omega) (by omega)
      obtain ⟨z', hz', _, _, hatz'⟩ := hlab (w := 1 + (i : Int)) (by omega) (by omega)
      obtain ⟨j, r, row, rfl, hrs, hrow, hr, hatr, hr0⟩ := I3.get hz0 hz1
      have hR := I3.hR
      have nrp := hnp r hr0
      repeat walk_at "rd"
      rename_i q nq
      refine ⟨ty_list (SqL.of (by walk_at "lk")), ?_⟩
      repeat walk_at "rd"
      have hrow' := I3.good row (List.mem_of_getElem? hrow)
      refine x_draw (P5.keep ((Kx.refl [] H5).new nq) (by simp) (by simp) (Nat.le_refl _)) (by omega) (by omega) (by omega) fun d3 H6 c0 c1 k6 P6 => ?_
      have hr6 : H6 r = some (.lst row) := k6 r _ (by simpa using nrp) (lk_ne hr nq)
      replace K3 := (K3.new nq).trans k6
      replace I3 := (I3.keep ((Kx.refl [] H5).new nq) (by simp)).keep k6 (by simpa using ⟨_, hp⟩)
      clear k6 P5
      repeat walk_at "rd"
      refine ⟨_, _, _, _, _, rfl, (I3.mono (Nat.le_succ i)).wr hrs (row' := row.take d3.toNat ++ [V.int z'] ++ row.drop d3.toNat) ?_ ?_, K3.wr (.inl hr0), ?_⟩
      · rw [ins_perm.length_eq, List.length_append, List.length_singleton]
        omega
      · intro v hv
        rcases List.mem_append.mp (ins_perm.mem_iff.mp hv) with hv | hv
        · exact hrow'.2 v hv
        · exact .inr ⟨z', hz', List.mem_singleton.mp hv⟩
      · exact P6.up (upd_ne nrp.symm) (upd_ne (fun e => by rw [← e, hc] at hr0; cases hr0)) (by omega)
    · rintro σ H3 ⟨rows, y5, y6, y7, y8, rfl, I3, K3, P3⟩
      repeat walk_at "rd"
      refine x_draw P3 (by omega) (by omega) (by omega) fun fwd H4 f0 f1 k4 P4 => ?_
      replace K3 := K3.trans k4
      replace I3 := (I3.keep k4 (by simpa using ⟨_, hp⟩)).mono (show (al - 1 : Int).toNat ≤ 40 by omega)
      clear k4 P3
      repeat walk_at "rd"
      refine x_draw P4 (by omega) (by omega) (by omega) fun u1 H5 g0 g1 k5 P5 => ?_
      replace K3 := K3.trans k5
      replace I3 := I3.keep k5 (by simpa using ⟨_, hp⟩)
      clear k5 P4
      repeat walk_at "rd"
      rename_i q nq
      have nqp : q ≠ p := hnp q (K3.fresh (fun z => by rw [List.mem_singleton.mp z] at nq; obtain ⟨⟨o, ho⟩, _⟩ := P5.some; rw [ho] at nq; cases nq) nq)
      refine x_draw (P5.keep ((Kx.refl [] H5).new nq) (by simp) (by simp) (Nat.le_refl _)) (by omega) (by omega) (by omega) fun u2 H6 g2 g3 k6 P6 => ?_
      have hq6 : H6 q = some (.lst [V.int 0, V.int u1, V.int ((al : Int) / 2), V.int al]) := k6 q _ (by simpa using nqp) upd_same
      replace K3 := (K3.new nq).trans k6
      replace I3 := (I3.keep ((Kx.refl [] H5).new nq) (by simp)).keep k6 (by simpa using ⟨_, hp⟩)
      clear k6 P5
      obtain ⟨cnt, hat, hc0, hc1⟩ : ∃ cnt, atI [V.int 0, V.int u1, V.int ((al : Int) / 2), V.int al] u2 = some (.int cnt) ∧ 0 ≤ cnt ∧ cnt ≤ 40 := by
        obtain ⟨z, hz, _, hz2⟩ := at_ints (zs := [0, u1, (al : Int) / 2, (al : Int)]) g2 (by simpa using g3)
        refine ⟨z, hz2, ?_⟩
        simp only [List.mem_cons, List.not_mem_nil, or_false] at hz
        omega
      repeat walk_at "rd"
      refine y_forR1 hc0 (by omega) ⟨fun i σ H7 => ∃ rows y5 y6 y7 y8 y10 y11 y12 y13, σ = [some (.ref p), some (.ref a), some (.int al), some (.ref R), some (.int way), y5, y6, y7, y8, some (.int fwd), y10, y11, y12, y13, none] ∧
        RowsI H H7 R rs rows (ls.take al) 40 ∧ Kx [p] H H7 ∧ PenAt H7 p c (n + 130 + 4 * i), ⟨_, _, _, _, _, none, none, none, none, rfl, I3, K3, P6.keep (Kx.refl [] H6) (by simp) (by simp) (by omega)⟩, fun _ _ _ _ _ => trivial, ?_, ?_⟩
      · rintro i x σ H7 H7' hi ⟨rows, y5, y6, y7, y8, y10, y11, y12, y13, rfl, I3, K3, P3⟩ ⟨rfl, rfl⟩
        have hi2 : i < 40 := by omega
        repeat walk_at "rd"
        refine x_draw P3 (by omega) (by omega) (by omega) fun d1 H4 a0 a1 k4 P4 => ?_
        replace K3 := K3.trans k4
        replace I3 := I3.keep k4 (by simpa using ⟨_, hp⟩)
        clear k4 P3
        repeat walk_at "rd"
        refine x_draw P4 (by omega) (by omega) (by omega) fun d2 H5 b0 b1 k5 P5 => ?_
        replace K3 := K3.trans k5
        replace I3 := I3.keep k5 (by simpa using ⟨_, hp⟩)
        clear k5 P4
        repeat walk_at "rd"
        refine ite2 (fun hf => ?A) (fun hf => ?B)
        case' A =>
          repeat walk_at "rd"
          generalize hone : (if d2 < d1 then d2 else d1) = one
          generalize hoth : (if d2 > d1 then d2 else d1) = oth
          have o0 : 0 ≤ one ∧ one < al := by split at hone <;> omega
          have p0 : 0 ≤ oth ∧ oth < al := by split at hoth <;> omega
        case' B =>
          repeat walk_at "rd"
          have o0 : 0 ≤ d1 ∧ d1 < al := ⟨a0, a1⟩
          have p0 : 0 ≤ d2 ∧ d2 < al := ⟨b0, b1⟩
          generalize d1 = one at o0 ⊢
          generalize d2 = oth at p0 ⊢
        all_goals
          obtain ⟨z, hz, hz0, hz1, hatz⟩ := hlab p0.1 p0.2
          obtain ⟨z', hz', hz0', hz1', hatz'⟩ := hlab o0.1 o0.2
          repeat walk_at "rd"
          rename_i q nq
          have nqp : q ≠ p := hnp q (K3.fresh (fun z => by rw [List.mem_singleton.mp z] at nq; obtain ⟨⟨o, ho⟩, _⟩ := P5.some; rw [ho] at nq; cases nq) nq)
          refine x_draw (P5.keep ((Kx.refl [] H5).new nq) (by simp) (by simp) (Nat.le_refl _)) (by omega) (by omega) (by omega) fun d3 H6 c0 c1 k6 P6 => ?_
          have hq6 : H6 q = some (.lst [V.int z, V.non]) := k6 q _ (by simpa using nqp) upd_same
          replace K3 := (K3.new nq).trans k6
          replace I3 := (I3.keep ((Kx.refl [] H5).new nq) (by simp)).keep k6 (by simpa using ⟨_, hp⟩)
          clear k6 P5
          have hR := I3.hR
          obtain ⟨j, r, row, rfl, hrs, hrow, hr, hatr, hr0⟩ := I3.get hz0' hz1'
          have nrp := hnp r hr0
          have hrow' := I3.good row (List.mem_of_getElem? hrow)
          have gN : V.non = .non ∨ ∃ z ∈ ls.take al, V.non = V.int z := .inl rfl
          have gZ : V.int z = .non ∨ ∃ z' ∈ ls.take al, V.int z = V.int z' := .inr ⟨z, hz, rfl⟩
          repeat walk_at "rd"
          refine ite2 (fun e3 => ?_) (fun e3 => ?_)
          all_goals repeat walk_at "rd"
          all_goals refine ite2 (fun e3 => ?_) (fun e3 => ?_)
          all_goals repeat walk_at "rd"
          any_goals
            generalize decide (V.int one = V.int oth) = bb
            cases bb
          all_goals repeat walk_at "rd"
          any_goals refine ite2 (fun e3 => ?_) (fun e3 => ?_)
          all_goals repeat walk_at "rd"
          any_goals exact ⟨rows, _, _, _, _, _, _, _, _, rfl, I3, K3, P6.keep (Kx.refl [] H6) (by simp) (by simp) (by omega)⟩
          all_goals
            refine ⟨ty_list (SqL.of hr), ?_⟩
            have hlen : (row.length : Int) < 40 := of_decide_eq_true e3
            repeat walk_at "rd"
            refine x_draw P6 (by omega) (by omega) (by omega) fun d4 H8 s0 s1 k8 P8 => ?_
            replace K3 := K3.trans k8
            replace I3 := I3.keep k8 (by simpa using ⟨_, hp⟩)
            have hr8 : H8 r = some (.lst row) := k8 r _ (by simpa using nrp) hr
            clear k8 P6
            repeat walk_at "rd"
            refine ⟨_, _, _, _, _, _, _, _, _, rfl, I3.wr hrs ?_ ?_, K3.wr (.inl hr0), P8.up (upd_ne nrp.symm) (upd_ne (fun e => by rw [← e, hc] at hr0; cases hr0)) (by omega)⟩
            · rw [ins_perm.length_eq, List.length_append, List.length_singleton]
              omega
            · intro v hv
              rcases List.mem_append.mp (ins_perm.mem_iff.mp hv) with hv | hv
              · exact hrow'.2 v hv
              · rw [List.mem_singleton.mp hv]
                first
                  | exact gN
                  | exact gZ
      · rintro σ H7 ⟨rows, y5, y6, y7, y8, y10, y11, y12, y13, rfl, I3, K3, P3⟩
        repeat walk_at "rd"
        exact k R rs rows H7 I3 e1 K3 (P3.keep (Kx.refl [] H7) (by simp) (by simp) (by omega))
end

section
variable {P : Program} {w : World} {K : PySem.W.Frag} {mg : Str → Option Value} {base : Heap}
/-- a row of slots as data, and as values -/
abbrev Rw := List (Option Nat)
def slotV : Option Nat → V
  | none => .non
  | some k => .int k
def rowV (l : Rw) : List V := l.map slotV
/-- a heap at D: its rows (none: free) and its outside references -/
structure HeapAt (K : PySem.W.Frag) (H : Hp) (D : Addr) (slots : List (Option Rw)) (outs : List Int) : Prop where
  ex : ∃ (S O : Addr) (vs : List V), SqT K H D [.ref S, .ref O] ∧ SqT K H S vs ∧ SqT K H O (outs.map V.int) ∧ vs.length = slots.length ∧
    ∀ (i : Nat) (o : Option Rw), slots[i]? = some o → (o = none ∧ vs[i]? = some V.non) ∨ ∃ r row, o = some row ∧ vs[i]? = some (.ref r) ∧ FT H r (rowV row)
structure WfB (b : Int) (slots : List (Option Rw)) (outs : List Int) : Prop where
  len : outs.length = slots.length
  most : slots.length ≤ 40
  free : ∀ m : Nat, slots[m]? = some none → outs[m]? = some 0
  outs : ∀ z ∈ outs, 0 ≤ z ∧ z ≤ b
  row : ∀ row, some row ∈ slots → row.length ≤ 40
  live : ∀ row, some row ∈ slots → ∀ k, some k ∈ row → ∃ r, slots[k]? = some (some r)
abbrev Wf := WfB 9
theorem HeapAt.keep {K : PySem.W.Frag} {H H' : Hp} {D : Addr} {slots : List (Option Rw)} {outs : List Int} (h : HeapAt K H D slots outs) (k : Same H H') : HeapAt K H' D slots outs := by
  obtain ⟨S, O, vs, h1, h2, h3, h4, h5⟩ := h.ex
  have k0 : Kx [] H H' := .same k []
  refine ⟨S, O, vs, k0.sqT (by simp) h1, k0.sqT (by simp) h2, k0.sqT (by simp) h3, h4, fun i o ho => ?_⟩
  rcases h5 i o ho with z | ⟨r, row, e1, e2, ob, e3, e4, e5⟩
  · exact .inl z
  · exact .inr ⟨r, row, e1, e2, ob, k _ _ e3, e4, e5⟩
def spBase (K : PySem.W.Frag) : Sp := fun vs H Q _ => ∃ (p c : Addr) (n : Nat), vs = [.ref p] ∧ PenAt H p c n ∧ n ≤ 800000 ∧
  ∀ (B D : Addr) (lab : Nat) (slots : List (Option Rw)) (outs : List Int) H', H' B = some (.tup [.ref D, .int lab]) → HeapAt K H' D slots outs → Wf slots outs → 1 ≤ slots.length → (∃ (row : Rw) (z : Int), slots[lab]? = some (some row) ∧ outs[lab]? = some z ∧ 1 ≤ z) → Kx [p] H H' → PenAt H' p c (n + 700) → Q (.ref B) H'
def toI : V → Int
  | .int i => i
  | _ => 0
theorem perm_ints {ys : List V} {zs : List Int} (h : ys.Perm (zs.map V.int)) : ∃ ls : List Int, ys = ls.map V.int ∧ ls.Perm zs := by
  refine ⟨ys.map toI, ?_, ?_⟩
  · rw [List.map_map]
    have : ∀ y ∈ ys, (V.int ∘ toI) y = y := by
      intro y hy
      obtain ⟨z, _, rfl⟩ := List.mem_map.mp (h.mem_iff.mp hy)
      rfl
    rw [List.map_congr_left this, List.map_id']
  · have e := h.map toI
    rw [List.map_map] at e
    have e2 : zs.map (toI ∘ V.int) = zs := by
      rw [show (toI ∘ V.int) = id from rfl, List.map_id]
    rwa [e2] at e
theorem rg_ints (N : Nat) : rgV 0 (N : Int) = ((List.range N).map fun (i : Nat) => (i : Int)).map V.int := by
  unfold rgV
  rw [List.map_map, show ((N : Int) - 0).toNat = N by omega]
  refine List.map_congr_left fun i _ => ?_
  show V.int (0 + (i : Int)) = V.int i
  rw [Int.zero_add]
def unV : V → Option Nat
  | .int z => some z.toNat
  | _ => none
theorem Kx.comb {S : List Addr} {H H1 H2 : Hp} {Z : Addr} (a : Kx S H H1) (b : Kx [Z] H1 H2) (n : H Z = none) : Kx S H H2 := fun q o hq h =>
  b q o (fun z => by rw [List.mem_singleton.mp z, n] at h; cases h) (a q o hq h)
theorem cut_from (xs : List V) (k : Nat) : cutV xs (some (k : Int)) none = xs.drop k := by
  unfold cutV
  rw [HT.sIx_none, show HT.sIx xs.length 0 (some (k : Int)) = min k xs.length from HT.sIx_nat xs.length 0 k]
  rcases Nat.le_total k xs.length with h | h
  · rw [Nat.min_eq_left h, List.take_of_length_le (by rw [List.length_drop]; exact Nat.le_refl _)]
  · rw [Nat.min_eq_right h, Nat.sub_self, List.take_zero, List.drop_of_length_le h]
theorem ix_nat {n j : Nat} (hj : j < n) : ixN n (j : Int) = some j := by
  unfold ixN
  rw [if_pos (by omega), if_pos (by omega), Int.toNat_natCast]
theorem RowsI.other {H0 H : Hp} {R A : Addr} {o : HO} {rs : List Addr} {rows : List (List V)} {live : List Int} {B : Nat} (h : RowsI H0 H R rs rows live B) (nR : A ≠ R) (n : A ∉ rs) : RowsI H0 (upd H A o) R rs rows live B :=
  ⟨(upd_ne nR.symm).trans h.hR, h.len, h.nd, h.fr, h.frR, h.nR, fun i r row h1 h2 => (upd_ne (fun e => n (by rw [← e]; exact List.mem_of_getElem? h1))).trans (h.at_ i r row h1 h2), h.good⟩
theorem ok_base {f : Addr} {fd : FuncData} (F : Fun K "_law_base" "_law_base" sQBase f fd) (T : Txt mg) (l_law_draw : Lo P w K mg base "_law_draw" 1 ["_law_pen_here", "_law_most_one"] spDraw)
    (l_law_shuffled : Lo P w K mg base "_law_shuffled" 2 ["_law_pen_here", "_law_row"] (spShuf K)) (l_law_linked : Lo P w K mg base "_law_linked" 2 ["_law_pen_here", "_law_labels", "_law_alive"] (spLinked K)) :
    FnOk P w K mg base CX0 3 f fd ["_law_pen_here"] (spBase K) := by
  refine F.ok scQBase (fun vs H Q E h => ?_) (fun cdv A outer s H vs Q E hr h => ?_)
  · obtain ⟨p, c, n, rfl, _⟩ := h
    rfl
  · obtain ⟨p, c, n, rfl, hpen, hn, k⟩ := h
    refine ⟨_, (pss_cons (ps_set (i := 1) scQBase.nd rfl (Or.inl rfl) (pe_ix ix_list (pe_lst (pa_cons (pe_op op_add pe_int (pe_lo l_law_draw (hr.mono (by decide)) (by rfl) (pa_cons (pv 0) (pa_cons pe_int pa_nil)))) (pa_cons (pe_op op_add pe_int (pe_lo l_law_draw (hr.mono (by decide)) (by rfl) (pa_cons (pv 0) (pa_cons pe_int pa_nil)))) (pa_cons pe_int (pa_cons (pe_op op_add pe_int (pe_lo l_law_draw (hr.mono (by decide)) (by rfl) (pa_cons (pv 0) (pa_cons pe_int pa_nil)))) pa_nil))))) (pe_lo l_law_draw (hr.mono (by decide)) (by rfl) (pa_cons (pv 0) (pa_cons pe_int pa_nil))) (fun _ _ => rfl)))
      (pss_cons (ps_set (i := 2) scQBase.nd rfl (Or.inl rfl) (pe_ix ix_list (pe_lst (pa_cons pe_int (pa_cons pe_int (pa_cons (pe_lo l_law_draw (hr.mono (by decide)) (by rfl) (pa_cons (pv 0) (pa_cons (pe_op op_sub pe_int (pv 1)) pa_nil))) (pa_cons (pe_callB (call_min2 rfl) (by rfl) T.b_min boot'_min (pa_cons pe_int (pa_cons (pe_op op_sub pe_int (pv 1)) pa_nil))) pa_nil))))) (pe_lo l_law_draw (hr.mono (by decide)) (by rfl) (pa_cons (pv 0) (pa_cons pe_int pa_nil))) (fun _ _ => rfl)))
      (pss_cons (ps_set (i := 3) scQBase.nd rfl (Or.inl rfl) (pe_lo l_law_shuffled (hr.mono (by decide)) (by rfl) (pa_cons (pv 0) (pa_cons (pe_listRg rfl (by rfl) T.b_list (prg_1 (by rfl) T.b_range (pe_op op_add (pv 1) (pv 2)))) pa_nil))))
      (pss_cons (ps_set (i := 4) scQBase.nd rfl (Or.inl rfl) (pe_lo l_law_linked (hr.mono (by decide)) (by rfl) (pa_cons (pv 0) (pa_cons (pv 3) (pa_cons (pv 1) pa_nil)))))
      (pss_cons (ps_setLc (i := 6) (own := [("_law_label", 5)]) rfl scQBase.nd rfl rfl (sw_true rfl rfl rfl (by decide +kernel)) (pi_list (pv 3)) (blkOk_by (N := ["_law_pen_here", "_law_alive", "_law_spare", "_law_labels", "_law_rows", "_law_label", "_law_handles", "_law_turn", "_law_row"]) (sc := defScope sQBase) (by decide +kernel)) (fun _ _ _ _ _ => (pg_name (i := 5) scQBase.nd rfl (Or.inl rfl))) (fun _ _ _ _ _ => pts_nil) (fun _ _ _ _ _ => pe_int))
      (pss_cons (ps_for PassesOwn.never rfl (pi_range1 (by rfl) T.b_range (pa_cons (pe_ix ix_list (pe_lst (pa_cons pe_int (pa_cons pe_int (pa_cons pe_int (pa_cons pe_int pa_nil))))) (pe_lo l_law_draw (hr.mono (by decide)) (by rfl) (pa_cons (pv 0) (pa_cons pe_int pa_nil))) (fun _ _ => rfl)) pa_nil)) (pg_name (i := 7) scQBase.nd rfl (Or.inl rfl))
      (pss_one (ps_asg (pe_op op_add pe_int (pe_lo l_law_draw (hr.mono (by decide)) (by rfl) (pa_cons (pv 0) (pa_cons pe_int pa_nil)))) (pg_sub (pv 6) (pe_ix ix_list (pv 3) (pe_lo l_law_draw (hr.mono (by decide)) (by rfl) (pa_cons (pv 0) (pa_cons (pv 1) pa_nil))) (fun _ _ => rfl)) set_list))))
      (pss_cons (ps_asg (pe_ix ix_list (pe_lst (pa_cons pe_int (pa_cons pe_int (pa_cons pe_int (pa_cons pe_int (pa_cons pe_int pa_nil)))))) (pe_lo l_law_draw (hr.mono (by decide)) (by rfl) (pa_cons (pv 0) (pa_cons pe_int pa_nil))) (fun _ _ => rfl)) (pg_sub (pv 6) (pe_ix ix_list (pv 3) pe_int (fun _ _ => rfl)) set_list))
      (pss_cons (ps_setLc (i := 4) (own := [("_law_row", 8)]) rfl scQBase.nd rfl rfl (sw_true rfl rfl rfl (by decide +kernel)) (pi_list (pv 4)) (blkOk_by (N := ["_law_pen_here", "_law_alive", "_law_spare", "_law_labels", "_law_rows", "_law_label", "_law_handles", "_law_turn", "_law_row"]) (sc := defScope sQBase) (by decide +kernel)) (fun _ _ _ _ _ => (pg_name (i := 8) scQBase.nd rfl (Or.inl rfl))) (fun _ _ _ _ _ => pts_nil) (fun _ _ _ _ _ => (pe_callTy (call_tupFK (K := K)) (by rfl) T.b_tuple boot'_tuple (pa_cons (pv 8) pa_nil))))
      (pss_cons (ps_for PassesOwn.never rfl (pi_list (pe_slice sl_list (pv 3) (po_some (pv 1)) po_none)) (pg_name (i := 5) scQBase.nd rfl (Or.inl rfl))
      (pss_one (ps_asg pe_non (pg_sub (pv 4) (pv 5) set_list))))
      (pss_one (ps_ret (pe_tup (pa_cons (pe_tup (pa_cons (pe_callTy call_tuple_of (by rfl) T.b_tuple boot'_tuple (pa_cons (pv 4) pa_nil)) (pa_cons (pe_callTy call_tuple_of (by rfl) T.b_tuple boot'_tuple (pa_cons (pv 6) pa_nil)) pa_nil))) (pa_cons (pe_ix ix_list (pv 3) pe_int (fun _ _ => rfl)) pa_nil)))))))))))))), ?_⟩
    refine x_start (σ' := [some (.ref p), none, none, none, none, none, none, none, none]) rfl ?_
    dsimp only [cxOf]
    obtain ⟨⟨op, hp⟩, oc, hc⟩ := hpen.some
    have hnp : ∀ b, H b = none → b ≠ p := fun b hb e => by
      rw [e, hp] at hb
      cases hb
    have npfree : ∀ {H1 : Hp} {q m}, PenAt H1 p c m → H1 q = none → q ≠ p := fun hp1 hq e => by
      obtain ⟨⟨o, ho⟩, _⟩ := hp1.some
      rw [e, ho] at hq
      cases hq
    repeat walk_at "rd"
    refine x_draw hpen (by omega) (by omega) (by omega) fun a1 H1 a1l a1h k1 P1 => ?_
    repeat walk_at "rd"
    refine x_draw P1 (by omega) (by omega) (by omega) fun a2 H2 a2l a2h k2 P2 => ?_
    replace k2 := k1.trans k2
    clear k1 P1
    repeat walk_at "rd"
    refine x_draw P2 (by omega) (by omega) (by omega) fun a3 H3 a3l a3h k3 P3 => ?_
    replace k3 := k2.trans k3
    clear k2 P2
    repeat walk_at "rd"
    rename_i q nq
    have nqp := npfree P3 nq
    refine x_draw (P3.keep ((Kx.refl [] H3).new nq) (by simp) (by simp) (Nat.le_refl _)) (by omega) (by omega) (by omega) fun a4 H4 a4l a4h k4 P4 => ?_
    have hq4 : H4 q = some (.lst [V.int (1 + a1), V.int (2 + a2), V.int 40, V.int (1 + a3)]) := k4 q _ (by simpa using nqp) upd_same
    have K4 := (k3.new nq).trans k4
    clear k4 P3 k3
    obtain ⟨al, hat, al0, al1⟩ : ∃ al : Nat, atI [V.int (1 + a1), V.int (2 + a2), V.int 40, V.int (1 + a3)] a4 = some (.int al) ∧ 1 ≤ al ∧ al ≤ 40 := by
      obtain ⟨z, hz, _, hz2⟩ := at_ints (zs := [1 + a1, 2 + a2, 40, 1 + a3]) a4l (by simpa using a4h)
      simp only [List.mem_cons, List.not_mem_nil, or_false] at hz
      refine ⟨z.toNat, ?_, by omega, by omega⟩
      rw [show ((z.toNat : Nat) : Int) = z by omega]
      exact hz2
    repeat walk_at "rd"
    refine x_draw P4 (by omega) (by omega) (by omega) fun s1 H5 s1l s1h k5 P5 => ?_
    replace K4 := K4.trans k5
    clear k5 P4
    repeat walk_at "rd"
    rename_i q2 nq2
    have nq2p := npfree P5 nq2
    refine x_draw (P5.keep ((Kx.refl [] H5).new nq2) (by simp) (by simp) (Nat.le_refl _)) (by omega) (by omega) (by omega) fun s2 H6 s2l s2h k6 P6 => ?_
    have hq6 : H6 q2 = some (.lst [V.int 0, V.int 0, V.int s1, V.int (if 40 - (al : Int) < 2 then 40 - (al : Int) else 2)]) := k6 q2 _ (by simpa using nq2p) upd_same
    have K6 := (K4.new nq2).trans k6
    clear k6 P5 K4
    obtain ⟨sp, hat2, sp1⟩ : ∃ sp : Nat, atI [V.int 0, V.int 0, V.int s1, V.int (if 40 - (al : Int) < 2 then 40 - (al : Int) else 2)] s2 = some (.int sp) ∧ sp + al ≤ 40 := by
      obtain ⟨z, hz, _, hz2⟩ := at_ints (zs := [0, 0, s1, if 40 - (al : Int) < 2 then 40 - (al : Int) else 2]) s2l (by simpa using s2h)
      simp only [List.mem_cons, List.not_mem_nil, or_false] at hz
      have hzz : 0 ≤ z ∧ z + al ≤ 40 := by
        split at hz <;> omega
      refine ⟨z.toNat, ?_, by omega⟩
      rw [show ((z.toNat : Nat) : Int) = z by omega]
      exact hz2
    repeat walk_at "rd"
    refine ⟨RgOk.of_le (by omega) (by omega) (by omega) (by omega), fun q3 nq3 => ?_⟩
    repeat walk_at "rd"
    have nq3p := npfree P6 nq3
    have eN : (al : Int) + (sp : Int) = ((al + sp : Nat) : Int) := by omega
    refine ⟨p, c, q3, n + 6, _, rfl, P6.keep ((Kx.refl [] H6).new nq3) (by simp) (by simp) (by omega), SqL.of upd_same, nq3p, by rw [rgV_length]; omega, by omega, fun L ys H7 nL hperm k7 hL P7 => ?_⟩
    rw [rgV_length] at P7
    rw [eN, rg_ints] at hperm
    obtain ⟨ls, rfl, hls⟩ := perm_ints hperm
    have hlen : ls.length = al + sp := by
      rw [hls.length_eq, List.length_map, List.length_range]
    have hmem : ∀ z ∈ ls, 0 ≤ z ∧ z < ls.length := by
      intro z hz
      obtain ⟨m, hm, rfl⟩ := List.mem_map.mp (hls.mem_iff.mp hz)
      have := List.mem_range.mp hm
      omega
    have hall : ∀ m : Nat, m < ls.length → (m : Int) ∈ ls := by
      intro m hm
      exact hls.mem_iff.mpr (List.mem_map.mpr ⟨m, List.mem_range.mpr (by omega), rfl⟩)
    have hnd : ls.Nodup := by
      refine hls.symm.nodup ?_
      refine List.Pairwise.map _ ?_ List.nodup_range
      intro a b hab e
      exact hab (by omega)
    have K7 := (K6.new nq3).trans k7
    have nLp := npfree (P6.keep ((Kx.refl [] H6).new nq3) (by simp) (by simp) (Nat.le_refl _)) nL
    clear k7 P6 K6 hq4 hq6 nqp nq2p hat hat2
    repeat walk_at "rd"
    refine ⟨p, c, L, _, ls, al, rfl, P7, SqL.of hL, nLp, by omega, hmem, al0, by omega, by omega, fun R rs rows H8 I8 e8 k8 P8 => ?_⟩
    have K8 := K7.trans k8
    have hL8 : H8 L = some (.lst (ls.map V.int)) := k8 L _ (by simpa using nLp) hL
    repeat walk_at "rd"
    have hlab : ∀ {w : Int}, 0 ≤ w → w < al → ∃ j : Nat, (j : Int) ∈ ls.take al ∧ j < ls.length ∧ atI (ls.map V.int) w = some (.int (j : Int)) := by
      intro w hw0 hw1
      obtain ⟨z, hz, hz1, hz2⟩ := at_ints (zs := ls) hw0 (by omega)
      have h3 := hmem z hz
      refine ⟨z.toNat, ?_, by omega, ?_⟩
      · rw [show ((z.toNat : Nat) : Int) = z by omega]
        exact List.mem_of_getElem? (i := w.toNat) (by rw [List.getElem?_take_of_lt (by omega)]; exact hz1)
      · rw [show ((z.toNat : Nat) : Int) = z by omega]
        exact hz2
    refine y_lcL (xs := ls.map V.int) (SqL.of hL8) (fun A nA => ⟨fun i H1 => Kx [] H8 H1 ∧ H1 A = some (.lst ((List.replicate i (0 : Int)).map V.int)), ⟨(Kx.refl _ _).new nA, upd_same⟩, ?_, ?_, ?_⟩)
    · rintro i H1 hi ⟨k1, _⟩
      exact k1.sqL (by simp) (SqL.of hL8)
    · rintro i x H1 H1' hi ⟨k1, e1⟩ ⟨rfl, hx⟩
      rw [List.length_map] at hi
      repeat walk_at "rd"
      refine ⟨rfl, ?_⟩
      repeat walk_at "rd"
      refine ⟨_, e1, small1000 (by rw [List.length_map, List.length_replicate]; omega), k1.wr (.inl nA), ?_⟩
      rw [upd_same, List.replicate_succ', List.map_append]
      rfl
    rintro H9 ⟨k9, hA⟩
    rw [List.length_map] at hA
    have K9 := K8.trans (k9.mono (by simp))
    have I9 := I8.keep k9 (by simp)
    have hL9 : H9 L = some (.lst (ls.map V.int)) := k9 L _ (by simp) hL8
    have P9 := P8.keep k9 (by simp) (by simp) (Nat.le_refl _)
    have nAp := npfree P8 nA
    have nAL : A ≠ L := fun e => by rw [e, hL8] at nA; cases nA
    have nAR : A ≠ R := fun e => by rw [e, I8.hR] at nA; cases nA
    have nArs : A ∉ rs := fun z => by
      obtain ⟨m, hm⟩ := List.mem_iff_getElem?.mp z
      obtain ⟨row, hrow⟩ : ∃ row, rows[m]? = some row := ⟨_, List.getElem?_eq_getElem (by rw [I8.len]; exact (List.getElem?_eq_some_iff.mp hm).1)⟩
      rw [I8.at_ m A row hm hrow] at nA
      cases nA
    have nA0 : H A = none := (K8.fresh (by simpa using nAp) nA)
    have P8' := P8
    clear k9 P8
    repeat walk_at "rd"
    rename_i q4 nq4
    have nq4p := npfree P9 nq4
    refine x_draw (P9.keep ((Kx.refl [] H9).new nq4) (by simp) (by simp) (Nat.le_refl _)) (by omega) (by omega) (by omega) fun s3 H10 s3l s3h k10 P10 => ?_
    have hq4 : H10 q4 = some (.lst [V.int 0, V.int 0, V.int 1, V.int 3]) := k10 q4 _ (by simpa using nq4p) upd_same
    have K10 := (K9.new nq4).trans k10
    have I10 := (I9.keep ((Kx.refl [] H9).new nq4) (by simp)).keep k10 (by simpa using P7.some.1)
    have hA10 : H10 A = some (.lst ((List.replicate ls.length (0 : Int)).map V.int)) := k10 A _ (by simpa using nAp) (lk_ne hA nq4)
    have hL10 : H10 L = some (.lst (ls.map V.int)) := k10 L _ (by simpa using nLp) (lk_ne hL9 nq4)
    clear k10 P9 I9 hA hL9
    obtain ⟨cnt, hat, hc0, hc1⟩ : ∃ cnt, atI [V.int 0, V.int 0, V.int 1, V.int 3] s3 = some (.int cnt) ∧ 0 ≤ cnt ∧ cnt ≤ 3 := by
      obtain ⟨z, hz, _, hz2⟩ := at_ints (zs := [0, 0, 1, 3]) s3l (by simpa using s3h)
      refine ⟨z, hz2, ?_⟩
      simp only [List.mem_cons, List.not_mem_nil, or_false] at hz
      omega
    repeat walk_at "rd"
    refine y_forR1 hc0 (by omega) ⟨fun i σ H11 => ∃ (hs : List Int) (y7 : Option V), σ = [some (.ref p), some (.int al), some (.int sp), some (.ref L), some (.ref R), none, some (.ref A), y7, none] ∧
      H11 A = some (.lst (hs.map V.int)) ∧ hs.length = ls.length ∧ (∀ z ∈ hs, 0 ≤ z ∧ z ≤ 9) ∧ (∀ m : Nat, m < ls.length → (m : Int) ∉ ls.take al → hs[m]? = some 0) ∧ H11 L = some (.lst (ls.map V.int)) ∧ RowsI H7 H11 R rs rows (ls.take al) 40 ∧ Kx [p] H H11 ∧ PenAt H11 p c (n + 600 + 2 * i),
      ⟨_, none, rfl, hA10, List.length_replicate, fun z hz => by rw [(List.mem_replicate.mp hz).2]; omega, fun m hm _ => by rw [List.getElem?_replicate, if_pos hm], hL10, I10, K10, P10.keep (Kx.refl [] H10) (by simp) (by simp) (by omega)⟩, fun _ _ _ _ _ => trivial, ?_, ?_⟩
    · rintro i x σ H11 H11' hi ⟨hs, y7, rfl, hA11, hhl, hhb, hhf, hL11, I11, K11, P11⟩ ⟨rfl, rfl⟩
      repeat walk_at "rd"
      refine x_draw P11 (by omega) (by omega) (by omega) fun v0 H12 v0l v0h k12 P12 => ?_
      have K12 := K11.trans k12
      have I12 := I11.keep k12 (by simpa using P7.some.1)
      have hA12 : H12 A = some (.lst (hs.map V.int)) := k12 A _ (by simpa using nAp) hA11
      have hL12 : H12 L = some (.lst (ls.map V.int)) := k12 L _ (by simpa using nLp) hL11
      clear k12 P11
      repeat walk_at "rd"
      refine x_draw P12 (by omega) (by omega) (by omega) fun v1 H13 v1l v1h k13 P13 => ?_
      have K13 := K12.trans k13
      have I13 := I12.keep k13 (by simpa using P7.some.1)
      have hA13 : H13 A = some (.lst (hs.map V.int)) := k13 A _ (by simpa using nAp) hA12
      have hL13 : H13 L = some (.lst (ls.map V.int)) := k13 L _ (by simpa using nLp) hL12
      clear k13 P12
      obtain ⟨j, hj, hj2, hatj⟩ := hlab v1l v1h
      have hix : ixN (hs.map V.int).length (j : Int) = some j := ix_nat (by rw [List.length_map]; omega)
      repeat walk_at "rd"
      refine ⟨hs.set j (1 + v0), _, rfl, ?_, by rw [List.length_set]; exact hhl, ?_, fun m hm hmt => by rw [List.getElem?_set_ne (fun e => hmt (by rw [← e]; exact hj))]; exact hhf m hm hmt, ?_, I13.other nAR nArs, K13.wr (.inl nA0), ?_⟩
      · rw [upd_same, List.map_set]
      · intro z hz
        rcases List.mem_or_eq_of_mem_set hz with hz | rfl
        · exact hhb z hz
        · omega
      · rw [upd_ne nAL.symm]
        exact hL13
      · exact P13.up (upd_ne nAp.symm) (upd_ne (fun e => by obtain ⟨_, o, ho⟩ := P8'.some; rw [← e, ho] at nA; cases nA)) (by omega)
    · rintro σ H11 ⟨hs, y7, rfl, hA11, hhl, hhb, hhf, hL11, I11, K11, P11⟩
      repeat walk_at "rd"
      rename_i q5 nq5
      have nq5p := npfree P11 nq5
      refine x_draw (P11.keep ((Kx.refl [] H11).new nq5) (by simp) (by simp) (Nat.le_refl _)) (by omega) (by omega) (by omega) fun s4 H12 s4l s4h k12 P12 => ?_
      have hq12 : H12 q5 = some (.lst [V.int 1, V.int 1, V.int 1, V.int 2, V.int 9]) := k12 q5 _ (by simpa using nq5p) upd_same
      have K12 := (K11.new nq5).trans k12
      have I12 := (I11.keep ((Kx.refl [] H11).new nq5) (by simp)).keep k12 (by simpa using P7.some.1)
      have hA12 : H12 A = some (.lst (hs.map V.int)) := k12 A _ (by simpa using nAp) (lk_ne hA11 nq5)
      have hL12 : H12 L = some (.lst (ls.map V.int)) := k12 L _ (by simpa using nLp) (lk_ne hL11 nq5)
      clear k12 P11 I11
      obtain ⟨hv, hat5, hv0, hv1⟩ : ∃ hv, atI [V.int 1, V.int 1, V.int 1, V.int 2, V.int 9] s4 = some (.int hv) ∧ 1 ≤ hv ∧ hv ≤ 9 := by
        obtain ⟨z, hz, _, hz2⟩ := at_ints (zs := [1, 1, 1, 2, 9]) s4l (by simpa using s4h)
        refine ⟨z, hz2, ?_⟩
        simp only [List.mem_cons, List.not_mem_nil, or_false] at hz
        omega
      obtain ⟨j0, hj0, hj02, hatj0⟩ := hlab (w := 0) (by omega) (by omega)
      have hix0 : ixN (hs.map V.int).length (j0 : Int) = some j0 := ix_nat (by rw [List.length_map]; omega)
      repeat walk_at "rd"
      have hA13 : upd H12 A (.lst ((hs.map V.int).set j0 (.int hv))) A = some (.lst ((hs.set j0 hv).map V.int)) := by rw [upd_same, List.map_set]
      have hL13 : upd H12 A (.lst ((hs.map V.int).set j0 (.int hv))) L = some (.lst (ls.map V.int)) := (upd_ne nAL.symm).trans hL12
      have I13 : RowsI H7 (upd H12 A (.lst ((hs.map V.int).set j0 (.int hv)))) R rs rows (ls.take al) 40 := I12.other nAR nArs
      have K13 : Kx [p] H (upd H12 A (.lst ((hs.map V.int).set j0 (.int hv)))) := K12.wr (.inl nA0)
      have P13 : PenAt (upd H12 A (.lst ((hs.map V.int).set j0 (.int hv)))) p c (n + 620) := P12.up (upd_ne nAp.symm) (upd_ne (fun e => by obtain ⟨_, o, ho⟩ := P8'.some; rw [← e, ho] at nA; cases nA)) (by omega)
      generalize upd H12 A (.lst ((hs.map V.int).set j0 (.int hv))) = H13 at *
      have hb2 : ∀ z ∈ hs.set j0 hv, 0 ≤ z ∧ z ≤ 9 := by
        intro z hz
        rcases List.mem_or_eq_of_mem_set hz with hz | rfl
        · exact hhb z hz
        · omega
      have hl2 : (hs.set j0 hv).length = ls.length := by rw [List.length_set]; exact hhl
      have hf2 : ∀ m : Nat, m < ls.length → (m : Int) ∉ ls.take al → (hs.set j0 hv)[m]? = some 0 := fun m hm hmt => by rw [List.getElem?_set_ne (fun e => hmt (by rw [← e]; exact hj0))]; exact hhf m hm hmt
      have hg2 : (hs.set j0 hv)[j0]? = some hv := List.getElem?_set_self (by omega)
      generalize hs.set j0 hv = hs2 at *
      clear hA12 hL12 I12 K12 P12 hq12
      refine y_lcL (xs := rs.map V.ref) (SqL.of I13.hR) (fun Z nZ => ⟨fun i H1 => Kx [] H13 H1 ∧ ∃ ts : List Addr, ts.length = i ∧ H1 Z = some (.lst (ts.map V.ref)) ∧ ∀ (m : Nat) (t : Addr) (row : List V), ts[m]? = some t → rows[m]? = some row → FT H1 t row,
        ⟨(Kx.refl _ _).new nZ, [], rfl, upd_same, by simp⟩, ?_, ?_, ?_⟩)
      · rintro i H1 hi ⟨k1, _⟩
        exact k1.sqL (by simp) (SqL.of I13.hR)
      · rintro i x H1 H1' hi ⟨k1, ts, et, eZ, hF⟩ ⟨rfl, hx⟩
        rw [List.length_map] at hi
        rw [List.getElem?_map, List.getElem?_eq_getElem hi] at hx
        cases Option.some.inj hx
        have hi3 : i < rows.length := by rw [I13.len]; exact hi
        have hrow := List.getElem?_eq_getElem hi3
        have hr1 : H1' rs[i] = some (.lst rows[i]) := k1 _ _ (by simp) (I13.at_ i _ _ (List.getElem?_eq_getElem hi) hrow)
        repeat walk_at "rd"
        refine ⟨rfl, ?_⟩
        repeat walk_at "rd"
        intro t o nt ho1 ho2
        have ntZ : t ≠ Z := (ne_of_none eZ nt).symm
        refine ⟨ts.map V.ref, lk_ne eZ nt, small1000 (by rw [List.length_map]; omega), (k1.new nt).wr (.inl nZ), ts ++ [t], by rw [List.length_append, et]; rfl, ?_, ?_⟩
        · rw [upd_same, List.map_append]
          rfl
        · intro m t' row' h1 h2
          by_cases hm : m < ts.length
          · rw [List.getElem?_append_left hm] at h1
            have f := hF m t' row' h1 h2
            have nt' : t' ≠ Z := by
              obtain ⟨ob, e, _⟩ := f
              exact ne_of e eZ (by intro z; cases z)
            obtain ⟨ob, e, f1, f2⟩ := f
            exact ⟨ob, lk_ne2 nt' (lk_ne e nt), f1, f2⟩
          · rw [List.getElem?_append_right (by omega)] at h1
            obtain ⟨e0, e1⟩ := List.getElem?_eq_some_iff.mp h1
            have em : m = i := by
              rw [List.length_singleton] at e0
              omega
            subst em
            rw [hrow] at h2
            simp only [et, Nat.sub_self, List.getElem_cons_zero] at e1
            rw [← e1, ← Option.some.inj h2]
            exact ⟨o, by rw [upd_ne ntZ]; exact upd_same, ho1, ho2⟩
      rintro H14 ⟨k14, ts, et, hZ, hF⟩
      rw [List.length_map, e8] at et
      have hA14 : H14 A = some (.lst (hs2.map V.int)) := k14 A _ (by simp) hA13
      have hL14 : H14 L = some (.lst (ls.map V.int)) := k14 L _ (by simp) hL13
      have K14 := K13.trans (k14.mono (by simp))
      have P14 := P13.keep k14 (by simp) (by simp) (Nat.le_refl _)
      have nZ0 : H Z = none := K13.fresh (by simpa using npfree P13 nZ) nZ
      have nZp := npfree P13 nZ
      have nAZ : A ≠ Z := fun e => by rw [← e, hA13] at nZ; cases nZ
      have nLZ : L ≠ Z := fun e => by rw [← e, hL13] at nZ; cases nZ
      repeat walk_at "rd"
      intro q6 nq6
      have nq6Z : q6 ≠ Z := (ne_of_none hZ nq6).symm
      rw [cut_from, ← List.map_drop]
      refine y_forL (xs := (ls.drop al).map V.int) (SqL.of upd_same) ⟨fun i σ Hx => ∃ (vs : List V) (y5 : Option V), σ = [some (.ref p), some (.int al), some (.int sp), some (.ref L), some (.ref Z), y5, some (.ref A), y7, none] ∧
        Hx Z = some (.lst vs) ∧ vs.length = ls.length ∧ (∀ (m : Nat) (t : Addr), ts[m]? = some t → vs[m]? = some (if (m : Int) ∈ (ls.drop al).take i then V.non else .ref t)) ∧ Kx [Z] (upd H14 q6 (.lst ((ls.drop al).map V.int))) Hx,
        ⟨ts.map V.ref, none, rfl, lk_ne hZ nq6, by rw [List.length_map]; exact et, ?_, Kx.refl _ _⟩, ?_, ?_, ?_⟩
      · intro m t ht
        rw [List.getElem?_map, ht, List.take_zero, if_neg (by simp)]
        rfl
      · rintro i σ Hx hi ⟨vs, y5, rfl, e1, e2, e3, kx⟩
        exact SqL.of (kx _ _ (by simpa using nq6Z) upd_same)
      · rintro i x σ Hx Hx' hi ⟨vs, y5, rfl, e1, e2, e3, kx⟩ ⟨rfl, hx⟩
        rw [List.length_map] at hi
        rw [List.getElem?_map, List.getElem?_eq_getElem hi] at hx
        cases Option.some.inj hx
        have hzm := hmem _ (List.mem_of_mem_drop (List.getElem_mem hi))
        obtain ⟨jz, hjz⟩ : ∃ jz : Nat, (ls.drop al)[i] = jz := ⟨((ls.drop al)[i]).toNat, by omega⟩
        rw [hjz] at hzm
        have hixz : ixN vs.length ((ls.drop al)[i]) = some jz := by
          rw [hjz]
          exact ix_nat (by omega)
        repeat walk_at "rd"
        refine ⟨vs.set jz .non, _, rfl, upd_same, by rw [List.length_set]; exact e2, ?_, kx.wr (.inr (by simp))⟩
        intro m t ht
        have et := List.take_add_one (l := ls.drop al) (i := i)
        rw [List.getElem?_eq_getElem hi] at et
        rw [et]
        by_cases hm : m = jz
        · subst hm
          rw [List.getElem?_set_self (by omega), if_pos (by simp [hjz])]
        · rw [List.getElem?_set_ne (Ne.symm hm), e3 m t ht]
          have : ((m : Int) ∈ (ls.drop al).take i ++ [(ls.drop al)[i]]) ↔ ((m : Int) ∈ (ls.drop al).take i) := by
            rw [List.mem_append, List.mem_singleton, hjz]
            constructor
            · rintro (z | z)
              · exact z
              · exact absurd (Int.ofNat.inj z) hm
            · exact .inl
          simp only [Option.toList_some, this]
      · rintro σ Hx ⟨vs, y5, rfl, e1, e2, e3, kx⟩
        rw [List.length_map, List.take_length] at e3
        have hAx : Hx A = some (.lst (hs2.map V.int)) := kx _ _ (by simpa using nAZ) (lk_ne hA14 nq6)
        have hLx : Hx L = some (.lst (ls.map V.int)) := kx _ _ (by simpa using nLZ) (lk_ne hL14 nq6)
        repeat walk_at "rd"
        intro S nS
        repeat walk_at "rd"
        intro O nO
        repeat walk_at "rd"
        rename_i D nD B nB
        have nZc : c ≠ Z := fun e => by
          obtain ⟨_, o, ho⟩ := P13.some
          rw [e, nZ] at ho
          cases ho
        have KX : Kx [p] H Hx := (K14.new nq6).comb kx nZ0
        have PX : PenAt Hx p c (n + 700) := (P14.keep ((Kx.refl [] H14).new nq6) (by simp) (by simp) (Nat.le_refl _)).keep kx (by simpa using nZp.symm) (by simpa using nZc) (by omega)
        have kf : Kx [] Hx (upd (upd (upd (upd Hx S (.tup vs)) O (.tup (hs2.map V.int))) D (.tup [.ref S, .ref O])) B (.tup [.ref D, .int j0])) := ((((Kx.refl [] Hx).new nS).new nO).new nD).new nB
        have hS : SqT K (upd (upd (upd (upd Hx S (.tup vs)) O (.tup (hs2.map V.int))) D (.tup [.ref S, .ref O])) B (.tup [.ref D, .int j0])) S vs := SqT.of (by walk_at "lk")
        have hO : SqT K (upd (upd (upd (upd Hx S (.tup vs)) O (.tup (hs2.map V.int))) D (.tup [.ref S, .ref O])) B (.tup [.ref D, .int j0])) O (hs2.map V.int) := SqT.of (by walk_at "lk")
        have hD : SqT K (upd (upd (upd (upd Hx S (.tup vs)) O (.tup (hs2.map V.int))) D (.tup [.ref S, .ref O])) B (.tup [.ref D, .int j0])) D [.ref S, .ref O] := SqT.of (by walk_at "lk")
        have hB : (upd (upd (upd (upd Hx S (.tup vs)) O (.tup (hs2.map V.int))) D (.tup [.ref S, .ref O])) B (.tup [.ref D, .int j0])) B = some (.tup [.ref D, .int j0]) := upd_same
        generalize (upd (upd (upd (upd Hx S (.tup vs)) O (.tup (hs2.map V.int))) D (.tup [.ref S, .ref O])) B (.tup [.ref D, .int j0])) = Hf at *
        have hrl : rows.length = ls.length := I13.len.trans e8
        have hsl : ((List.range ls.length).map fun m => if ((m : Nat) : Int) ∈ ls.drop al then (none : Option Rw) else some (((rows[m]?).getD []).map unV)).length = ls.length := by rw [List.length_map, List.length_range]
        have hget : ∀ m, m < ls.length → ((List.range ls.length).map fun m => if ((m : Nat) : Int) ∈ ls.drop al then (none : Option Rw) else some (((rows[m]?).getD []).map unV))[m]? = some (if ((m : Nat) : Int) ∈ ls.drop al then (none : Option Rw) else some (((rows[m]?).getD []).map unV)) := by
          intro m hm
          rw [List.getElem?_map, List.getElem?_range hm]
          rfl
        have hap : ∀ z, z ∈ ls.take al → z ∉ ls.drop al := by
          intro z hz hz2
          have := hnd
          rw [← List.take_append_drop al ls, List.nodup_append] at this
          exact this.2.2 z hz z hz2 rfl
        have hfr : ∀ m : Nat, ((List.range ls.length).map fun m => if ((m : Nat) : Int) ∈ ls.drop al then (none : Option Rw) else some (((rows[m]?).getD []).map unV))[m]? = some none → hs2[m]? = some 0 := by
          intro m hm
          have hm1 : m < ls.length := by
            have := (List.getElem?_eq_some_iff.mp hm).1
            rwa [hsl] at this
          rw [hget m hm1] at hm
          by_cases hd : (m : Int) ∈ ls.drop al
          · exact hf2 m hm1 fun z => hap _ z hd
          · rw [if_neg hd] at hm
            cases hm
        have hlb : ∃ (row : Rw) (z : Int), ((List.range ls.length).map fun m => if ((m : Nat) : Int) ∈ ls.drop al then (none : Option Rw) else some (((rows[m]?).getD []).map unV))[j0]? = some (some row) ∧ hs2[j0]? = some z ∧ 1 ≤ z := by
          refine ⟨((rows[j0]?).getD []).map unV, hv, ?_, hg2, hv0⟩
          rw [hget j0 hj02, if_neg (hap _ hj0)]
        refine k B D j0 _ hs2 Hf hB ⟨S, O, vs, hD, hS, hO, e2.trans hsl.symm, ?_⟩ ⟨hl2.trans hsl.symm, by rw [hsl]; omega, hfr, hb2, ?_, ?_⟩ (by rw [hsl]; omega) hlb (KX.trans (kf.mono (by simp))) (PX.keep kf (by simp) (by simp) (Nat.le_refl _))
        · intro m o ho
          have hm : m < ls.length := by
            have := (List.getElem?_eq_some_iff.mp ho).1
            rwa [hsl] at this
          rw [hget m hm] at ho
          have e4 := e3 m ts[m] (List.getElem?_eq_getElem (by omega))
          by_cases hd : (m : Int) ∈ ls.drop al
          · rw [if_pos hd] at ho e4
            exact .inl ⟨(Option.some.inj ho).symm, e4⟩
          · rw [if_neg hd] at ho e4
            have hm2 : m < rows.length := by omega
            have er := List.getElem?_eq_getElem hm2
            rw [er] at ho
            refine .inr ⟨ts[m], _, (Option.some.inj ho).symm, e4, ?_⟩
            obtain ⟨ob, f0, f1, f2⟩ := hF m ts[m] rows[m] (List.getElem?_eq_getElem (by omega)) er
            have nt : ts[m] ≠ Z := ne_of f0 hZ (by intro z; cases z)
            refine ⟨ob, kf _ _ (by simp) (kx _ _ (by simpa using nt) (lk_ne ?_ nq6)), f1, f2⟩
            rw [f0]
            have := (I13.good rows[m] (List.getElem_mem hm2)).2
            have ev : rowV ((some rows[m]).getD [] |>.map unV) = rows[m] := by
              unfold rowV
              show ((rows[m]).map unV).map slotV = rows[m]
              rw [List.map_map]
              have : ∀ v ∈ rows[m], (slotV ∘ unV) v = v := by
                intro v hv
                rcases this v hv with rfl | ⟨z, hz, rfl⟩
                · rfl
                · have := hmem z (List.mem_of_mem_take hz)
                  show V.int ((z.toNat : Nat) : Int) = V.int z
                  rw [show ((z.toNat : Nat) : Int) = z by omega]
              rw [List.map_congr_left this, List.map_id']
            rw [ev]
        · intro row hrow
          obtain ⟨m, hm, e⟩ := List.mem_map.mp hrow
          have hm := List.mem_range.mp hm
          by_cases hd : (m : Int) ∈ ls.drop al
          · rw [if_pos hd] at e
            cases e
          · rw [if_neg hd, List.getElem?_eq_getElem (show m < rows.length by omega)] at e
            rw [← Option.some.inj e, List.length_map]
            exact (I13.good _ (List.getElem_mem (show m < rows.length by omega))).1
        · intro row hrow k hk
          obtain ⟨m, hm, e⟩ := List.mem_map.mp hrow
          have hm := List.mem_range.mp hm
          by_cases hd : (m : Int) ∈ ls.drop al
          · rw [if_pos hd] at e
            cases e
          · rw [if_neg hd, List.getElem?_eq_getElem (show m < rows.length by omega)] at e
            rw [← Option.some.inj e] at hk
            obtain ⟨v, hv, ev⟩ := List.mem_map.mp hk
            rcases (I13.good _ (List.getElem_mem (show m < rows.length by omega))).2 v hv with rfl | ⟨z, hz, rfl⟩
            · cases ev
            · have h3 := hmem z (List.mem_of_mem_take hz)
              have ek : z.toNat = k := Option.some.inj ev
              have hk2 : (k : Int) = z := by omega
              have e9 := hget k (by omega)
              rw [if_neg (by rw [hk2]; exact hap z hz)] at e9
              exact ⟨_, e9⟩
end


/-- a heap at D, its rows any tuples -/
structure HeapT (K : PySem.W.Frag) (H : Hp) (D : Addr) (slots : List (Option Rw)) (outs : List Int) : Prop where
  ex : ∃ (S O : Addr) (vs : List V), SqT K H D [.ref S, .ref O] ∧ SqT K H S vs ∧ SqT K H O (outs.map V.int) ∧ vs.length = slots.length ∧
    ∀ (i : Nat) (o : Option Rw), slots[i]? = some o → (o = none ∧ vs[i]? = some V.non) ∨ ∃ r row, o = some row ∧ vs[i]? = some (.ref r) ∧ SqT K H r (rowV row)
theorem HeapAt.toT {K : PySem.W.Frag} {H : Hp} {D : Addr} {slots : List (Option Rw)} {outs : List Int} (h : HeapAt K H D slots outs) : HeapT K H D slots outs := by
  obtain ⟨S, O, vs, h1, h2, h3, h4, h5⟩ := h.ex
  refine ⟨S, O, vs, h1, h2, h3, h4, fun i o ho => ?_⟩
  rcases h5 i o ho with z | ⟨r, row, e1, e2, e3⟩
  · exact .inl z
  · exact .inr ⟨r, row, e1, e2, e3.seq⟩
theorem HeapT.keep {K : PySem.W.Frag} {H H' : Hp} {D : Addr} {slots : List (Option Rw)} {outs : List Int} (h : HeapT K H D slots outs) (k : Kx [] H H') : HeapT K H' D slots outs := by
  obtain ⟨S, O, vs, h1, h2, h3, h4, h5⟩ := h.ex
  refine ⟨S, O, vs, k.sqT (by simp) h1, k.sqT (by simp) h2, k.sqT (by simp) h3, h4, fun i o ho => ?_⟩
  rcases h5 i o ho with z | ⟨r, row, e1, e2, e3⟩
  · exact .inl z
  · exact .inr ⟨r, row, e1, e2, k.sqT (by simp) e3⟩
def slotD : Option Nat → PyData
  | none => .none
  | some k => .int k
def rowD : Option Rw → PyData
  | none => .none
  | some l => .tuple (l.map slotD)
def heapD (slots : List (Option Rw)) (outs : List Int) : PyData := .tuple [.tuple (slots.map rowD), .tuple (outs.map .int)]
theorem dp_slots {K : PySem.W.Frag} {H : Hp} : ∀ l : Rw, DpAll K H (rowV l) (l.map slotD)
  | [] => .nil
  | none :: r => .cons .non (dp_slots r)
  | some k :: r => .cons (.int k) (dp_slots r)
theorem dpAll_at {K : PySem.W.Frag} {H : Hp} : ∀ {vs : List V} {ds : List PyData}, vs.length = ds.length → (∀ (i : Nat) (d : PyData), ds[i]? = some d → ∃ v, vs[i]? = some v ∧ Dp K H v d) → DpAll K H vs ds
  | [], [], _, _ => .nil
  | [], _ :: _, h, _ => by cases h
  | _ :: _, [], h, _ => by cases h
  | v :: vs, d :: ds, h, q => by
    obtain ⟨v', e, hd⟩ := q 0 d rfl
    cases Option.some.inj e
    exact .cons hd (dpAll_at (Nat.succ.inj h) fun i d' hi => q (i + 1) d' hi)
theorem dp_intsT {K : PySem.W.Frag} {H : Hp} : ∀ cs : List Int, DpAll K H (cs.map V.int) (cs.map PyData.int)
  | [] => .nil
  | z :: r => .cons (.int z) (dp_intsT r)
theorem HeapT.dp {K : PySem.W.Frag} {H : Hp} {D : Addr} {slots : List (Option Rw)} {outs : List Int} (h : HeapT K H D slots outs) : Dp K H (.ref D) (heapD slots outs) := by
  obtain ⟨S, O, vs, h1, h2, h3, h4, h5⟩ := h.ex
  refine .tup h1 (.cons (.tup h2 (dpAll_at (by rw [List.length_map]; exact h4) ?_)) (.cons (.tup h3 (dp_intsT outs)) .nil))
  intro i d hd
  rw [List.getElem?_map] at hd
  cases e : slots[i]? with
  | none => rw [e] at hd; cases hd
  | some o =>
    rw [e] at hd
    cases Option.some.inj hd
    rcases h5 i o e with ⟨rfl, z⟩ | ⟨r, row, rfl, z, f⟩
    · exact ⟨_, z, .non⟩
    · exact ⟨_, z, .tup f (dp_slots row)⟩
theorem good_heap {slots : List (Option Rw)} {outs : List Int} (w : Wf slots outs) : Good (heapD slots outs) 3 (2 * (40 * (40 * 32 + 1) + 1)) := by
  have hrow : ∀ row, some row ∈ slots → Good (rowD (some row)) 1 (40 * 32) := by
    intro row hr
    refine Good.tuple (n := 40) ?_ (by rw [List.length_map]; exact w.row row hr)
    intro d hd
    obtain ⟨s, hs, rfl⟩ := List.mem_map.mp hd
    cases s with
    | none => exact Good.none.mono (Nat.le_refl _) (by decide)
    | some k =>
      obtain ⟨r, e⟩ := w.live row hr k hs
      have hk := (List.getElem?_eq_some_iff.mp e).1
      have := w.most
      exact Good.int (by show ((k : Int)).natAbs < _; omega)
  refine Good.tuple (n := 2) (k := 2) (w := 40 * (40 * 32 + 1)) ?_ (by simp)
  intro d hd
  simp only [List.mem_cons, List.not_mem_nil, or_false] at hd
  rcases hd with rfl | rfl
  · refine Good.tuple ?_ (by rw [List.length_map]; exact w.most)
    intro d hd
    obtain ⟨o, ho, rfl⟩ := List.mem_map.mp hd
    cases o with
    | none => exact Good.none.mono (by decide) (by decide)
    | some row => exact hrow row ho
  · refine (Good.tuple (k := 0) (w := 31) (n := 40) ?_ (by rw [List.length_map, w.len]; exact w.most)).mono (by decide) (by decide)
    intro d hd
    obtain ⟨z, hz, rfl⟩ := List.mem_map.mp hd
    have := w.outs z hz
    exact Good.int (by omega)
/-! ### what the program says of a heap -/
def isLive (slots : List (Option Rw)) (m : Nat) : Bool := ((slots[m]?).getD none).isSome
def liveUp (slots : List (Option Rw)) (n : Nat) : List Int := ((List.range n).filter (isLive slots)).map fun (m : Nat) => (m : Int)
theorem liveUp_succ (slots : List (Option Rw)) (n : Nat) : liveUp slots (n + 1) = if isLive slots n then liveUp slots n ++ [(n : Int)] else liveUp slots n := by
  unfold liveUp
  rw [List.range_succ, List.filter_append, List.map_append]
  cases h : isLive slots n
  · simp [List.filter, h]
  · simp [List.filter, h]
theorem liveUp_len (slots : List (Option Rw)) (n : Nat) : (liveUp slots n).length ≤ n := by
  unfold liveUp
  rw [List.length_map]
  exact Nat.le_trans (List.length_filter_le _ _) (by rw [List.length_range]; exact Nat.le_refl _)
def cntO (k : Nat) : Option Rw → Nat
  | none => 0
  | some row => row.count (some k)
/-- how many slots hold k -/
def useC (slots : List (Option Rw)) (k : Nat) : Nat := (slots.map (cntO k)).sum
def useL (slots : List (Option Rw)) : List Int := (List.range slots.length).map fun k => (useC slots k : Int)
def countV (slots : List (Option Rw)) (outs : List Int) (m : Nat) : V := if isLive slots m then .int ((outs[m]?).getD 0 + useC slots m) else .non
def countsV (slots : List (Option Rw)) (outs : List Int) : List V := (List.range slots.length).map (countV slots outs)
section
variable {P : Program} {w : World} {K : PySem.W.Frag} {mg : Str → Option Value} {base : Heap}
def spLive (K : PySem.W.Frag) : Sp := fun vs H Q _ => ∃ (D : Addr) (slots : List (Option Rw)) (outs : List Int), vs = [.ref D] ∧ HeapT K H D slots outs ∧ Wf slots outs ∧
  ∀ p H', H p = none → Kx [] H H' → H' p = some (.lst ((liveUp slots slots.length).map V.int)) → Q (.ref p) H'
end

/-! ### the machine, as a function of plain data -/
def rowOf (slots : List (Option Rw)) (h : Nat) : Rw := ((slots[h]?).getD none).getD []
theorem rowOf_some {slots : List (Option Rw)} {h : Nat} {row : Rw} (e : slots[h]? = some (some row)) : rowOf slots h = row := by simp [rowOf, e]
theorem live_lt {slots : List (Option Rw)} {m : Nat} (h : isLive slots m = true) : ∃ row, slots[m]? = some (some row) ∧ m < slots.length := by
  unfold isLive at h
  cases e : slots[m]? with
  | none => rw [e] at h; cases h
  | some o =>
    cases o with
    | none => rw [e] at h; cases h
    | some row => exact ⟨row, rfl, (List.getElem?_eq_some_iff.mp e).1⟩
/-- a release that waits: holder and slot that held the node, its depth -/
structure Pd where
  holder : Option Nat
  slot : Option Nat
  node : Nat
  depth : Nat
inductive Ev
  | release (holder slot : Option Nat) (node : Nat) (left : Int)
  | destroy (node depth : Nat)
  | shelve (node size : Nat)
  | take (node size : Nat)
def Ev.dead : Ev → Option Nat
  | .destroy n _ => some n
  | _ => none
def Ev.size : Ev → Option Int
  | .shelve _ k => some k
  | _ => none
structure FS where
  pend : List Pd
  shelf : List Nat
  evs : List Ev
def FS.log (s : FS) : List Nat := s.evs.filterMap Ev.dead
section
variable (slots : List (Option Rw)) (outs : List Int)
def cntH (log : List Nat) (m : Nat) : Nat := ((List.range slots.length).map fun h => if h ∈ log then 0 else (rowOf slots h).count (some m)).sum
def pendC (p : List Pd) (m : Nat) : Nat := (p.map (·.node)).count m
def tal (log : List Nat) (pend : List Pd) (m : Nat) : Int := (outs[m]?).getD 0 + cntH slots log m + pendC pend m
def kidsAt (n d : Nat) : Nat → Rw → List Pd
  | _, [] => []
  | j, none :: r => kidsAt n d (j + 1) r
  | j, some m :: r => ⟨some n, some j, m, d⟩ :: kidsAt n d (j + 1) r
def kids (n d : Nat) : List Pd := kidsAt n d 0 (rowOf slots n)
def stepF (lim : Int) (s : FS) : Option FS :=
  match s.pend with
  | p :: rest =>
    if 0 < tal slots outs s.log rest p.node then some ⟨rest, s.shelf, s.evs ++ [.release p.holder p.slot p.node (tal slots outs s.log rest p.node)]⟩
    else if (p.depth : Int) < lim then some ⟨kids slots p.node (p.depth + 1) ++ rest, s.shelf, s.evs ++ [.release p.holder p.slot p.node (tal slots outs s.log rest p.node), .destroy p.node p.depth]⟩
    else some ⟨rest, s.shelf ++ [p.node], s.evs ++ [.release p.holder p.slot p.node (tal slots outs s.log rest p.node), .shelve p.node (s.shelf.length + 1)]⟩
  | [] => match s.shelf.getLast? with
    | none => none
    | some n => some ⟨kids slots n 1, s.shelf.dropLast, s.evs ++ [.take n s.shelf.dropLast.length, .destroy n 0]⟩
def run (lim : Int) : Nat → FS → Option FS
  | 0, s => some s
  | n + 1, s => (run lim n s).bind (stepF slots outs lim)
/-- s' is reached from s -/
def Steps (lim : Int) (s s' : FS) : Prop := ∃ n, run slots outs lim n s = some s'
end
section
variable {slots : List (Option Rw)} {outs : List Int} {lim : Int}
theorem Steps.refl (s : FS) : Steps slots outs lim s s := ⟨0, rfl⟩
theorem Steps.tail {s t u : FS} (h : Steps slots outs lim s t) (e : stepF slots outs lim t = some u) : Steps slots outs lim s u := by
  obtain ⟨n, hn⟩ := h
  exact ⟨n + 1, by show (run slots outs lim n s).bind _ = _; rw [hn]; exact e⟩
theorem run_past {s t : FS} {n : Nat} (h : run slots outs lim n s = some t) (e : stepF slots outs lim t = none) : ∀ k, run slots outs lim (n + 1 + k) s = none
  | 0 => by show (run slots outs lim n s).bind _ = none; rw [h]; exact e
  | k + 1 => by
    show (run slots outs lim (n + 1 + k) s).bind _ = none
    rw [run_past h e k]
    rfl
/-- where it ends is told -/
theorem Steps.det {s t u : FS} (h : Steps slots outs lim s t) (e : stepF slots outs lim t = none) (h' : Steps slots outs lim s u) (e' : stepF slots outs lim u = none) : t = u := by
  obtain ⟨n, hn⟩ := h
  obtain ⟨m, hm⟩ := h'
  rcases Nat.lt_trichotomy n m with l | l | l
  · have := run_past hn e (m - (n + 1))
    rw [show n + 1 + (m - (n + 1)) = m by omega, hm] at this
    cases this
  · subst l
    rw [hn] at hm
    exact Option.some.inj hm
  · have := run_past hm e' (n - (m + 1))
    rw [show m + 1 + (n - (m + 1)) = n by omega, hn] at this
    cases this
theorem Steps.trans {s t u : FS} (h : Steps slots outs lim s t) (h' : Steps slots outs lim t u) : Steps slots outs lim s u := by
  obtain ⟨m, hm⟩ := h'
  induction m generalizing u with
  | zero => cases Option.some.inj (hm : some t = some u); exact h
  | succ m ih =>
    have hm : (run slots outs lim m t).bind (stepF slots outs lim) = some u := hm
    cases e : run slots outs lim m t with
    | none => rw [e] at hm; cases hm
    | some v => rw [e] at hm; exact (ih e).tail hm
theorem kidsAt_count (n d m : Nat) : ∀ (r : Rw) (j : Nat), pendC (kidsAt n d j r) m = r.count (some m)
  | [], _ => rfl
  | none :: r, j => by
    show pendC (kidsAt n d (j + 1) r) m = _
    rw [kidsAt_count n d m r, List.count_cons]
    simp
  | some k :: r, j => by
    have ih := kidsAt_count n d m r (j + 1)
    unfold pendC at ih ⊢
    show ((⟨some n, some j, k, d⟩ :: kidsAt n d (j + 1) r : List Pd).map (·.node)).count m = _
    rw [List.map_cons, List.count_cons, List.count_cons, ih]
    by_cases e : k = m <;> simp [e]
theorem kidsAt_mem {n d : Nat} : ∀ {r : Rw} {j : Nat} {p : Pd}, p ∈ kidsAt n d j r → some p.node ∈ r
  | [], _, _, h => by cases h
  | none :: r, j, p, h => List.mem_cons_of_mem _ (kidsAt_mem (r := r) (j := j + 1) h)
  | some k :: r, j, p, h => by
    rcases List.mem_cons.mp (show p ∈ (⟨some n, some j, k, d⟩ :: kidsAt n d (j + 1) r : List Pd) from h) with e | h
    · rw [e]
      exact List.mem_cons_self
    · exact List.mem_cons_of_mem _ (kidsAt_mem h)
theorem kidsAt_len (n d : Nat) : ∀ (r : Rw) (j : Nat), (kidsAt n d j r).length ≤ r.length
  | [], _ => Nat.le_refl _
  | none :: r, j => Nat.le_succ_of_le (kidsAt_len n d r (j + 1))
  | some k :: r, j => Nat.succ_le_succ (kidsAt_len n d r (j + 1))
theorem pendC_app (a b : List Pd) (m : Nat) : pendC (a ++ b) m = pendC a m + pendC b m := by
  unfold pendC
  rw [List.map_append, List.count_append]
theorem pendC_cons (p : Pd) (b : List Pd) (m : Nat) : pendC (p :: b) m = pendC b m + if p.node = m then 1 else 0 := by
  unfold pendC
  rw [List.map_cons, List.count_cons]
  by_cases e : p.node = m <;> simp [e]
theorem sum_drop1 {f g : Nat → Nat} {n N : Nat} (hn : n < N) (hg : g n = 0) (he : ∀ h, h ≠ n → g h = f h) : ((List.range N).map g).sum + f n = ((List.range N).map f).sum := by
  induction N with
  | zero => omega
  | succ N ih =>
    rw [List.range_succ, List.map_append, List.map_append, List.sum_append, List.sum_append]
    simp only [List.map_cons, List.map_nil, List.sum_cons, List.sum_nil, Nat.add_zero]
    by_cases e : n = N
    · subst e
      have : (List.range n).map g = (List.range n).map f := List.map_congr_left fun h hh => he h (Nat.ne_of_lt (List.mem_range.mp hh))
      rw [this, hg]
      omega
    · have := ih (by omega)
      rw [he N (Ne.symm e)]
      omega
theorem cntH_dead {log : List Nat} {n : Nat} (hn : n < slots.length) (hl : n ∉ log) (m : Nat) : cntH slots (log ++ [n]) m + (rowOf slots n).count (some m) = cntH slots log m := by
  have := sum_drop1 (f := fun h => if h ∈ log then 0 else (rowOf slots h).count (some m)) (g := fun h => if h ∈ log ++ [n] then 0 else (rowOf slots h).count (some m)) hn (by simp) (fun h e => by
    have : (h ∈ log ++ [n]) ↔ h ∈ log := by simp [e]
    simp only [this])
  simp only [if_neg hl] at this
  exact this
theorem tal_pop (log : List Nat) (p : Pd) (rest : List Pd) (m : Nat) : tal slots outs log (p :: rest) m = tal slots outs log rest m + if p.node = m then 1 else 0 := by
  unfold tal
  rw [pendC_cons]
  by_cases e : p.node = m
  · simp only [e, if_true]
    omega
  · simp only [e, if_false]
    omega
theorem tal_dead {log : List Nat} {n : Nat} (hn : n < slots.length) (hl : n ∉ log) (d : Nat) (rest : List Pd) (m : Nat) : tal slots outs (log ++ [n]) (kids slots n d ++ rest) m = tal slots outs log rest m := by
  have h1 := cntH_dead (slots := slots) hn hl m
  have h2 := kidsAt_count n d m (rowOf slots n) 0
  unfold tal
  rw [pendC_app, show pendC (kids slots n d) m = (rowOf slots n).count (some m) from h2]
  omega
theorem tal_nonneg (ho : ∀ z ∈ outs, 0 ≤ z) (log : List Nat) (pend : List Pd) (m : Nat) : (pendC pend m : Int) ≤ tal slots outs log pend m := by
  have : 0 ≤ (outs[m]?).getD 0 := by
    cases e : outs[m]? with
    | none => exact Int.le_refl 0
    | some z => exact ho z (List.mem_of_getElem? e)
  unfold tal
  omega
/-- what holds of every state -/
structure SOk (slots : List (Option Rw)) (outs : List Int) (s : FS) : Prop where
  pl : ∀ p ∈ s.pend, isLive slots p.node = true
  nd : (s.log ++ s.shelf).Nodup
  z : ∀ n ∈ s.log ++ s.shelf, tal slots outs s.log s.pend n = 0
  lv : ∀ n ∈ s.log ++ s.shelf, isLive slots n = true
theorem kids_live (wl : ∀ row, some row ∈ slots → ∀ k, some k ∈ row → ∃ r, slots[k]? = some (some r)) {n d : Nat} (hl : isLive slots n = true) : ∀ p ∈ kids slots n d, isLive slots p.node = true := by
  intro p hp
  obtain ⟨row, e, _⟩ := live_lt hl
  have h := kidsAt_mem hp
  rw [rowOf_some e] at h
  obtain ⟨r, er⟩ := wl row (List.mem_of_getElem? e) _ h
  simp [isLive, er]
theorem SOk.new {s : FS} (o : SOk slots outs s) (ho : ∀ z ∈ outs, 0 ≤ z) {p : Pd} {rest : List Pd} (hp : s.pend = p :: rest) : p.node ∉ s.log ++ s.shelf := by
  intro h
  have h1 := o.z _ h
  have h2 := tal_nonneg (slots := slots) ho s.log s.pend p.node
  rw [hp, pendC_cons] at h2
  rw [hp] at h1
  simp only [if_true] at h2
  omega
theorem nodup_snoc {a b : List Nat} {n : Nat} (h : (a ++ b).Nodup) (hn : n ∉ a ++ b) : ((a ++ [n]) ++ b).Nodup ∧ (a ++ (b ++ [n])).Nodup := by
  have p1 : ((a ++ [n]) ++ b).Perm (n :: (a ++ b)) := by
    rw [List.append_assoc]
    exact List.perm_middle
  have p2 : (a ++ (b ++ [n])).Perm (n :: (a ++ b)) := by
    rw [← List.append_assoc]
    exact List.perm_append_comm
  have h2 : (n :: (a ++ b)).Nodup := List.nodup_cons.mpr ⟨hn, h⟩
  exact ⟨p1.symm.nodup h2, p2.symm.nodup h2⟩
theorem log_app (a b : List Ev) : (⟨[], [], a ++ b⟩ : FS).log = (⟨[], [], a⟩ : FS).log ++ (⟨[], [], b⟩ : FS).log := List.filterMap_append
theorem SOk.step {s s' : FS} (o : SOk slots outs s) (ho : ∀ z ∈ outs, 0 ≤ z) (wl : ∀ row, some row ∈ slots → ∀ k, some k ∈ row → ∃ r, slots[k]? = some (some r)) (e : stepF slots outs lim s = some s') : SOk slots outs s' := by
  cases hp : s.pend with
  | nil =>
    unfold stepF at e
    rw [hp] at e
    simp only at e
    cases hs : s.shelf.getLast? with
    | none => rw [hs] at e; cases e
    | some n =>
      rw [hs] at e
      cases Option.some.inj e
      have hsp : s.shelf = s.shelf.dropLast ++ [n] := by
        obtain ⟨ys, hy⟩ := List.getLast?_eq_some_iff.mp hs
        rw [hy, List.dropLast_concat]
      have hlog : FS.log ⟨kids slots n 1, s.shelf.dropLast, s.evs ++ [.take n s.shelf.dropLast.length, .destroy n 0]⟩ = s.log ++ [n] := by
        unfold FS.log
        rw [List.filterMap_append]
        rfl
      have hmem : n ∈ s.log ++ s.shelf := by rw [hsp]; simp
      have hlv := o.lv n hmem
      obtain ⟨_, _, hlt⟩ := live_lt hlv
      have hnd := o.nd
      rw [hsp] at hnd
      have hnl : n ∉ s.log := fun h => (List.nodup_append.mp hnd).2.2 n h n (by simp) rfl
      have hsub : ∀ m, m ∈ (s.log ++ [n]) ++ s.shelf.dropLast → m ∈ s.log ++ s.shelf := by
        intro m hm
        rw [hsp]
        simp only [List.mem_append, List.mem_singleton] at hm ⊢
        rcases hm with (h | h) | h
        · exact .inl h
        · exact .inr (.inr h)
        · exact .inr (.inl h)
      refine ⟨kids_live wl hlv, ?_, fun m hm => ?_, fun m hm => ?_⟩
      · rw [hlog]
        show ((s.log ++ [n]) ++ s.shelf.dropLast).Nodup
        have hnd2 : (s.log ++ s.shelf.dropLast ++ [n]).Nodup := by rwa [List.append_assoc]
        have hn2 : n ∉ s.log ++ s.shelf.dropLast := fun h => (List.nodup_append.mp hnd2).2.2 n h n (by simp) rfl
        exact (nodup_snoc (List.nodup_append.mp hnd2).1 hn2).1
      · rw [hlog] at hm ⊢
        show tal slots outs (s.log ++ [n]) (kids slots n 1) m = 0
        have := tal_dead (slots := slots) (outs := outs) hlt hnl 1 [] m
        rw [List.append_nil] at this
        rw [this, ← hp]
        exact o.z m (hsub m hm)
      · rw [hlog] at hm
        exact o.lv m (hsub m hm)
  | cons p rest =>
    have hn := o.new ho hp
    have hl := o.pl p (by rw [hp]; exact List.mem_cons_self)
    obtain ⟨_, _, hlt⟩ := live_lt hl
    have hrest : ∀ q ∈ rest, isLive slots q.node = true := fun q hq => o.pl q (by rw [hp]; exact List.mem_cons_of_mem _ hq)
    have hz : ∀ m ∈ s.log ++ s.shelf, tal slots outs s.log rest m = 0 := by
      intro m hm
      have h1 := o.z m hm
      rw [hp, tal_pop, if_neg (fun e => hn (by rw [e]; exact hm))] at h1
      omega
    have hge : 0 ≤ tal slots outs s.log rest p.node := by
      have := tal_nonneg (slots := slots) ho s.log rest p.node
      omega
    unfold stepF at e
    rw [hp] at e
    simp only at e
    by_cases h0 : 0 < tal slots outs s.log rest p.node
    · rw [if_pos h0] at e
      cases Option.some.inj e
      have hlog : FS.log ⟨rest, s.shelf, s.evs ++ [.release p.holder p.slot p.node (tal slots outs s.log rest p.node)]⟩ = s.log := by
        unfold FS.log
        rw [List.filterMap_append]
        exact List.append_nil _
      exact ⟨hrest, by rw [hlog]; exact o.nd, fun m hm => by rw [hlog] at hm ⊢; exact hz m hm, fun m hm => by rw [hlog] at hm; exact o.lv m hm⟩
    · rw [if_neg h0] at e
      have hzero : tal slots outs s.log rest p.node = 0 := by omega
      by_cases hd : (p.depth : Int) < lim
      · rw [if_pos hd] at e
        cases Option.some.inj e
        have hlog : FS.log ⟨kids slots p.node (p.depth + 1) ++ rest, s.shelf, s.evs ++ [.release p.holder p.slot p.node (tal slots outs s.log rest p.node), .destroy p.node p.depth]⟩ = s.log ++ [p.node] := by
          unfold FS.log
          rw [List.filterMap_append]
          rfl
        have hnl : p.node ∉ s.log := fun h => hn (List.mem_append_left _ h)
        have hsplit : ∀ m, m ∈ (s.log ++ [p.node]) ++ s.shelf → m = p.node ∨ m ∈ s.log ++ s.shelf := by
          intro m hm
          simp only [List.mem_append, List.mem_singleton] at hm ⊢
          rcases hm with (h | h) | h
          · exact .inr (.inl h)
          · exact .inl h
          · exact .inr (.inr h)
        refine ⟨fun q hq => ?_, by rw [hlog]; exact (nodup_snoc o.nd hn).1, fun m hm => ?_, fun m hm => ?_⟩
        · rcases List.mem_append.mp hq with hq | hq
          · exact kids_live wl hl q hq
          · exact hrest q hq
        · rw [hlog] at hm ⊢
          show tal slots outs (s.log ++ [p.node]) (kids slots p.node (p.depth + 1) ++ rest) m = 0
          rw [tal_dead hlt hnl]
          rcases hsplit m hm with rfl | h
          · exact hzero
          · exact hz m h
        · rw [hlog] at hm
          rcases hsplit m hm with rfl | h
          · exact hl
          · exact o.lv m h
      · rw [if_neg hd] at e
        cases Option.some.inj e
        have hlog : FS.log ⟨rest, s.shelf ++ [p.node], s.evs ++ [.release p.holder p.slot p.node (tal slots outs s.log rest p.node), .shelve p.node (s.shelf.length + 1)]⟩ = s.log := by
          unfold FS.log
          rw [List.filterMap_append]
          exact List.append_nil _
        have hsplit : ∀ m, m ∈ s.log ++ (s.shelf ++ [p.node]) → m = p.node ∨ m ∈ s.log ++ s.shelf := by
          intro m hm
          simp only [List.mem_append, List.mem_singleton] at hm ⊢
          rcases hm with h | h | h
          · exact .inr (.inl h)
          · exact .inr (.inr h)
          · exact .inl h
        refine ⟨hrest, by rw [hlog]; exact (nodup_snoc o.nd hn).2, fun m hm => ?_, fun m hm => ?_⟩
        · rw [hlog] at hm ⊢
          rcases hsplit m hm with rfl | h
          · exact hzero
          · exact hz m h
        · rw [hlog] at hm
          rcases hsplit m hm with rfl | h
          · exact hl
          · exact o.lv m h
theorem SOk.steps {s s' : FS} (o : SOk slots outs s) (ho : ∀ z ∈ outs, 0 ≤ z) (wl : ∀ row, some row ∈ slots → ∀ k, some k ∈ row → ∃ r, slots[k]? = some (some r)) (h : Steps slots outs lim s s') : SOk slots outs s' := by
  obtain ⟨n, hn⟩ := h
  induction n generalizing s' with
  | zero => cases Option.some.inj (hn : some s = some s'); exact o
  | succ n ih =>
    have hn : (run slots outs lim n s).bind (stepF slots outs lim) = some s' := hn
    cases e : run slots outs lim n s with
    | none => rw [e] at hn; cases hn
    | some v => rw [e] at hn; exact (ih e).step ho wl hn
/-- what is left to do -/
def left (slots : List (Option Rw)) (log : List Nat) : Nat := ((List.range slots.length).map fun h => if h ∈ log then 0 else (rowOf slots h).length + 2).sum
theorem left_dead {log : List Nat} {n : Nat} (hn : n < slots.length) (hl : n ∉ log) : left slots (log ++ [n]) + ((rowOf slots n).length + 2) = left slots log := by
  have := sum_drop1 (f := fun h => if h ∈ log then 0 else (rowOf slots h).length + 2) (g := fun h => if h ∈ log ++ [n] then 0 else (rowOf slots h).length + 2) hn (by simp) (fun h e => by
    have : (h ∈ log ++ [n]) ↔ h ∈ log := by simp [e]
    simp only [this])
  simp only [if_neg hl] at this
  exact this
def FS.mu (slots : List (Option Rw)) (s : FS) : Nat := left slots s.log + s.pend.length
end

theorem step_mu {slots : List (Option Rw)} {outs : List Int} {lim : Int} {s s' : FS} (o : SOk slots outs s) (ho : ∀ z ∈ outs, 0 ≤ z) (e : stepF slots outs lim s = some s') : s'.mu slots < s.mu slots ∧ s'.evs.length ≤ s.evs.length + 2 := by
  cases hp : s.pend with
  | nil =>
    unfold stepF at e
    rw [hp] at e
    simp only at e
    cases hs : s.shelf.getLast? with
    | none => rw [hs] at e; cases e
    | some n =>
      rw [hs] at e
      cases Option.some.inj e
      have hsp : s.shelf = s.shelf.dropLast ++ [n] := by
        obtain ⟨ys, hy⟩ := List.getLast?_eq_some_iff.mp hs
        rw [hy, List.dropLast_concat]
      have hlog : FS.log ⟨kids slots n 1, s.shelf.dropLast, s.evs ++ [.take n s.shelf.dropLast.length, .destroy n 0]⟩ = s.log ++ [n] := by
        unfold FS.log
        rw [List.filterMap_append]
        rfl
      have hmem : n ∈ s.log ++ s.shelf := by rw [hsp]; simp
      obtain ⟨_, _, hlt⟩ := live_lt (o.lv n hmem)
      have hnd := o.nd
      rw [hsp] at hnd
      have hnl : n ∉ s.log := fun h => (List.nodup_append.mp hnd).2.2 n h n (by simp) rfl
      have h1 := left_dead (slots := slots) hlt hnl
      have h2 := kidsAt_len n 1 (rowOf slots n) 0
      unfold FS.mu
      rw [hlog, hp]
      refine ⟨?_, by simp⟩
      show left slots (s.log ++ [n]) + (kids slots n 1).length < left slots s.log + 0
      unfold kids
      omega
  | cons p rest =>
    have hn := o.new ho hp
    have hl := o.pl p (by rw [hp]; exact List.mem_cons_self)
    obtain ⟨_, _, hlt⟩ := live_lt hl
    unfold stepF at e
    rw [hp] at e
    simp only at e
    by_cases h0 : 0 < tal slots outs s.log rest p.node
    · rw [if_pos h0] at e
      cases Option.some.inj e
      have hlog : FS.log ⟨rest, s.shelf, s.evs ++ [.release p.holder p.slot p.node (tal slots outs s.log rest p.node)]⟩ = s.log := by
        unfold FS.log
        rw [List.filterMap_append]
        exact List.append_nil _
      unfold FS.mu
      rw [hlog, hp]
      exact ⟨by show _ + rest.length < _ + (rest.length + 1); omega, by simp⟩
    · rw [if_neg h0] at e
      by_cases hd : (p.depth : Int) < lim
      · rw [if_pos hd] at e
        cases Option.some.inj e
        have hlog : FS.log ⟨kids slots p.node (p.depth + 1) ++ rest, s.shelf, s.evs ++ [.release p.holder p.slot p.node (tal slots outs s.log rest p.node), .destroy p.node p.depth]⟩ = s.log ++ [p.node] := by
          unfold FS.log
          rw [List.filterMap_append]
          rfl
        have hnl : p.node ∉ s.log := fun h => hn (List.mem_append_left _ h)
        have h1 := left_dead (slots := slots) hlt hnl
        have h2 := kidsAt_len p.node (p.depth + 1) (rowOf slots p.node) 0
        unfold FS.mu
        rw [hlog, hp]
        refine ⟨?_, by simp⟩
        show left slots (s.log ++ [p.node]) + (kids slots p.node (p.depth + 1) ++ rest).length < left slots s.log + (rest.length + 1)
        rw [List.length_append]
        unfold kids
        omega
      · rw [if_neg hd] at e
        cases Option.some.inj e
        have hlog : FS.log ⟨rest, s.shelf ++ [p.node], s.evs ++ [.release p.holder p.slot p.node (tal slots outs s.log rest p.node), .shelve p.node (s.shelf.length + 1)]⟩ = s.log := by
          unfold FS.log
          rw [List.filterMap_append]
          exact List.append_nil _
        unfold FS.mu
        rw [hlog, hp]
        exact ⟨by show _ + rest.length < _ + (rest.length + 1); omega, by simp⟩
theorem big_line {n : Nat} (h : n ≤ 1000000) : n < sizeLine := by rw [sizeLine_eq]; omega
/-! ### tuples in a list -/
structure TupsAt (H : Hp) (ts : List Addr) (vss : List (List V)) : Prop where
  len : ts.length = vss.length
  at_ : ∀ (j : Nat) (vs : List V), vss[j]? = some vs → ∃ t, ts[j]? = some t ∧ H t = some (.tup vs)
theorem TupsAt.nil {H : Hp} : TupsAt H [] [] := ⟨rfl, fun j vs h => by simp at h⟩
theorem TupsAt.kx {S : List Addr} {H H' : Hp} {ts : List Addr} {vss : List (List V)} (h : TupsAt H ts vss) (k : Kx S H H') (l : ∀ b ∈ S, ∃ ys : List V, H b = some (.lst ys)) : TupsAt H' ts vss := by
  refine ⟨h.len, fun j vs hj => ?_⟩
  obtain ⟨t, e1, e2⟩ := h.at_ j vs hj
  exact ⟨t, e1, k t _ (fun z => by obtain ⟨ys, e⟩ := l t z; rw [e2] at e; cases e) e2⟩
theorem TupsAt.wr {H : Hp} {a : Addr} {ys : List V} {o : HO} {ts : List Addr} {vss : List (List V)} (h : TupsAt H ts vss) (l : H a = some (.lst ys)) : TupsAt (upd H a o) ts vss := by
  refine ⟨h.len, fun j vs hj => ?_⟩
  obtain ⟨t, e1, e2⟩ := h.at_ j vs hj
  exact ⟨t, e1, lk_ne2 (fun z => by rw [z, l] at e2; cases e2) e2⟩
theorem TupsAt.new {H : Hp} {a : Addr} {o : HO} {ts : List Addr} {vss : List (List V)} (h : TupsAt H ts vss) (n : H a = none) : TupsAt (upd H a o) ts vss := by
  refine ⟨h.len, fun j vs hj => ?_⟩
  obtain ⟨t, e1, e2⟩ := h.at_ j vs hj
  exact ⟨t, e1, lk_ne e2 n⟩
theorem TupsAt.snoc {H : Hp} {ts : List Addr} {vss : List (List V)} (h : TupsAt H ts vss) {t : Addr} {vs : List V} (e : H t = some (.tup vs)) : TupsAt H (ts ++ [t]) (vss ++ [vs]) := by
  refine ⟨by rw [List.length_append, List.length_append, h.len]; rfl, fun j us hj => ?_⟩
  by_cases hl : j < vss.length
  · rw [List.getElem?_append_left hl] at hj
    rw [List.getElem?_append_left (by rw [h.len]; exact hl)]
    exact h.at_ j us hj
  · rw [List.getElem?_append_right (by omega)] at hj
    rw [List.getElem?_append_right (by rw [h.len]; omega), h.len]
    cases e2 : j - vss.length with
    | zero =>
      rw [e2] at hj
      cases Option.some.inj (hj : some vs = some us)
      exact ⟨t, rfl, e⟩
    | succ k => rw [e2] at hj; cases hj
theorem TupsAt.last {H : Hp} {ts : List Addr} {vss : List (List V)} {vs : List V} (h : TupsAt H ts (vss ++ [vs])) : ∃ ts' t, ts = ts' ++ [t] ∧ H t = some (.tup vs) ∧ TupsAt H ts' vss := by
  have hl := h.len
  rw [List.length_append] at hl
  rcases List.eq_nil_or_concat ts with rfl | ⟨ts', t, e⟩
  · exact absurd hl (Nat.ne_of_lt (Nat.succ_pos _))
  · rw [List.concat_eq_append] at e
    subst e
    rw [List.length_append] at hl
    have hl2 : ts'.length = vss.length := by
      have : [t].length = [vs].length := rfl
      omega
    obtain ⟨t2, e1, e2⟩ := h.at_ vss.length vs (by rw [List.getElem?_append_right (Nat.le_refl _), Nat.sub_self]; rfl)
    rw [← hl2, List.getElem?_append_right (Nat.le_refl _), Nat.sub_self] at e1
    cases Option.some.inj (e1 : some t = some t2)
    refine ⟨ts', t, rfl, e2, hl2, fun j us hj => ?_⟩
    have hjl := (List.getElem?_eq_some_iff.mp hj).1
    obtain ⟨t3, f1, f2⟩ := h.at_ j us (by rw [List.getElem?_append_left hjl]; exact hj)
    rw [List.getElem?_append_left (by rw [hl2]; exact hjl)] at f1
    exact ⟨t3, f1, f2⟩
/-! ### the machine in the heap -/
def optV : Option Nat → V
  | none => .non
  | some n => .int n
def pdV (p : Pd) : List V := [optV p.holder, optV p.slot, .int p.node, .int p.depth]
def evV : Ev → List V
  | .release h s n l => [.str "release", optV h, optV s, .int n, .int l]
  | .destroy n d => [.str "destroy", .int n, .int d]
  | .shelve n k => [.str "shelve", .int n, .int k]
  | .take n k => [.str "take", .int n, .int k]
def mf (aS aO aR : Addr) (lim : Int) (aE aH aV : Addr) : List (Str × V) := [("slots", .ref aS), ("outside", .ref aO), ("references", .ref aR), ("limit", .int lim), ("emptied", .ref aE), ("shelf", .ref aH), ("events", .ref aV)]
section
variable (aS aO aR : Addr) (lim : Int) (aE aH aV : Addr)
theorem mf_slots : List.lookup ("slots" : Str) (mf aS aO aR lim aE aH aV) = some (V.ref aS) := by with_unfolding_all rfl
theorem mf_outside : List.lookup ("outside" : Str) (mf aS aO aR lim aE aH aV) = some (V.ref aO) := by with_unfolding_all rfl
theorem mf_references : List.lookup ("references" : Str) (mf aS aO aR lim aE aH aV) = some (V.ref aR) := by with_unfolding_all rfl
theorem mf_limit : List.lookup ("limit" : Str) (mf aS aO aR lim aE aH aV) = some (V.int lim) := by with_unfolding_all rfl
theorem mf_emptied : List.lookup ("emptied" : Str) (mf aS aO aR lim aE aH aV) = some (V.ref aE) := by with_unfolding_all rfl
theorem mf_shelf : List.lookup ("shelf" : Str) (mf aS aO aR lim aE aH aV) = some (V.ref aH) := by with_unfolding_all rfl
theorem mf_events : List.lookup ("events" : Str) (mf aS aO aR lim aE aH aV) = some (V.ref aV) := by with_unfolding_all rfl
theorem mf_release : List.lookup ("_release" : Str) (mf aS aO aR lim aE aH aV) = none := by with_unfolding_all rfl
theorem mf_release_all : List.lookup ("_release_all" : Str) (mf aS aO aR lim aE aH aV) = none := by with_unfolding_all rfl
theorem mf_destroy : List.lookup ("_destroy" : Str) (mf aS aO aR lim aE aH aV) = none := by with_unfolding_all rfl
theorem mf_drop : List.lookup ("drop" : Str) (mf aS aO aR lim aE aH aV) = none := by with_unfolding_all rfl
theorem mf_result : List.lookup ("result" : Str) (mf aS aO aR lim aE aH aV) = none := by with_unfolding_all rfl
end
/-- the class -/
structure ClR (K : PySem.W.Frag) (C : Addr) : Prop where
  cl : Cls K C
  n_slots : NoAttr K C "slots"
  n_outside : NoAttr K C "outside"
  n_references : NoAttr K C "references"
  n_limit : NoAttr K C "limit"
  n_emptied : NoAttr K C "emptied"
  n_shelf : NoAttr K C "shelf"
  n_events : NoAttr K C "events"
/-- its places: what never changes -/
structure MS (slots : List (Option Rw)) (C : Addr) (H1 : Hp) (p dx aS aO aR aE aH aV : Addr) (ra : Nat → Addr) (lim : Int) : Prop where
  ins : H1 p = some (.ins C dx (mf aS aO aR lim aE aH aV))
  rows : ∀ (i : Nat) (row : Rw), slots[i]? = some (some row) → H1 (ra i) = some (.lst (rowV row)) ∧ ra i ∉ [aS, aO, aR, aE, aH, aV]
  dis : [aS, aO, aR, aE, aH, aV].Nodup
  pW : p ∉ [aS, aO, aR, aE, aH, aV]
  inj : ∀ (i j : Nat) (r r' : Rw), slots[i]? = some (some r) → slots[j]? = some (some r') → ra i = ra j → i = j
def slotR (slots : List (Option Rw)) (ra : Nat → Addr) (log : List Nat) (i : Nat) : V := if isLive slots i = true ∧ i ∉ log then .ref (ra i) else .non
def refR (slots : List (Option Rw)) (tf : Nat → Int) (i : Nat) : V := if isLive slots i = true then .int (tf i) else .non
/-- what it holds -/
structure MD (slots : List (Option Rw)) (H1 H : Hp) (aS aO aR aE aH aV : Addr) (ra : Nat → Addr) (outs : List Int) (tf : Nat → Int) (log : List Nat) (pend : List Pd) (shelf : List Nat) (evs : List Ev) : Prop where
  k : Kx [aS, aO, aR, aE, aH, aV] H1 H
  eS : H aS = some (.lst ((List.range slots.length).map (slotR slots ra log)))
  eO : H aO = some (.lst (outs.map V.int))
  eR : H aR = some (.lst ((List.range slots.length).map (refR slots tf)))
  eE : ∃ ts : List Addr, H aE = some (.lst (ts.map V.ref)) ∧ TupsAt H ts (pend.reverse.map pdV)
  eH : H aH = some (.lst (shelf.map fun n : Nat => V.int n))
  eV : ∃ us : List Addr, H aV = some (.lst (us.map V.ref)) ∧ TupsAt H us (evs.map evV)
section
variable {slots : List (Option Rw)} {C : Addr} {H1 H : Hp} {p dx aS aO aR aE aH aV : Addr} {ra : Nat → Addr} {lim : Int} {outs : List Int} {tf : Nat → Int} {log : List Nat} {pend : List Pd} {shelf : List Nat} {evs : List Ev}
/-- the six lists are six -/
structure Six (aS aO aR aE aH aV : Addr) : Prop where
  so : aS ≠ aO
  sr : aS ≠ aR
  se : aS ≠ aE
  sh : aS ≠ aH
  sv : aS ≠ aV
  or_ : aO ≠ aR
  oe : aO ≠ aE
  oh : aO ≠ aH
  ov : aO ≠ aV
  re : aR ≠ aE
  rh : aR ≠ aH
  rv : aR ≠ aV
  eh : aE ≠ aH
  ev : aE ≠ aV
  hv : aH ≠ aV
theorem MS.six (ms : MS slots C H1 p dx aS aO aR aE aH aV ra lim) : Six aS aO aR aE aH aV := by
  have D := ms.dis
  simp only [List.nodup_cons, List.mem_cons, List.not_mem_nil, or_false, not_or, not_false_eq_true, List.nodup_nil, and_true] at D
  obtain ⟨⟨a1, a2, a3, a4, a5⟩, ⟨b1, b2, b3, b4⟩, ⟨c1, c2, c3⟩, ⟨d1, d2⟩, e1⟩ := D
  exact ⟨a1, a2, a3, a4, a5, b1, b2, b3, b4, c1, c2, c3, d1, d2, e1⟩
theorem MD.new (m : MD slots H1 H aS aO aR aE aH aV ra outs tf log pend shelf evs) {q : Addr} {o : HO} (n : H q = none) : MD slots H1 (upd H q o) aS aO aR aE aH aV ra outs tf log pend shelf evs := by
  obtain ⟨ts, h1, h2⟩ := m.eE
  obtain ⟨us, h3, h4⟩ := m.eV
  exact ⟨m.k.new n, lk_ne m.eS n, lk_ne m.eO n, lk_ne m.eR n, ⟨ts, lk_ne h1 n, h2.new n⟩, lk_ne m.eH n, ⟨us, lk_ne h3 n, h4.new n⟩⟩
theorem MD.keep (m : MD slots H1 H aS aO aR aE aH aV ra outs tf log pend shelf evs) {H' : Hp} (k : Kx [] H H') : MD slots H1 H' aS aO aR aE aH aV ra outs tf log pend shelf evs := by
  obtain ⟨ts, h1, h2⟩ := m.eE
  obtain ⟨us, h3, h4⟩ := m.eV
  exact ⟨m.k.trans (k.mono (by simp)), k _ _ (by simp) m.eS, k _ _ (by simp) m.eO, k _ _ (by simp) m.eR, ⟨ts, k _ _ (by simp) h1, h2.kx k (by simp)⟩, k _ _ (by simp) m.eH, ⟨us, k _ _ (by simp) h3, h4.kx k (by simp)⟩⟩
theorem MD.wV (m : MD slots H1 H aS aO aR aE aH aV ra outs tf log pend shelf evs) (x : Six aS aO aR aE aH aV) {us : List Addr} (h : H aV = some (.lst (us.map V.ref))) (tu : TupsAt H us (evs.map evV)) {t : Addr} {e : Ev} (ht : H t = some (.tup (evV e))) :
    MD slots H1 (upd H aV (.lst (us.map V.ref ++ [V.ref t]))) aS aO aR aE aH aV ra outs tf log pend shelf (evs ++ [e]) := by
  obtain ⟨ts, h1, h2⟩ := m.eE
  exact ⟨m.k.wr (.inr (by simp)), lk_ne2 x.sv m.eS, lk_ne2 x.ov m.eO, lk_ne2 x.rv m.eR, ⟨ts, lk_ne2 x.ev h1, h2.wr h⟩, lk_ne2 x.hv m.eH,
    ⟨us ++ [t], by rw [upd_same, List.map_append]; rfl, by rw [List.map_append]; exact (tu.wr h).snoc (lk_ne2 (fun z => by rw [z, h] at ht; cases ht) ht)⟩⟩
theorem MD.wE (m : MD slots H1 H aS aO aR aE aH aV ra outs tf log pend shelf evs) (x : Six aS aO aR aE aH aV) {ts : List Addr} (h : H aE = some (.lst (ts.map V.ref))) (tu : TupsAt H ts (pend.reverse.map pdV)) {t : Addr} {q : Pd} (ht : H t = some (.tup (pdV q))) :
    MD slots H1 (upd H aE (.lst (ts.map V.ref ++ [V.ref t]))) aS aO aR aE aH aV ra outs tf log (q :: pend) shelf evs := by
  obtain ⟨us, h1, h2⟩ := m.eV
  exact ⟨m.k.wr (.inr (by simp)), lk_ne2 x.se m.eS, lk_ne2 x.oe m.eO, lk_ne2 x.re m.eR, ⟨ts ++ [t], by rw [upd_same, List.map_append]; rfl, by rw [List.reverse_cons, List.map_append]; exact (tu.wr h).snoc (lk_ne2 (fun z => by rw [z, h] at ht; cases ht) ht)⟩, lk_ne2 x.eh.symm m.eH,
    ⟨us, lk_ne2 x.ev.symm h1, h2.wr h⟩⟩
/-- what the popping of emptied leaves -/
theorem MD.pE {q : Pd} (m : MD slots H1 H aS aO aR aE aH aV ra outs tf log (q :: pend) shelf evs) (x : Six aS aO aR aE aH aV) : ∃ (ts : List Addr) (t : Addr), H aE = some (.lst (ts.map V.ref ++ [V.ref t])) ∧ H t = some (.tup (pdV q)) ∧
    MD slots H1 (upd H aE (.lst (ts.map V.ref))) aS aO aR aE aH aV ra outs tf log pend shelf evs := by
  obtain ⟨us, h1, h2⟩ := m.eV
  obtain ⟨ts, h3, h4⟩ := m.eE
  rw [List.reverse_cons, List.map_append] at h4
  obtain ⟨ts', t, rfl, ht, h5⟩ := h4.last
  rw [List.map_append] at h3
  exact ⟨ts', t, h3, ht, m.k.wr (.inr (by simp)), lk_ne2 x.se m.eS, lk_ne2 x.oe m.eO, lk_ne2 x.re m.eR, ⟨ts', upd_same, h5.wr h3⟩, lk_ne2 x.eh.symm m.eH, ⟨us, lk_ne2 x.ev.symm h1, h2.wr h3⟩⟩
theorem MD.wH (m : MD slots H1 H aS aO aR aE aH aV ra outs tf log pend shelf evs) (x : Six aS aO aR aE aH aV) (shelf' : List Nat) : MD slots H1 (upd H aH (.lst (shelf'.map fun n : Nat => V.int n))) aS aO aR aE aH aV ra outs tf log pend shelf' evs := by
  obtain ⟨us, h1, h2⟩ := m.eV
  obtain ⟨ts, h3, h4⟩ := m.eE
  exact ⟨m.k.wr (.inr (by simp)), lk_ne2 x.sh m.eS, lk_ne2 x.oh m.eO, lk_ne2 x.rh m.eR, ⟨ts, lk_ne2 x.eh h3, h4.wr m.eH⟩, upd_same, ⟨us, lk_ne2 x.hv.symm h1, h2.wr m.eH⟩⟩
theorem MD.wO (m : MD slots H1 H aS aO aR aE aH aV ra outs tf log pend shelf evs) (x : Six aS aO aR aE aH aV) (outs' : List Int) : MD slots H1 (upd H aO (.lst (outs'.map V.int))) aS aO aR aE aH aV ra outs' tf log pend shelf evs := by
  obtain ⟨us, h1, h2⟩ := m.eV
  obtain ⟨ts, h3, h4⟩ := m.eE
  exact ⟨m.k.wr (.inr (by simp)), lk_ne2 x.so m.eS, upd_same, lk_ne2 x.or_.symm m.eR, ⟨ts, lk_ne2 x.oe.symm h3, h4.wr m.eO⟩, lk_ne2 x.oh.symm m.eH, ⟨us, lk_ne2 x.ov.symm h1, h2.wr m.eO⟩⟩
theorem MD.wR (m : MD slots H1 H aS aO aR aE aH aV ra outs tf log pend shelf evs) (x : Six aS aO aR aE aH aV) (tf' : Nat → Int) : MD slots H1 (upd H aR (.lst ((List.range slots.length).map (refR slots tf')))) aS aO aR aE aH aV ra outs tf' log pend shelf evs := by
  obtain ⟨us, h1, h2⟩ := m.eV
  obtain ⟨ts, h3, h4⟩ := m.eE
  exact ⟨m.k.wr (.inr (by simp)), lk_ne2 x.sr m.eS, lk_ne2 x.or_ m.eO, upd_same, ⟨ts, lk_ne2 x.re.symm h3, h4.wr m.eR⟩, lk_ne2 x.rh.symm m.eH, ⟨us, lk_ne2 x.rv.symm h1, h2.wr m.eR⟩⟩
theorem MD.wS (m : MD slots H1 H aS aO aR aE aH aV ra outs tf log pend shelf evs) (x : Six aS aO aR aE aH aV) (log' : List Nat) : MD slots H1 (upd H aS (.lst ((List.range slots.length).map (slotR slots ra log')))) aS aO aR aE aH aV ra outs tf log' pend shelf evs := by
  obtain ⟨us, h1, h2⟩ := m.eV
  obtain ⟨ts, h3, h4⟩ := m.eE
  exact ⟨m.k.wr (.inr (by simp)), upd_same, lk_ne2 x.so.symm m.eO, lk_ne2 x.sr.symm m.eR, ⟨ts, lk_ne2 x.se.symm h3, h4.wr m.eS⟩, lk_ne2 x.sh.symm m.eH, ⟨us, lk_ne2 x.sv.symm h1, h2.wr m.eS⟩⟩
end
/-- one place of a list of values by number -/
theorem range_set {N n : Nat} {f : Nat → V} {v : V} (hn : n < N) {g : Nat → V} (hg : g n = v) (he : ∀ i, i ≠ n → g i = f i) : ((List.range N).map f).set n v = (List.range N).map g := by
  refine List.ext_getElem? fun i => ?_
  by_cases e : n = i
  · subst e
    rw [List.getElem?_set_self (by rw [List.length_map, List.length_range]; exact hn), List.getElem?_map, List.getElem?_range hn]
    exact congrArg some hg.symm
  · rw [List.getElem?_set_ne e, List.getElem?_map, List.getElem?_map]
    by_cases hi : i < N
    · rw [List.getElem?_range hi]
      exact congrArg some (he i (Ne.symm e)).symm
    · rw [List.getElem?_eq_none (by rw [List.length_range]; omega)]
      rfl
theorem range_at {N n : Nat} {f : Nat → V} (hn : n < N) : atI ((List.range N).map f) (n : Int) = some (f n) := atI_nat (by rw [List.getElem?_map, List.getElem?_range hn]; rfl)
theorem range_ix {N n : Nat} {f : Nat → V} (hn : n < N) : ixN ((List.range N).map f).length (n : Int) = some n := ix_nat (by rw [List.length_map, List.length_range]; exact hn)

local macro_rules | `(tactic| walk_at "na") => `(tactic| first | exact ClR.n_slots (by assumption) | exact ClR.n_outside (by assumption) | exact ClR.n_references (by assumption) | exact ClR.n_limit (by assumption) | exact ClR.n_emptied (by assumption) | exact ClR.n_shelf (by assumption) | exact ClR.n_events (by assumption))
local macro_rules | `(tactic| walk_at "fl") => `(tactic| first | exact mf_slots .. | exact mf_outside .. | exact mf_references .. | exact mf_limit .. | exact mf_emptied .. | exact mf_shelf .. | exact mf_events ..)
local macro_rules | `(tactic| walk_at "ml") => `(tactic| first | exact mf_release .. | exact mf_release_all .. | exact mf_destroy .. | exact mf_drop .. | exact mf_result ..)
local macro_rules | `(tactic| walk_at "rd") => `(tactic| ((with_reducible refine' x_fld  ?_)))
local macro_rules | `(tactic| walk_at "rd") => `(tactic| ((with_reducible refine' x_meth  ?_)))
local macro_rules | `(tactic| walk_at "rd") => `(tactic| ((with_reducible refine' x_ckw  ?_)))
local macro_rules | `(tactic| walk_at "rd") => `(tactic| ((with_reducible refine' x_iR3  ?_)))
local macro_rules | `(tactic| walk_at "rd") => `(tactic| ((with_reducible refine' x_make  ?_)))
local macro_rules | `(tactic| walk_at "rd") => `(tactic| ((with_reducible refine' x_par3  ?_); try simp only [List.set_cons_zero, List.set_cons_succ]))
local macro_rules | `(tactic| walk_at "rd") => `(tactic| ((with_reducible refine' x_three  ?_); try simp only [List.set_cons_zero, List.set_cons_succ]))
local macro_rules | `(tactic| walk_at "rd") => `(tactic| ((with_reducible refine' x_orT  ?_)))
local macro_rules | `(tactic| walk_at "rd") => `(tactic| ((with_reducible refine' x_truN  ?_)))
local macro_rules | `(tactic| walk_at "rd") => `(tactic| ((with_reducible refine' x_truT ?s0 ?_); (case s0 => walk_at "lkT")))
local macro_rules | `(tactic| walk_at "rd") => `(tactic| ((with_reducible refine' x_glst ?s0 ?s1 ?_); (case s0 => walk_at "lkL"); (case s1 => exact rfl)))
local macro_rules | `(tactic| walk_at "rd") => `(tactic| ((with_reducible refine' x_chain  ?_)))
local macro_rules | `(tactic| walk_at "rd") => `(tactic| ((with_reducible refine' x_isiII  ?_)))
local macro_rules | `(tactic| walk_at "rd") => `(tactic| ((with_reducible refine' x_isiIB  ?_)))
local macro_rules | `(tactic| walk_at "rd") => `(tactic| ((with_reducible refine' x_insF ?s0 ?s1 ?s2 ?s3 ?_); (case s0 => walk_at "lk"); (case s1 => exact ClR.cl (by assumption)); (case s2 => walk_at "na"); (case s3 => walk_at "fl")))
local macro_rules | `(tactic| walk_at "rd") => `(tactic| ((with_reducible refine' x_insM ?s0 ?s1 ?_); (case s0 => walk_at "lk"); (case s1 => walk_at "ml")))

section
variable {P : Program} {w : World} {K : PySem.W.Frag} {mg : Str → Option Value} {base : Heap}

/-- _destroy -/
def spDestroy (K : PySem.W.Frag) (C : Addr) : Sp := fun vs H Q _ => ∃ (slots : List (Option Rw)) (H1 : Hp) (p dx aS aO aR aE aH aV : Addr) (ra : Nat → Addr) (lim : Int) (outs : List Int) (tf : Nat → Int) (log : List Nat) (pend : List Pd) (shelf : List Nat) (evs : List Ev) (n d : Nat),
  vs = [.ref p, .int n, .int d] ∧ MS slots C H1 p dx aS aO aR aE aH aV ra lim ∧ MD slots H1 H aS aO aR aE aH aV ra outs tf log pend shelf evs ∧ ClR K C ∧ isLive slots n = true ∧ n ∉ log ∧ pend.length ≤ 100000 ∧ evs.length ≤ 100000 ∧ (rowOf slots n).length ≤ 100000 ∧
  ∀ H', MD slots H1 H' aS aO aR aE aH aV ra outs tf (log ++ [n]) (kids slots n (d + 1) ++ pend) shelf (evs ++ [.destroy n d]) → Q .non H'
theorem ok_destroy {C : Addr} {f : Addr} {fd : FuncData} (F : Fun K "_destroy" "Releasing._destroy" sReleasingDestroy f fd) (T : Txt mg) : FnOk P w K mg base CX0 1 f fd ["self", "node", "depth"] (spDestroy K C) := by
  refine F.ok scReleasingDestroy (fun vs H Q E h => ?_) (fun cdv A outer s H vs Q E hr h => ?_)
  · obtain ⟨slots, H1, p, dx, aS, aO, aR, aE, aH, aV, ra, lim, outs, tf, log, pend, shelf, evs, n, d, rfl, _⟩ := h
    rfl
  · obtain ⟨slots, H1, p, dx, aS, aO, aR, aE, aH, aV, ra, lim, outs, tf, log, pend, shelf, evs, n, d, rfl, ms, md, hC, hl, hn, hp1, hp2, hp3, k⟩ := h
    refine ⟨_, (pss_cons (ps_expr (pe_bm PySem.F.plainAttrs_list PySem.F.slot_list_append PySem.F.type_list_append mt_append (pe_fld (pv 0) rfl) (pa_cons (pe_tup (pa_cons pe_str (pa_cons (pv 1) (pa_cons (pv 2) pa_nil)))) pa_nil)))
      (pss_cons (ps_set (i := 3) scReleasingDestroy.nd rfl (Or.inl rfl) (pe_ix ix_list (pe_fld (pv 0) rfl) (pv 1) (fun _ _ => rfl)))
      (pss_cons (ps_asg pe_non (pg_sub (pe_fld (pv 0) rfl) (pv 1) set_list))
      (pss_one (ps_for PassesOwn.never rfl (pi_range3 (by rfl) T.b_range (pa_cons (pe_op op_sub (pe_callB call_len_seq (by rfl) T.b_len boot'_len (pa_cons (pv 3) pa_nil)) pe_int) (pa_cons (pe_un un_neg pe_int) (pa_cons (pe_un un_neg pe_int) pa_nil)))) (pg_name (i := 4) scReleasingDestroy.nd rfl (Or.inl rfl))
      (pss_one (ps_if (pt_cmpR op_notN1 (pe_ix ix_list (pv 3) (pv 4) (fun _ _ => rfl)) pe_non (nomark _)) (pss_one (ps_expr (pe_bm PySem.F.plainAttrs_list PySem.F.slot_list_append PySem.F.type_list_append mt_append (pe_fld (pv 0) rfl) (pa_cons (pe_tup (pa_cons (pv 1) (pa_cons (pv 4) (pa_cons (pe_ix ix_list (pv 3) (pv 4) (fun _ _ => rfl)) (pa_cons (pe_op op_add (pv 2) pe_int) pa_nil))))) pa_nil)))) pss_nil))))))), ?_⟩
    refine x_start (σ' := [some (.ref p), some (.int n), some (.int d), none, none]) rfl ?_
    dsimp only [cxOf]
    have hins := md.k _ _ ms.pW ms.ins
    obtain ⟨us, eV, tV⟩ := md.eV
    repeat walk_at "rd"
    refine ⟨ty_list (SqL.of eV), ?_⟩
    have six := ms.six
    have hz0 : (us.map V.ref).length < sizeLine := big_line (by rw [List.length_map, tV.len, List.length_map]; omega)
    repeat walk_at "rd"
    rename_i t nt
    have md1 := (md.new (o := .tup (evV (.destroy n d))) nt).wV six (lk_ne eV nt) (tV.new nt) (t := t) (e := .destroy n d) upd_same
    replace md1 : MD slots H1 (upd (upd H t (.tup [.str "destroy", .int n, .int d])) aV (.lst (us.map V.ref ++ [V.ref t]))) aS aO aR aE aH aV ra outs tf log pend shelf (evs ++ [.destroy n d]) := md1
    generalize (upd (upd H t (.tup [.str "destroy", .int n, .int d])) aV (.lst (us.map V.ref ++ [V.ref t]))) = H2 at *
    have hins2 := md1.k _ _ ms.pW ms.ins
    have eS2 := md1.eS
    obtain ⟨row, er, hlt⟩ := live_lt hl
    obtain ⟨hr1, hrW⟩ := ms.rows n row er
    have hrow2 : H2 (ra n) = some (.lst (rowV row)) := md1.k _ _ hrW hr1
    have at1 : atI ((List.range slots.length).map (slotR slots ra log)) (n : Int) = some (.ref (ra n)) := by
      rw [range_at hlt]
      unfold slotR
      rw [if_pos ⟨hl, hn⟩]
    have ix1 := range_ix (f := slotR slots ra log) hlt
    repeat walk_at "rd"
    have md2 := md1.wS six (log ++ [n])
    rw [← range_set (v := V.non) hlt (f := slotR slots ra log) (by unfold slotR; rw [if_neg (by simp)]) (fun i hi => by unfold slotR; simp [hi])] at md2
    generalize upd H2 aS (.lst (((List.range slots.length).map (slotR slots ra log)).set n V.non)) = H3 at *
    have hrow3 : H3 (ra n) = some (.lst (rowV row)) := md2.k _ _ hrW hr1
    have hlen : (rowV row).length = row.length := by unfold rowV; exact List.length_map _
    rw [rowOf_some er] at hp3
    repeat walk_at "rd"
    rw [hlen]
    refine y_forDown (by omega) (by omega) ⟨fun i σ H4 => ∃ (y4 : Option V), σ = [some (.ref p), some (.int n), some (.int d), some (.ref (ra n)), y4] ∧
      MD slots H1 H4 aS aO aR aE aH aV ra outs tf (log ++ [n]) (kidsAt n (d + 1) (row.length - i) (row.drop (row.length - i)) ++ pend) shelf (evs ++ [.destroy n d]),
      ⟨none, rfl, by rw [Nat.sub_zero, List.drop_length]; exact md2⟩, fun _ _ _ _ _ => trivial, ?_, ?_⟩
    · rintro i x σ H4 H4' hi ⟨y4, rfl, md4⟩ ⟨rfl, hx⟩
      have hi2 : i < row.length := by omega
      obtain ⟨j, hj⟩ : ∃ j : Nat, j = row.length - (i + 1) := ⟨_, rfl⟩
      have hjl : j < row.length := by omega
      replace hx : x = V.int ((row.length : Int) - 1 + (i : Int) * (-1)) := hx
      obtain rfl : x = V.int (j : Int) := by rw [hx]; congr 1; omega
      have hdrop : row.drop j = row[j] :: row.drop (j + 1) := List.drop_eq_getElem_cons hjl
      rw [show row.length - i = j + 1 by omega] at md4
      have hrow4 : H4' (ra n) = some (.lst (rowV row)) := md4.k _ _ hrW hr1
      have hins4 := md4.k _ _ ms.pW ms.ins
      obtain ⟨ts, eE, tE⟩ := md4.eE
      have hatj : atI (rowV row) (j : Int) = some (slotV row[j]) := atI_nat (by unfold rowV; rw [List.getElem?_map, List.getElem?_eq_getElem hjl]; rfl)
      have hz1 : (ts.map V.ref).length < sizeLine := big_line (by
        have := kidsAt_len n (d + 1) (row.drop (j + 1)) (j + 1)
        rw [List.length_drop] at this
        rw [List.length_map, tE.len, List.length_map, List.length_reverse, List.length_append]
        omega)
      cases hc : row[j] with
      | none =>
        rw [hc] at hatj hdrop
        replace hatj : atI (rowV row) (j : Int) = some V.non := hatj
        repeat walk_at "rd"
        refine iteF ?_
        repeat walk_at "rd"
        exact ⟨_, rfl, by rw [← hj, hdrop]; exact md4⟩
      | some m =>
        rw [hc] at hatj hdrop
        replace hatj : atI (rowV row) (j : Int) = some (V.int (m : Int)) := hatj
        repeat walk_at "rd"
        refine iteT ?_
        repeat walk_at "rd"
        refine ⟨ty_list (SqL.of eE), ?_⟩
        repeat walk_at "rd"
        rename_i t2 nt2
        refine ⟨_, rfl, ?_⟩
        rw [← hj, hdrop]
        exact (md4.new (o := .tup (pdV ⟨some n, some j, m, d + 1⟩)) nt2).wE six (lk_ne eE nt2) (tE.new nt2) (t := t2) (q := ⟨some n, some j, m, d + 1⟩) upd_same
    · rintro σ H4 ⟨y4, rfl, md4⟩
      rw [show row.length - ((row.length : Int) - 1 + 1).toNat = 0 by omega, List.drop_zero] at md4
      refine k H4 ?_
      unfold kids
      rw [rowOf_some er]
      exact md4
end


section
variable {P : Program} {w : World} {K : PySem.W.Frag} {mg : Str → Option Value} {base : Heap}

theorem tal_pop_self (slots : List (Option Rw)) (outs : List Int) (log : List Nat) (q : Pd) (rest : List Pd) : tal slots outs log (q :: rest) q.node - 1 = tal slots outs log rest q.node := by
  rw [tal_pop, if_pos rfl]
  omega
theorem tal_pop_other (slots : List (Option Rw)) (outs : List Int) (log : List Nat) (q : Pd) (rest : List Pd) {m : Nat} (h : m ≠ q.node) : tal slots outs log rest m = tal slots outs log (q :: rest) m := by
  rw [tal_pop, if_neg (Ne.symm h)]
  omega
/-- the facts that a walk of the machine takes along -/
structure Wk (slots : List (Option Rw)) (outs : List Int) (s : FS) : Prop where
  ok : SOk slots outs s
  ho : ∀ z ∈ outs, 0 ≤ z
  wl : ∀ row, some row ∈ slots → ∀ k, some k ∈ row → ∃ r, slots[k]? = some (some r)
  rl : ∀ row, some row ∈ slots → row.length ≤ 40
  most : slots.length ≤ 40
  sz : s.evs.length + 2 * s.mu slots ≤ 90000
theorem Wk.step {slots : List (Option Rw)} {outs : List Int} {lim : Int} {s s' : FS} (k : Wk slots outs s) (e : stepF slots outs lim s = some s') : Wk slots outs s' := by
  have h := step_mu k.ok k.ho e
  have := k.sz
  exact ⟨k.ok.step k.ho k.wl e, k.ho, k.wl, k.rl, k.most, by omega⟩
theorem Wk.shelf {slots : List (Option Rw)} {outs : List Int} {s : FS} (k : Wk slots outs s) : s.shelf.length ≤ slots.length := by
  have hn := (List.nodup_append.mp k.ok.nd).2.1
  have := hn.length_le_of_subset (l₂ := List.range slots.length) fun n hn => List.mem_range.mpr (live_lt (k.ok.lv n (List.mem_append_right _ hn))).choose_spec.2
  rwa [List.length_range] at this
theorem Wk.row {slots : List (Option Rw)} {outs : List Int} {s : FS} (k : Wk slots outs s) (n : Nat) : (rowOf slots n).length ≤ 40 := by
  unfold rowOf
  cases e : slots[n]? with
  | none => simp
  | some o =>
    cases o with
    | none => simp
    | some row => exact k.rl row (List.mem_of_getElem? e)
def spRelease (K : PySem.W.Frag) (C : Addr) : Sp := fun vs H Q _ => ∃ (slots : List (Option Rw)) (H1 : Hp) (p dx aS aO aR aE aH aV : Addr) (ra : Nat → Addr) (lim : Int) (outs : List Int) (s : FS) (q : Pd) (rest : List Pd),
  vs = [.ref p, optV q.holder, optV q.slot, .int q.node, .int q.depth] ∧ MS slots C H1 p dx aS aO aR aE aH aV ra lim ∧ s.pend = q :: rest ∧ MD slots H1 H aS aO aR aE aH aV ra outs (tal slots outs s.log s.pend) s.log rest s.shelf s.evs ∧ ClR K C ∧ Wk slots outs s ∧
  ∀ s' H', stepF slots outs lim s = some s' → MD slots H1 H' aS aO aR aE aH aV ra outs (tal slots outs s'.log s'.pend) s'.log s'.pend s'.shelf s'.evs → Q .non H'
theorem ok_release {C : Addr} {f : Addr} {fd : FuncData} (F : Fun K "_release" "Releasing._release" sReleasingRelease f fd) (T : Txt mg) (m_destroy : Lm P w K mg base C "_destroy" 1 ["self", "node", "depth"] (spDestroy K C)) (cR : Cls K C) :
    FnOk P w K mg base CX0 2 f fd ["self", "holder", "slot", "node", "depth"] (spRelease K C) := by
  refine F.ok scReleasingRelease (fun vs H Q E h => ?_) (fun cdv A outer s H vs Q E hr h => ?_)
  · obtain ⟨slots, H1, p, dx, aS, aO, aR, aE, aH, aV, ra, lim, outs, s, q, rest, rfl, _⟩ := h
    rfl
  · obtain ⟨slots, H1, p, dx, aS, aO, aR, aE, aH, aV, ra, lim, outs, st, q, rest, rfl, ms, hp, md, hC, wk, k⟩ := h
    refine ⟨_, (pss_cons (ps_augS (pe_fld (pv 0) rfl) (pv 3) get_list pe_int ip_sub set_list)
      (pss_cons (ps_set (i := 5) scReleasingRelease.nd rfl (Or.inl rfl) (pe_ix ix_list (pe_fld (pv 0) rfl) (pv 3) (fun _ _ => rfl)))
      (pss_cons (ps_expr (pe_bm PySem.F.plainAttrs_list PySem.F.slot_list_append PySem.F.type_list_append mt_append (pe_fld (pv 0) rfl) (pa_cons (pe_tup (pa_cons pe_str (pa_cons (pv 1) (pa_cons (pv 2) (pa_cons (pv 3) (pa_cons (pv 5) pa_nil)))))) pa_nil)))
      (pss_cons (ps_if (pt_cmpR op_gt (pv 5) pe_int (nomark _)) (pss_one ps_retN) pss_nil)
      (pss_one (ps_if (pt_cmpR op_lt (pv 4) (pe_fld (pv 0) rfl) (nomark _)) (pss_one (ps_expr (pe_lm m_destroy cR (hr.mono (by decide)) (pv 0) (pa_cons (pv 3) (pa_cons (pv 4) pa_nil))))) (pss_cons (ps_expr (pe_bm PySem.F.plainAttrs_list PySem.F.slot_list_append PySem.F.type_list_append mt_append (pe_fld (pv 0) rfl) (pa_cons (pv 3) pa_nil)))
      (pss_one (ps_expr (pe_bm PySem.F.plainAttrs_list PySem.F.slot_list_append PySem.F.type_list_append mt_append (pe_fld (pv 0) rfl) (pa_cons (pe_tup (pa_cons pe_str (pa_cons (pv 3) (pa_cons (pe_callB call_len_seq (by rfl) T.b_len boot'_len (pa_cons (pe_fld (pv 0) rfl) pa_nil)) pa_nil)))) pa_nil))))))))))), ?_⟩
    refine x_start (σ' := [some (.ref p), some (optV q.holder), some (optV q.slot), some (.int q.node), some (.int q.depth), none]) rfl ?_
    dsimp only [cxOf]
    have six := ms.six
    have hl := wk.ok.pl q (by rw [hp]; exact List.mem_cons_self)
    have hnew := wk.ok.new wk.ho hp
    obtain ⟨row, er, hlt⟩ := live_lt hl
    have hins := md.k _ _ ms.pW ms.ins
    have eR := md.eR
    have at1 : atI ((List.range slots.length).map (refR slots (tal slots outs st.log st.pend))) (q.node : Int) = some (.int (tal slots outs st.log st.pend q.node)) := by
      rw [range_at hlt]
      unfold refR
      rw [if_pos hl]
    have ix1 := range_ix (f := refR slots (tal slots outs st.log st.pend)) hlt
    have hset : ((List.range slots.length).map (refR slots (tal slots outs st.log st.pend))).set q.node (V.int (tal slots outs st.log st.pend q.node - 1)) = (List.range slots.length).map (refR slots (tal slots outs st.log rest)) :=
      range_set hlt (by unfold refR; rw [if_pos hl, hp, tal_pop_self]) (fun i hi => by unfold refR; rw [hp, tal_pop_other _ _ _ _ _ hi])
    repeat walk_at "rd"
    rw [hset]
    have md1 := md.wR six (tal slots outs st.log rest)
    have eR2 := md1.eR
    generalize upd H aR (.lst ((List.range slots.length).map (refR slots (tal slots outs st.log rest)))) = H2 at *
    have hins2 := md1.k _ _ ms.pW ms.ins
    have at2 : atI ((List.range slots.length).map (refR slots (tal slots outs st.log rest))) (q.node : Int) = some (.int (tal slots outs st.log rest q.node)) := by
      rw [range_at hlt]
      unfold refR
      rw [if_pos hl]
    obtain ⟨us, eV, tV⟩ := md1.eV
    have hsz := wk.sz
    have hz1 : (us.map V.ref).length < sizeLine := big_line (by rw [List.length_map, tV.len, List.length_map]; omega)
    repeat walk_at "rd"
    refine ⟨ty_list (SqL.of eV), ?_⟩
    repeat walk_at "rd"
    rename_i t nt
    have md2 := (md1.new (o := .tup (evV (.release q.holder q.slot q.node (tal slots outs st.log rest q.node)))) nt).wV six (lk_ne eV nt) (tV.new nt) (t := t) (e := .release q.holder q.slot q.node (tal slots outs st.log rest q.node)) upd_same
    replace md2 : MD slots H1 (upd (upd H2 t (.tup [.str "release", optV q.holder, optV q.slot, .int q.node, .int (tal slots outs st.log rest q.node)])) aV (.lst (us.map V.ref ++ [V.ref t]))) aS aO aR aE aH aV ra outs (tal slots outs st.log rest) st.log rest st.shelf (st.evs ++ [.release q.holder q.slot q.node (tal slots outs st.log rest q.node)]) := md2
    generalize (upd (upd H2 t (.tup [.str "release", optV q.holder, optV q.slot, .int q.node, .int (tal slots outs st.log rest q.node)])) aV (.lst (us.map V.ref ++ [V.ref t]))) = H3 at *
    by_cases h0 : 0 < tal slots outs st.log rest q.node
    · have hstep : stepF slots outs lim st = some ⟨rest, st.shelf, st.evs ++ [.release q.holder q.slot q.node (tal slots outs st.log rest q.node)]⟩ := by
        unfold stepF
        rw [hp]
        simp only
        rw [if_pos h0]
      have hlog : FS.log ⟨rest, st.shelf, st.evs ++ [.release q.holder q.slot q.node (tal slots outs st.log rest q.node)]⟩ = st.log := by
        unfold FS.log
        rw [List.filterMap_append]
        exact List.append_nil _
      refine iteP (decide_eq_true h0) ?_
      repeat walk_at "rd"
      refine k _ H3 hstep ?_
      rw [hlog]
      exact md2
    · refine iteN (decide_eq_false h0) ?_
      have hins3 := md2.k _ _ ms.pW ms.ins
      repeat walk_at "rd"
      by_cases hd : (q.depth : Int) < lim
      · have hstep : stepF slots outs lim st = some ⟨kids slots q.node (q.depth + 1) ++ rest, st.shelf, st.evs ++ [.release q.holder q.slot q.node (tal slots outs st.log rest q.node), .destroy q.node q.depth]⟩ := by
          unfold stepF
          rw [hp]
          simp only
          rw [if_neg h0, if_pos hd]
        have hlog : FS.log ⟨kids slots q.node (q.depth + 1) ++ rest, st.shelf, st.evs ++ [.release q.holder q.slot q.node (tal slots outs st.log rest q.node), .destroy q.node q.depth]⟩ = st.log ++ [q.node] := by
          unfold FS.log
          rw [List.filterMap_append]
          rfl
        have hnl : q.node ∉ st.log := fun h => hnew (List.mem_append_left _ h)
        refine iteP (decide_eq_true hd) ?_
        repeat walk_at "rd"
        have hrl := wk.row q.node
        have hmu : st.mu slots = left slots st.log + (rest.length + 1) := by unfold FS.mu; rw [hp]; rfl
        refine ⟨slots, H1, p, dx, aS, aO, aR, aE, aH, aV, ra, lim, outs, _, st.log, rest, st.shelf, _, q.node, q.depth, rfl, ms, md2, hC, hl, hnl, by omega, by rw [List.length_append]; show st.evs.length + 1 ≤ 100000; omega, by omega, fun H4 md4 => ?_⟩
        repeat walk_at "rd"
        refine k _ H4 hstep ?_
        rw [hlog]
        show MD slots H1 H4 aS aO aR aE aH aV ra outs (tal slots outs (st.log ++ [q.node]) (kids slots q.node (q.depth + 1) ++ rest)) (st.log ++ [q.node]) (kids slots q.node (q.depth + 1) ++ rest) st.shelf _
        rw [show tal slots outs (st.log ++ [q.node]) (kids slots q.node (q.depth + 1) ++ rest) = tal slots outs st.log rest from funext fun m => tal_dead hlt hnl _ _ m]
        rw [List.append_assoc] at md4
        exact md4
      · have hstep : stepF slots outs lim st = some ⟨rest, st.shelf ++ [q.node], st.evs ++ [.release q.holder q.slot q.node (tal slots outs st.log rest q.node), .shelve q.node (st.shelf.length + 1)]⟩ := by
          unfold stepF
          rw [hp]
          simp only
          rw [if_neg h0, if_neg hd]
        have hlog : FS.log ⟨rest, st.shelf ++ [q.node], st.evs ++ [.release q.holder q.slot q.node (tal slots outs st.log rest q.node), .shelve q.node (st.shelf.length + 1)]⟩ = st.log := by
          unfold FS.log
          rw [List.filterMap_append]
          exact List.append_nil _
        refine iteN (decide_eq_false hd) ?_
        have eH3 := md2.eH
        have hsl := wk.shelf
        have hm40 := wk.most
        have hz2 : (st.shelf.map fun n : Nat => V.int n).length < sizeLine := big_line (by rw [List.length_map]; omega)
        repeat walk_at "rd"
        refine ⟨ty_list (SqL.of eH3), ?_⟩
        repeat walk_at "rd"
        have md3 := md2.wH six (st.shelf ++ [q.node])
        rw [List.map_append] at md3
        replace md3 : MD slots H1 (upd H3 aH (.lst ((st.shelf.map fun n : Nat => V.int n) ++ [V.int q.node]))) aS aO aR aE aH aV ra outs (tal slots outs st.log rest) st.log rest (st.shelf ++ [q.node]) (st.evs ++ [.release q.holder q.slot q.node (tal slots outs st.log rest q.node)]) := md3
        generalize upd H3 aH (.lst ((st.shelf.map fun n : Nat => V.int n) ++ [V.int q.node])) = H4 at *
        have hins4 := md3.k _ _ ms.pW ms.ins
        have eH4 := md3.eH
        obtain ⟨us4, eV4, tV4⟩ := md3.eV
        have hz3 : (us4.map V.ref).length < sizeLine := big_line (by rw [List.length_map, tV4.len, List.length_map, List.length_append]; show st.evs.length + 1 ≤ 1000000; omega)
        repeat walk_at "rd"
        refine ⟨ty_list (SqL.of eV4), ?_⟩
        repeat walk_at "rd"
        rename_i t4 nt4
        refine k _ _ hstep ?_
        rw [hlog]
        have hls : V.int ((((st.shelf ++ [q.node]).map fun n : Nat => V.int n)).length : Int) = V.int ((st.shelf.length + 1 : Nat) : Int) := by rw [List.length_map, List.length_append]; rfl
        rw [hls]
        have md4 := (md3.new (o := .tup (evV (.shelve q.node (st.shelf.length + 1)))) nt4).wV six (lk_ne eV4 nt4) (tV4.new nt4) (t := t4) (e := .shelve q.node (st.shelf.length + 1)) upd_same
        rw [List.append_assoc] at md4
        exact md4
def spReleaseAll (K : PySem.W.Frag) (C : Addr) : Sp := fun vs H Q _ => ∃ (slots : List (Option Rw)) (H1 : Hp) (p dx aS aO aR aE aH aV : Addr) (ra : Nat → Addr) (lim : Int) (outs : List Int) (s : FS),
  vs = [.ref p] ∧ MS slots C H1 p dx aS aO aR aE aH aV ra lim ∧ MD slots H1 H aS aO aR aE aH aV ra outs (tal slots outs s.log s.pend) s.log s.pend s.shelf s.evs ∧ ClR K C ∧ Wk slots outs s ∧
  ∀ s' H', Steps slots outs lim s s' → s'.pend = [] → Wk slots outs s' → s'.mu slots ≤ s.mu slots → MD slots H1 H' aS aO aR aE aH aV ra outs (tal slots outs s'.log s'.pend) s'.log s'.pend s'.shelf s'.evs → Q .non H'
theorem ok_releaseAll {C : Addr} {f : Addr} {fd : FuncData} (F : Fun K "_release_all" "Releasing._release_all" sReleasingReleaseAll f fd) (T : Txt mg) (m_release : Lm P w K mg base C "_release" 2 ["self", "holder", "slot", "node", "depth"] (spRelease K C)) (cR : Cls K C) :
    FnOk P w K mg base CX0 3 f fd ["self"] (spReleaseAll K C) := by
  refine F.ok scReleasingReleaseAll (fun vs H Q E h => ?_) (fun cdv A outer s H vs Q E hr h => ?_)
  · obtain ⟨slots, H1, p, dx, aS, aO, aR, aE, aH, aV, ra, lim, outs, s, rfl, _⟩ := h
    rfl
  · obtain ⟨slots, H1, p, dx, aS, aO, aR, aE, aH, aV, ra, lim, outs, st, rfl, ms, md, hC, wk, k⟩ := h
    refine ⟨_, (pss_one (ps_while PassesOwn.never (pt_truth' (pe_fld (pv 0) rfl))
      (pss_cons (ps_asg (pe_bm0 PySem.F.plainAttrs_list PySem.F.slot_list_pop PySem.F.type_list_pop mt_pop (pe_fld (pv 0) rfl)) (pg_tup rfl (pgs_cons (pg_name (i := 1) scReleasingReleaseAll.nd rfl (Or.inl rfl)) (pgs_cons (pg_name (i := 2) scReleasingReleaseAll.nd rfl (Or.inl rfl)) (pgs_cons (pg_name (i := 3) scReleasingReleaseAll.nd rfl (Or.inl rfl)) (pgs_cons (pg_name (i := 4) scReleasingReleaseAll.nd rfl (Or.inl rfl)) pgs_nil))))))
      (pss_one (ps_expr (pe_lm m_release cR (hr.mono (by decide)) (pv 0) (pa_cons (pv 1) (pa_cons (pv 2) (pa_cons (pv 3) (pa_cons (pv 4) pa_nil)))))))))), ?_⟩
    refine x_start (σ' := [some (.ref p), none, none, none, none]) rfl ?_
    dsimp only [cxOf]
    have six := ms.six
    repeat walk_at "rd"
    refine ⟨fun m σ H2 => ∃ (s2 : FS) (y1 y2 y3 y4 : Option V), σ = [some (.ref p), y1, y2, y3, y4] ∧ MD slots H1 H2 aS aO aR aE aH aV ra outs (tal slots outs s2.log s2.pend) s2.log s2.pend s2.shelf s2.evs ∧ Wk slots outs s2 ∧ Steps slots outs lim st s2 ∧ s2.mu slots ≤ st.mu slots ∧ m = s2.mu slots,
      ⟨_, st, none, none, none, none, rfl, md, wk, .refl _, Nat.le_refl _, rfl⟩, ?_⟩
    rintro m σ H2 ⟨s2, y1, y2, y3, y4, rfl, md2, wk2, hs2, hm2, rfl⟩
    have hins := md2.k _ _ ms.pW ms.ins
    cases hp : s2.pend with
    | nil =>
      obtain ⟨ts, eE, tE⟩ := md2.eE
      have hts : ts = [] := by
        have := tE.len
        rw [hp] at this
        exact List.eq_nil_of_length_eq_zero this
      subst hts
      repeat walk_at "rd"
      refine iteF ?_
      exact k s2 H2 hs2 hp wk2 hm2 md2
    | cons q rest =>
      have md2' := md2
      rw [hp] at md2'
      obtain ⟨ts, t, eE, ht, md3'⟩ := md2'.pE six
      rw [← hp] at md3'
      have eat : (ts.map V.ref ++ [V.ref t])[(ts.map V.ref ++ [V.ref t]).length - 1]? = some (V.ref t) := by simp
      have nt : t ≠ aE := fun z => by
        rw [z, eE] at ht
        cases ht
      replace ht : H2 t = some (.tup [optV q.holder, optV q.slot, .int q.node, .int q.depth]) := ht
      have npE : p ≠ aE := fun z => by
        rw [z, eE] at hins
        cases hins
      repeat walk_at "rd"
      refine iteP (by simp) (x_turn ?_)
      repeat walk_at "rd"
      refine ⟨ty_list (SqL.of eE), ?_⟩
      repeat walk_at "rd"
      rw [List.dropLast_concat]
      refine ⟨slots, H1, p, dx, aS, aO, aR, aE, aH, aV, ra, lim, outs, s2, q, rest, rfl, ms, hp, md3', hC, wk2, fun s' H3 hst md4 => ?_⟩
      have hmu := (step_mu wk2.ok wk2.ho hst).1
      repeat walk_at "rd"
      exact ⟨s'.mu slots, hmu, s', _, _, _, _, rfl, md4, wk2.step hst, hs2.tail hst, by omega, rfl⟩
end


section
variable {P : Program} {w : World} {K : PySem.W.Frag} {mg : Str → Option Value} {base : Heap}

theorem tal_start {slots : List (Option Rw)} {outs : List Int} {n : Nat} {z : Int} (hz : outs[n]? = some z) (log : List Nat) (m : Nat) : tal slots (outs.set n (z - 1)) log [⟨none, none, n, 0⟩] m = tal slots outs log [] m := by
  unfold tal
  rw [pendC_cons, show pendC [] m = 0 from rfl]
  by_cases e : n = m
  · subst e
    rw [List.getElem?_set_self (List.getElem?_eq_some_iff.mp hz).1, hz]
    simp only [if_true, Option.getD_some]
    omega
  · rw [List.getElem?_set_ne e, if_neg e]
theorem set_nonneg {outs : List Int} {n : Nat} {z : Int} (ho : ∀ z ∈ outs, 0 ≤ z) (h : 1 ≤ z) : ∀ y ∈ outs.set n (z - 1), 0 ≤ y := by
  intro y hy
  rcases List.mem_or_eq_of_mem_set hy with hy | rfl
  · exact ho y hy
  · omega
theorem Wk.start {slots : List (Option Rw)} {outs : List Int} {s : FS} (k : Wk slots outs s) (hp : s.pend = []) (hs : s.shelf = []) {n : Nat} {z : Int} (hz : outs[n]? = some z) (h1 : 1 ≤ z) (hl : isLive slots n = true) (hsz : s.evs.length + 2 * s.mu slots ≤ 89000) :
    Wk slots (outs.set n (z - 1)) ⟨[⟨none, none, n, 0⟩], [], s.evs⟩ := by
  have hlog : FS.log ⟨[⟨none, none, n, 0⟩], [], s.evs⟩ = s.log := rfl
  refine ⟨⟨fun q hq => ?_, ?_, fun m hm => ?_, fun m hm => ?_⟩, set_nonneg k.ho h1, k.wl, k.rl, k.most, ?_⟩
  · rw [List.mem_singleton.mp hq]
    exact hl
  · rw [hlog]
    have := k.ok.nd
    rwa [hs] at this
  · rw [hlog] at hm ⊢
    show tal slots (outs.set n (z - 1)) s.log [⟨none, none, n, 0⟩] m = 0
    rw [tal_start hz, ← hp]
    exact k.ok.z m (by rw [hs]; exact hm)
  · rw [hlog] at hm
    exact k.ok.lv m (by rw [hs]; exact hm)
  · have h2 : s.mu slots = left slots s.log + 0 := by unfold FS.mu; rw [hp]; rfl
    have h3 : FS.mu slots ⟨[⟨none, none, n, 0⟩], [], s.evs⟩ = left slots s.log + 1 := rfl
    rw [h3]
    show s.evs.length + 2 * (left slots s.log + 1) ≤ 90000
    omega
def spMDrop (K : PySem.W.Frag) (C : Addr) : Sp := fun vs H Q _ => ∃ (slots : List (Option Rw)) (H1 : Hp) (p dx aS aO aR aE aH aV : Addr) (ra : Nat → Addr) (lim : Int) (outs : List Int) (s : FS) (n : Nat) (z : Int),
  vs = [.ref p, .int n] ∧ MS slots C H1 p dx aS aO aR aE aH aV ra lim ∧ MD slots H1 H aS aO aR aE aH aV ra outs (tal slots outs s.log []) s.log [] [] s.evs ∧ ClR K C ∧ Wk slots outs s ∧ s.pend = [] ∧ s.shelf = [] ∧ outs.length = slots.length ∧ outs[n]? = some z ∧ 1 ≤ z ∧ isLive slots n = true ∧ s.evs.length + 2 * s.mu slots ≤ 89000 ∧ 0 < lim ∧
  ∀ s' H', Steps slots (outs.set n (z - 1)) lim ⟨[⟨none, none, n, 0⟩], [], s.evs⟩ s' → s'.pend = [] → s'.shelf = [] → Wk slots (outs.set n (z - 1)) s' → MD slots H1 H' aS aO aR aE aH aV ra (outs.set n (z - 1)) (tal slots (outs.set n (z - 1)) s'.log []) s'.log [] [] s'.evs → Q .non H'
theorem ok_mdrop {C : Addr} {f : Addr} {fd : FuncData} (F : Fun K "drop" "Releasing.drop" sReleasingDrop f fd) (T : Txt mg) (m_release_all : Lm P w K mg base C "_release_all" 3 ["self"] (spReleaseAll K C)) (m_destroy : Lm P w K mg base C "_destroy" 1 ["self", "node", "depth"] (spDestroy K C)) (cR : Cls K C) :
    FnOk P w K mg base CX0 4 f fd ["self", "node"] (spMDrop K C) := by
  refine F.ok scReleasingDrop (fun vs H Q E h => ?_) (fun cdv A outer s H vs Q E hr h => ?_)
  · obtain ⟨slots, H1, p, dx, aS, aO, aR, aE, aH, aV, ra, lim, outs, s, n, z, rfl, _⟩ := h
    rfl
  · obtain ⟨slots, H1, p, dx, aS, aO, aR, aE, aH, aV, ra, lim, outs, st, n, z, rfl, ms, md, hC, wk, hp, hs, hol, hz, h1, hl, hsz, hlim, k⟩ := h
    refine ⟨_, (pss_cons (ps_augS (pe_fld (pv 0) rfl) (pv 1) get_list pe_int ip_sub set_list)
      (pss_cons (ps_expr (pe_bm PySem.F.plainAttrs_list PySem.F.slot_list_append PySem.F.type_list_append mt_append (pe_fld (pv 0) rfl) (pa_cons (pe_tup (pa_cons pe_non (pa_cons pe_non (pa_cons (pv 1) (pa_cons pe_int pa_nil))))) pa_nil)))
      (pss_cons (ps_expr (pe_lm0 m_release_all cR (hr.mono (by decide)) (pv 0)))
      (pss_one (ps_while PassesOwn.never (pt_truth' (pe_fld (pv 0) rfl))
      (pss_cons (ps_set (i := 2) scReleasingDrop.nd rfl (Or.inl rfl) (pe_bm0 PySem.F.plainAttrs_list PySem.F.slot_list_pop PySem.F.type_list_pop mt_pop (pe_fld (pv 0) rfl)))
      (pss_cons (ps_expr (pe_bm PySem.F.plainAttrs_list PySem.F.slot_list_append PySem.F.type_list_append mt_append (pe_fld (pv 0) rfl) (pa_cons (pe_tup (pa_cons pe_str (pa_cons (pv 2) (pa_cons (pe_callB call_len_seq (by rfl) T.b_len boot'_len (pa_cons (pe_fld (pv 0) rfl) pa_nil)) pa_nil)))) pa_nil)))
      (pss_cons (ps_expr (pe_lm m_destroy cR (hr.mono (by decide)) (pv 0) (pa_cons (pv 2) (pa_cons pe_int pa_nil))))
      (pss_one (ps_expr (pe_lm0 m_release_all cR (hr.mono (by decide)) (pv 0)))))))))))), ?_⟩
    refine x_start (σ' := [some (.ref p), some (.int n), none]) rfl ?_
    dsimp only [cxOf]
    have six := ms.six
    have hins := md.k _ _ ms.pW ms.ins
    have eO := md.eO
    obtain ⟨hnl, hze⟩ := List.getElem?_eq_some_iff.mp hz
    have at1 : atI (outs.map V.int) (n : Int) = some (.int z) := atI_nat (by rw [List.getElem?_map, hz]; rfl)
    have ix1 : ixN (outs.map V.int).length (n : Int) = some n := ix_nat (by rw [List.length_map]; exact hnl)
    repeat walk_at "rd"
    have md1 := md.wO six (outs.set n (z - 1))
    rw [List.map_set] at md1
    generalize upd H aO (.lst ((outs.map V.int).set n (V.int (z - 1)))) = H2 at *
    have hins2 := md1.k _ _ ms.pW ms.ins
    obtain ⟨ts, eE, tE⟩ := md1.eE
    have hz0 : (ts.map V.ref).length < sizeLine := big_line (by rw [List.length_map, tE.len]; simp)
    repeat walk_at "rd"
    refine ⟨ty_list (SqL.of eE), ?_⟩
    repeat walk_at "rd"
    rename_i t nt
    have md2 := (md1.new (o := .tup (pdV ⟨none, none, n, 0⟩)) nt).wE six (lk_ne eE nt) (tE.new nt) (t := t) (q := ⟨none, none, n, 0⟩) upd_same
    replace md2 : MD slots H1 (upd (upd H2 t (.tup [.non, .non, .int n, .int 0])) aE (.lst (ts.map V.ref ++ [V.ref t]))) aS aO aR aE aH aV ra (outs.set n (z - 1)) (tal slots outs st.log []) st.log [⟨none, none, n, 0⟩] [] st.evs := md2
    generalize (upd (upd H2 t (.tup [.non, .non, .int n, .int 0])) aE (.lst (ts.map V.ref ++ [V.ref t]))) = H3 at *
    rw [← show tal slots (outs.set n (z - 1)) st.log [⟨none, none, n, 0⟩] = tal slots outs st.log [] from funext fun m => tal_start hz _ m] at md2
    have wk2 := wk.start hp hs hz h1 hl hsz
    have hins3 := md2.k _ _ ms.pW ms.ins
    repeat walk_at "rd"
    refine ⟨slots, H1, p, dx, aS, aO, aR, aE, aH, aV, ra, lim, outs.set n (z - 1), ⟨[⟨none, none, n, 0⟩], [], st.evs⟩, rfl, ms, md2, hC, wk2, fun s3 H4 hs3 hp3 wk3 hm3 md3 => ?_⟩
    repeat walk_at "rd"
    refine ⟨fun m σ H5 => ∃ (s5 : FS) (y2 : Option V), σ = [some (.ref p), some (.int n), y2] ∧ MD slots H1 H5 aS aO aR aE aH aV ra (outs.set n (z - 1)) (tal slots (outs.set n (z - 1)) s5.log s5.pend) s5.log s5.pend s5.shelf s5.evs ∧ Wk slots (outs.set n (z - 1)) s5 ∧ s5.pend = [] ∧ Steps slots (outs.set n (z - 1)) lim ⟨[⟨none, none, n, 0⟩], [], st.evs⟩ s5 ∧ m = s5.mu slots,
      ⟨_, s3, none, rfl, md3, wk3, hp3, hs3, rfl⟩, ?_⟩
    rintro m σ H5 ⟨s5, y2, rfl, md5, wk5, hp5, hs5, rfl⟩
    have hins5 := md5.k _ _ ms.pW ms.ins
    have eH5 := md5.eH
    rcases List.eq_nil_or_concat s5.shelf with he | ⟨ss, a, he⟩
    · rw [he] at eH5
      repeat walk_at "rd"
      refine iteF ?_
      refine k s5 H5 hs5 hp5 he wk5 ?_
      rw [hp5, he] at md5
      exact md5
    · rw [List.concat_eq_append] at he
      rw [he, List.map_append] at eH5
      replace eH5 : H5 aH = some (.lst ((ss.map fun n : Nat => V.int n) ++ [V.int (a : Int)])) := eH5
      have eat : ((ss.map fun n : Nat => V.int n) ++ [V.int (a : Int)])[((ss.map fun n : Nat => V.int n) ++ [V.int (a : Int)]).length - 1]? = some (V.int (a : Int)) := by simp
      repeat walk_at "rd"
      refine iteP (by simp) (x_turn ?_)
      repeat walk_at "rd"
      refine ⟨ty_list (SqL.of eH5), ?_⟩
      repeat walk_at "rd"
      rw [List.dropLast_concat]
      have md6 := md5.wH six ss
      generalize upd H5 aH (.lst (ss.map fun n : Nat => V.int n)) = H6 at *
      have hins6 := md6.k _ _ ms.pW ms.ins
      have eH6 := md6.eH
      obtain ⟨us, eV, tV⟩ := md6.eV
      have hsz5 := wk5.sz
      have hz1 : (us.map V.ref).length < sizeLine := big_line (by rw [List.length_map, tV.len, List.length_map]; omega)
      have ham : a ∈ s5.log ++ s5.shelf := by rw [he]; simp
      have hla := wk5.ok.lv a ham
      have hnd := wk5.ok.nd
      rw [he] at hnd
      have hna : a ∉ s5.log := fun h => (List.nodup_append.mp hnd).2.2 a h a (by simp) rfl
      obtain ⟨_, _, hlta⟩ := live_lt hla
      have hstep : stepF slots (outs.set n (z - 1)) lim s5 = some ⟨kids slots a 1, ss, s5.evs ++ [.take a ss.length, .destroy a 0]⟩ := by
        unfold stepF
        rw [hp5, he]
        simp
      have wk6 := wk5.step hstep
      have hmu6 := (step_mu wk5.ok wk5.ho hstep).1
      repeat walk_at "rd"
      refine ⟨ty_list (SqL.of eV), ?_⟩
      repeat walk_at "rd"
      rename_i t2 nt2
      have md7 := (md6.new (o := .tup (evV (.take a ss.length))) nt2).wV six (lk_ne eV nt2) (tV.new nt2) (t := t2) (e := .take a ss.length) upd_same
      have hls : V.int ((ss.map fun n : Nat => V.int n).length : Int) = V.int (ss.length : Int) := by rw [List.length_map]
      rw [hls]
      replace md7 : MD slots H1 (upd (upd H6 t2 (.tup [.str "take", .int a, .int ss.length])) aV (.lst (us.map V.ref ++ [V.ref t2]))) aS aO aR aE aH aV ra (outs.set n (z - 1)) (tal slots (outs.set n (z - 1)) s5.log s5.pend) s5.log s5.pend ss (s5.evs ++ [.take a ss.length]) := md7
      generalize (upd (upd H6 t2 (.tup [.str "take", .int a, .int ss.length])) aV (.lst (us.map V.ref ++ [V.ref t2]))) = H7 at *
      have hins7 := md7.k _ _ ms.pW ms.ins
      have hrl := wk5.row a
      repeat walk_at "rd"
      refine ⟨slots, H1, p, dx, aS, aO, aR, aE, aH, aV, ra, lim, outs.set n (z - 1), _, s5.log, s5.pend, ss, _, a, 0, rfl, ms, md7, hC, hla, hna, by rw [hp5]; simp, by rw [List.length_append]; show s5.evs.length + 1 ≤ 100000; omega, by omega, fun H8 md8 => ?_⟩
      have hins8 := md8.k _ _ ms.pW ms.ins
      repeat walk_at "rd"
      have hlog6 : FS.log ⟨kids slots a 1, ss, s5.evs ++ [.take a ss.length, .destroy a 0]⟩ = s5.log ++ [a] := by
        unfold FS.log
        rw [List.filterMap_append]
        rfl
      have md9 : MD slots H1 H8 aS aO aR aE aH aV ra (outs.set n (z - 1)) (tal slots (outs.set n (z - 1)) (FS.log ⟨kids slots a 1, ss, s5.evs ++ [.take a ss.length, .destroy a 0]⟩) (kids slots a 1)) (FS.log ⟨kids slots a 1, ss, s5.evs ++ [.take a ss.length, .destroy a 0]⟩) (kids slots a 1) ss (s5.evs ++ [.take a ss.length, .destroy a 0]) := by
        rw [hlog6]
        have := md8
        rw [hp5, List.append_assoc, List.append_nil] at this
        rw [show tal slots (outs.set n (z - 1)) (s5.log ++ [a]) (kids slots a 1) = tal slots (outs.set n (z - 1)) s5.log [] from funext fun m => by
          have := tal_dead (slots := slots) (outs := outs.set n (z - 1)) hlta hna 1 [] m
          rwa [List.append_nil] at this]
        exact this
      refine ⟨slots, H1, p, dx, aS, aO, aR, aE, aH, aV, ra, lim, outs.set n (z - 1), _, rfl, ms, md9, hC, wk6, fun s9 H9 hs9 hp9 wk9 hm9 mdA => ?_⟩
      repeat walk_at "rd"
      exact ⟨s9.mu slots, by omega, s9, _, rfl, mdA, wk9, hp9, (hs5.tail hstep).trans hs9, rfl⟩
end


theorem mf_put (aS aO aR : Addr) (lim : Int) (aE aH aV : Addr) : List.lookup ("put" : Str) (mf aS aO aR lim aE aH aV) = none := by with_unfolding_all rfl
local macro_rules | `(tactic| walk_at "ml") => `(tactic| exact mf_put ..) --keep
/-! ### a slot's new content -/
def putS (slots : List (Option Rw)) (node j : Nat) (tgt : Option Nat) : List (Option Rw) := slots.set node (some ((rowOf slots node).set j tgt))
section
variable {slots : List (Option Rw)} {outs : List Int} {node j : Nat} {row : Rw} {tgt : Option Nat}
theorem putS_len : (putS slots node j tgt).length = slots.length := List.length_set
theorem putS_at (er : slots[node]? = some (some row)) : (putS slots node j tgt)[node]? = some (some (row.set j tgt)) := by
  unfold putS
  rw [List.getElem?_set_self (List.getElem?_eq_some_iff.mp er).1, rowOf_some er]
theorem putS_ne {i : Nat} (h : i ≠ node) : (putS slots node j tgt)[i]? = slots[i]? := List.getElem?_set_ne (Ne.symm h)
theorem putS_live (er : slots[node]? = some (some row)) (i : Nat) : isLive (putS slots node j tgt) i = isLive slots i := by
  by_cases h : i = node
  · subst h
    simp [isLive, putS_at er, er]
  · simp [isLive, putS_ne h]
theorem putS_row (er : slots[node]? = some (some row)) (h : Nat) : rowOf (putS slots node j tgt) h = if h = node then row.set j tgt else rowOf slots h := by
  by_cases e : h = node
  · subst e
    rw [if_pos rfl, rowOf_some (putS_at er)]
  · rw [if_neg e]
    unfold rowOf
    rw [putS_ne e]
theorem sum_one {f g : Nat → Nat} {n N : Nat} (hn : n < N) (he : ∀ h, h ≠ n → g h = f h) : ((List.range N).map g).sum + f n = ((List.range N).map f).sum + g n := by
  induction N with
  | zero => omega
  | succ N ih =>
    rw [List.range_succ, List.map_append, List.map_append, List.sum_append, List.sum_append]
    simp only [List.map_cons, List.map_nil, List.sum_cons, List.sum_nil, Nat.add_zero]
    by_cases e : n = N
    · subst e
      have : (List.range n).map g = (List.range n).map f := List.map_congr_left fun h hh => he h (Nat.ne_of_lt (List.mem_range.mp hh))
      rw [this]
      omega
    · have := ih (by omega)
      rw [he N (Ne.symm e)]
      omega
theorem count_put {r : Rw} (hj : j < r.length) (m : Nat) : (r.set j tgt).count (some m) + (if r[j] = some m then 1 else 0) = r.count (some m) + (if tgt = some m then 1 else 0) := by
  rw [List.count_set hj]
  have h1 : r[j] = some m → 1 ≤ r.count (some m) := fun e => List.one_le_count_iff.mpr (by rw [← e]; exact List.getElem_mem hj)
  by_cases e1 : r[j] = some m
  · have := h1 e1
    simp only [e1, beq_self_eq_true, if_true]
    by_cases e2 : tgt = some m
    · simp only [e2, beq_self_eq_true, if_true]
      omega
    · simp only [e2, beq_iff_eq, if_false]
      omega
  · simp only [e1, beq_iff_eq, if_false]
    by_cases e2 : tgt = some m
    · simp only [e2, if_true]
      omega
    · simp only [e2, if_false]
      omega
theorem cntH_put (er : slots[node]? = some (some row)) (hj : j < row.length) {log : List Nat} (hn : node ∉ log) (m : Nat) : cntH (putS slots node j tgt) log m + (if row[j] = some m then 1 else 0) = cntH slots log m + (if tgt = some m then 1 else 0) := by
  have hlt := (List.getElem?_eq_some_iff.mp er).1
  have h1 := sum_one (f := fun h => if h ∈ log then 0 else (rowOf slots h).count (some m)) (g := fun h => if h ∈ log then 0 else (rowOf (putS slots node j tgt) h).count (some m)) hlt (fun h e => by
    simp only [putS_row er, if_neg e])
  simp only [if_neg hn, putS_row er, if_true, rowOf_some er] at h1
  have h2 := count_put (tgt := tgt) hj m
  unfold cntH
  rw [putS_len]
  simp only [putS_row er]
  omega
theorem left_put (er : slots[node]? = some (some row)) (log : List Nat) : left (putS slots node j tgt) log = left slots log := by
  unfold left
  rw [putS_len]
  congr 1
  refine List.map_congr_left fun h _ => ?_
  rw [putS_row er]
  by_cases e : h = node
  · subst e
    rw [if_pos rfl, List.length_set, rowOf_some er]
  · rw [if_neg e]
/-- one more outside reference -/
def bump (outs : List Int) : Option Nat → List Int
  | none => outs
  | some k => outs.set k ((outs[k]?).getD 0 + 1)
theorem bump_at {o : Option Nat} (ho : ∀ k, o = some k → k < outs.length) (m : Nat) : ((bump outs o)[m]?).getD 0 = (outs[m]?).getD 0 + (if o = some m then 1 else 0) := by
  cases o with
  | none => simp [bump]
  | some k =>
    have hk := ho k rfl
    unfold bump
    by_cases e : k = m
    · subst e
      rw [List.getElem?_set_self hk]
      simp
    · rw [List.getElem?_set_ne e]
      simp [e]
theorem tal_put (er : slots[node]? = some (some row)) (hj : j < row.length) {log : List Nat} (hn : node ∉ log) (ho : ∀ k, row[j] = some k → k < outs.length) (m : Nat) :
    tal (putS slots node j tgt) (bump outs row[j]) log [] m = tal slots outs log [] m + (if tgt = some m then 1 else 0) := by
  have h1 := cntH_put (tgt := tgt) er hj hn m
  unfold tal
  rw [bump_at ho, show pendC [] m = 0 from rfl]
  have h2 : (if row[j] = some m then (1 : Int) else 0) = ((if row[j] = some m then 1 else 0 : Nat) : Int) := by split <;> rfl
  have h3 : (if tgt = some m then (1 : Int) else 0) = ((if tgt = some m then 1 else 0 : Nat) : Int) := by split <;> rfl
  rw [h2, h3]
  omega
theorem Wk.put {s : FS} (k : Wk slots outs s) (er : slots[node]? = some (some row)) (hj : j < row.length) (hn : node ∉ s.log) (hol : outs.length = slots.length) (ht : ∀ t, tgt = some t → isLive slots t = true ∧ t ∉ s.log) (hp : s.pend = []) (hs : s.shelf = []) : Wk (putS slots node j tgt) (bump outs row[j]) s := by
  have hlive : ∀ k', row[j] = some k' → ∃ r, slots[k']? = some (some r) := fun k' e => k.wl row (List.mem_of_getElem? er) k' (by rw [← e]; exact List.getElem_mem hj)
  have hb : ∀ k', row[j] = some k' → k' < outs.length := fun k' e => by
    obtain ⟨r, h⟩ := hlive k' e
    rw [hol]
    exact (List.getElem?_eq_some_iff.mp h).1
  have hmu : s.mu (putS slots node j tgt) = s.mu slots := by
    unfold FS.mu
    rw [left_put er]
  refine ⟨⟨fun p hpm => (by rw [hp] at hpm; cases hpm), k.ok.nd, fun n hnm => ?_, fun n hnm => by rw [putS_live er]; exact k.ok.lv n hnm⟩, fun z hz => ?_, fun r hr k' hk' => ?_, fun r hr => ?_, by rw [putS_len]; exact k.most, by rw [hmu]; exact k.sz⟩
  · rw [hp, tal_put er hj hn hb]
    have h1 := k.ok.z n hnm
    rw [hp] at h1
    rw [h1, if_neg]
    · rfl
    · intro e
      rw [hs, List.append_nil] at hnm
      exact (ht n e).2 hnm
  · cases e : row[j] with
    | none => rw [e] at hz; exact k.ho z hz
    | some k' =>
      rw [e] at hz
      rcases List.mem_or_eq_of_mem_set hz with hz | rfl
      · exact k.ho z hz
      · have : 0 ≤ (outs[k']?).getD 0 := by
          cases e2 : outs[k']? with
          | none => exact Int.le_refl 0
          | some z => exact k.ho z (List.mem_of_getElem? e2)
        omega
  · have hl : isLive slots k' = true := by
      unfold putS at hr
      rcases List.mem_or_eq_of_mem_set hr with hr | e
      · obtain ⟨r', h⟩ := k.wl r hr k' hk'
        simp [isLive, h]
      · rw [Option.some.inj e, rowOf_some er] at hk'
        rcases List.mem_or_eq_of_mem_set hk' with hk' | e
        · obtain ⟨r', h⟩ := k.wl row (List.mem_of_getElem? er) k' hk'
          simp [isLive, h]
        · exact (ht k' e.symm).1
    rw [← putS_live (j := j) (tgt := tgt) er] at hl
    obtain ⟨r', h, _⟩ := live_lt hl
    exact ⟨r', h⟩
  · unfold putS at hr
    rcases List.mem_or_eq_of_mem_set hr with hr | e
    · exact k.rl r hr
    · rw [Option.some.inj e, rowOf_some er, List.length_set]
      exact k.rl row (List.mem_of_getElem? er)
theorem rowV_put {r : Rw} : (rowV r).set j (slotV tgt) = rowV (r.set j tgt) := by
  unfold rowV
  rw [List.map_set]
variable {C : Addr} {H1 H : Hp} {p dx aS aO aR aE aH aV : Addr} {ra : Nat → Addr} {lim : Int} {tf : Nat → Int} {log : List Nat} {evs : List Ev}
/-- the machine after a row's change -/
theorem MS.put (ms : MS slots C H1 p dx aS aO aR aE aH aV ra lim) (md : MD slots H1 H aS aO aR aE aH aV ra outs tf log [] [] evs) (er : slots[node]? = some (some row)) :
    MS (putS slots node j tgt) C (upd H (ra node) (.lst (rowV (row.set j tgt)))) p dx aS aO aR aE aH aV ra lim ∧ MD (putS slots node j tgt) (upd H (ra node) (.lst (rowV (row.set j tgt)))) (upd H (ra node) (.lst (rowV (row.set j tgt)))) aS aO aR aE aH aV ra outs tf log [] [] evs := by
  obtain ⟨hr1, hrW⟩ := ms.rows node row er
  have hrow : H (ra node) = some (.lst (rowV row)) := md.k _ _ hrW hr1
  have hins := md.k _ _ ms.pW ms.ins
  simp only [List.mem_cons, List.not_mem_nil, or_false, not_or] at hrW
  obtain ⟨w1, w2, w3, w4, w5, w6⟩ := hrW
  have hlv := fun i => putS_live (j := j) (tgt := tgt) er i
  refine ⟨⟨lk_ne2 (fun z => by rw [z, hrow] at hins; cases hins) hins, fun i r hi => ?_, ms.dis, ms.pW, fun i j' r r' hi hj' he => ?_⟩, ?_⟩
  · by_cases h : i = node
    · subst h
      rw [putS_at er] at hi
      cases Option.some.inj (Option.some.inj hi)
      exact ⟨upd_same, (ms.rows i row er).2⟩
    · rw [putS_ne h] at hi
      obtain ⟨h1, h2⟩ := ms.rows i r hi
      exact ⟨lk_ne2 (fun z => h (ms.inj i node r row hi er z)) (md.k _ _ h2 h1), h2⟩
  · have lv : ∀ {i : Nat} {r : Rw}, (putS slots node j tgt)[i]? = some (some r) → ∃ r', slots[i]? = some (some r') := fun {i r} hi => by
      have : isLive slots i = true := by rw [← hlv i]; simp [isLive, hi]
      obtain ⟨r', h, _⟩ := live_lt this
      exact ⟨r', h⟩
    obtain ⟨r1, h1⟩ := lv hi
    obtain ⟨r2, h2⟩ := lv hj'
    exact ms.inj i j' r1 r2 h1 h2 he
  · obtain ⟨ts, e1, e2⟩ := md.eE
    obtain ⟨us, e3, e4⟩ := md.eV
    have hS : (List.range (putS slots node j tgt).length).map (slotR (putS slots node j tgt) ra log) = (List.range slots.length).map (slotR slots ra log) := by
      rw [putS_len]
      refine List.map_congr_left fun i _ => ?_
      unfold slotR
      rw [hlv i]
    have hR : (List.range (putS slots node j tgt).length).map (refR (putS slots node j tgt) tf) = (List.range slots.length).map (refR slots tf) := by
      rw [putS_len]
      refine List.map_congr_left fun i _ => ?_
      unfold refR
      rw [hlv i]
    exact ⟨Kx.refl _ _, by rw [hS]; exact lk_ne2 (Ne.symm w1) md.eS, lk_ne2 (Ne.symm w2) md.eO, by rw [hR]; exact lk_ne2 (Ne.symm w3) md.eR, ⟨ts, lk_ne2 (Ne.symm w4) e1, e2.wr hrow⟩, lk_ne2 (Ne.symm w5) md.eH, ⟨us, lk_ne2 (Ne.symm w6) e3, e4.wr hrow⟩⟩
end
section
variable {P : Program} {w : World} {K : PySem.W.Frag} {mg : Str → Option Value} {base : Heap}

def spPut (K : PySem.W.Frag) (C : Addr) : Sp := fun vs H Q _ => ∃ (slots : List (Option Rw)) (H1 : Hp) (p dx aS aO aR aE aH aV : Addr) (ra : Nat → Addr) (lim : Int) (outs : List Int) (s : FS) (node j : Nat) (row : Rw) (tgt : Option Nat) (hj : j < row.length),
  vs = [.ref p, .int node, .int j, slotV tgt] ∧ MS slots C H1 p dx aS aO aR aE aH aV ra lim ∧ MD slots H1 H aS aO aR aE aH aV ra outs (tal slots outs s.log []) s.log [] [] s.evs ∧ ClR K C ∧ Wk slots outs s ∧ s.pend = [] ∧ s.shelf = [] ∧ outs.length = slots.length ∧ slots[node]? = some (some row) ∧ node ∉ s.log ∧
  (∀ t, tgt = some t → isLive slots t = true ∧ t ∉ s.log) ∧ s.evs.length + 2 * s.mu slots ≤ 89000 ∧ 0 < lim ∧
  ∀ s' H2 H', Kx [ra node] H H2 → MS (putS slots node j tgt) C H2 p dx aS aO aR aE aH aV ra lim → MD (putS slots node j tgt) H2 H' aS aO aR aE aH aV ra outs (tal (putS slots node j tgt) outs s'.log []) s'.log [] [] s'.evs → Wk (putS slots node j tgt) outs s' → s'.pend = [] → s'.shelf = [] →
    (match row[j] with | none => s' = s | some k => Wk (putS slots node j tgt) outs ⟨[⟨none, none, k, 0⟩], [], s.evs⟩ ∧ Steps (putS slots node j tgt) outs lim ⟨[⟨none, none, k, 0⟩], [], s.evs⟩ s') → Q .non H'
theorem ok_put {C : Addr} {f : Addr} {fd : FuncData} (F : Fun K "put" "Releasing.put" sReleasingPut f fd) (T : Txt mg) (m_drop : Lm P w K mg base C "drop" 4 ["self", "node"] (spMDrop K C)) (cR : Cls K C) :
    FnOk P w K mg base CX0 5 f fd ["self", "node", "slot", "target"] (spPut K C) := by
  refine F.ok scReleasingPut (fun vs H Q E h => ?_) (fun cdv A outer s H vs Q E hr h => ?_)
  · obtain ⟨slots, H1, p, dx, aS, aO, aR, aE, aH, aV, ra, lim, outs, s, node, j, row, tgt, hj, rfl, _⟩ := h
    rfl
  · obtain ⟨slots, H1, p, dx, aS, aO, aR, aE, aH, aV, ra, lim, outs, st, node, j, row, tgt, hj, rfl, ms, md, hC, wk, hp, hs, hol, er, hnl, ht, hsz, hlim, k⟩ := h
    refine ⟨_, (pss_cons (ps_set (i := 4) scReleasingPut.nd rfl (Or.inl rfl) (pe_ix ix_list (pe_ix ix_list (pe_fld (pv 0) rfl) (pv 1) (fun _ _ => rfl)) (pv 2) (fun _ _ => rfl)))
      (pss_cons (ps_asg (pv 3) (pg_sub (pe_ix ix_list (pe_fld (pv 0) rfl) (pv 1) (fun _ _ => rfl)) (pv 2) set_list))
      (pss_cons (ps_if (pt_cmpR op_notN1 (pv 3) pe_non (nomark _)) (pss_one (ps_augS (pe_fld (pv 0) rfl) (pv 3) get_list pe_int ip_add set_list)) pss_nil)
      (pss_one (ps_if (pt_cmpR op_notN1 (pv 4) pe_non (nomark _)) (pss_cons (ps_augS (pe_fld (pv 0) rfl) (pv 4) get_list pe_int ip_add set_list)
      (pss_one (ps_expr (pe_lm m_drop cR (hr.mono (by decide)) (pv 0) (pa_cons (pv 4) pa_nil))))) pss_nil))))), ?_⟩
    refine x_start (σ' := [some (.ref p), some (.int node), some (.int j), some (slotV tgt), none]) rfl ?_
    dsimp only [cxOf]
    have six := ms.six
    have hins := md.k _ _ ms.pW ms.ins
    have hlt := (List.getElem?_eq_some_iff.mp er).1
    have hlv : isLive slots node = true := by simp [isLive, er]
    obtain ⟨hr1, hrW⟩ := ms.rows node row er
    have hrow : H (ra node) = some (.lst (rowV row)) := md.k _ _ hrW hr1
    have eS := md.eS
    have atS : atI ((List.range slots.length).map (slotR slots ra st.log)) (node : Int) = some (.ref (ra node)) := by
      rw [range_at hlt]
      unfold slotR
      rw [if_pos ⟨hlv, hnl⟩]
    have atr : atI (rowV row) (j : Int) = some (slotV row[j]) := atI_nat (by unfold rowV; rw [List.getElem?_map, List.getElem?_eq_getElem hj]; rfl)
    have ixr : ixN (rowV row).length (j : Int) = some j := ix_nat (by unfold rowV; rw [List.length_map]; exact hj)
    repeat walk_at "rd"
    rw [rowV_put]
    have hbl : ∀ k', row[j] = some k' → k' < outs.length := fun k' e => by
      obtain ⟨r, h⟩ := wk.wl row (List.mem_of_getElem? er) k' (by rw [← e]; exact List.getElem_mem hj)
      rw [hol]
      exact (List.getElem?_eq_some_iff.mp h).1
    have wk2 := wk.put (tgt := tgt) er hj hnl hol ht hp hs
    obtain ⟨ms2, md2⟩ := ms.put (j := j) (tgt := tgt) md er
    have kx2 : Kx [ra node] H (upd H (ra node) (.lst (rowV (row.set j tgt)))) := (Kx.refl _ _).wr (.inr (by simp))
    generalize upd H (ra node) (.lst (rowV (row.set j tgt))) = H2 at *
    cases tgt with
    | none =>
      refine iteF ?_
      have md3 := md2
      rw [show tal slots outs st.log [] = (fun m => tal slots outs st.log [] m + (if (none : Option Nat) = some m then 1 else 0)) from funext fun m => by simp] at md3
      repeat walk_at "rd"
      have tfE : (fun m => tal slots outs st.log [] m + (if none = some m then 1 else 0)) = tal (putS slots node j none) (bump outs row[j]) st.log [] := funext fun m => (tal_put er hj hnl hbl m).symm
      rw [tfE] at md3
      have hins3 := md3.k _ _ ms2.pW ms2.ins
      cases hc : row[j] with
      | none =>
        rw [hc] at md3 wk2
        repeat walk_at "rd"
        refine iteF ?_
        repeat walk_at "rd"
        have kf := k st H2 H2 kx2 ms2 md3 wk2 hp hs
        rw [hc] at kf
        exact kf rfl
      | some k' =>
        rw [hc] at md3 wk2
        have hkl := hbl k' hc
        have hkz : outs[k']? = some outs[k'] := List.getElem?_eq_getElem hkl
        have hlk : isLive (putS slots node j none) k' = true := by
          obtain ⟨r, e⟩ := wk.wl row (List.mem_of_getElem? er) k' (by rw [← hc]; exact List.getElem_mem hj)
          rw [putS_live er]
          simp [isLive, e]
        have eO3 := md3.eO
        have bE : bump outs (some k') = outs.set k' (outs[k'] + 1) := by
          show outs.set k' ((outs[k']?).getD 0 + 1) = _
          rw [hkz]
          rfl
        have atO : atI (outs.map V.int) (k' : Int) = some (.int outs[k']) := atI_nat (by rw [List.getElem?_map, hkz]; rfl)
        have ixO : ixN (outs.map V.int).length (k' : Int) = some k' := ix_nat (by rw [List.length_map]; exact hkl)
        refine iteT ?_
        rw [show slotV (some k') = V.int (k' : Int) from rfl]
        repeat walk_at "rd"
        have md4 := md3.wO six (outs.set k' (outs[k'] + 1))
        rw [List.map_set] at md4
        rw [← bE] at md4
        generalize upd H2 aO (.lst ((outs.map V.int).set k' (V.int (outs[k'] + 1)))) = H4 at *
        have hins4 := md4.k _ _ ms2.pW ms2.ins
        repeat walk_at "rd"
        have hbk : (bump outs (some k'))[k']? = some (outs[k'] + 1) := by rw [bE, List.getElem?_set_self hkl]
        have hz0 : 0 ≤ outs[k'] := wk.ho _ (List.getElem_mem hkl)
        have hmu : st.mu (putS slots node j none) = st.mu slots := by
          unfold FS.mu
          rw [left_put er]
        have hback : (bump outs (some k')).set k' (outs[k'] + 1 - 1) = outs := by
          rw [bE, List.set_set]
          refine List.ext_getElem? fun i => ?_
          by_cases e : k' = i
          · subst e
            rw [List.getElem?_set_self hkl, hkz]
            congr 1
            omega
          · rw [List.getElem?_set_ne e]
        refine ⟨putS slots node j none, H2, p, dx, aS, aO, aR, aE, aH, aV, ra, lim, bump outs (some k'), st, k', outs[k'] + 1, rfl, ms2, md4, hC, wk2, hp, hs, by rw [bE, List.length_set, putS_len]; exact hol, hbk, by omega, hlk, by rw [hmu]; exact hsz, hlim, fun s' H5 hs5 hp5 he5 wk5 md5 => ?_⟩
        rw [hback] at hs5 wk5 md5
        repeat walk_at "rd"
        have kf := k s' H2 H5 kx2 ms2 md5 wk5 hp5 he5
        rw [hc] at kf
        have wkS := wk2.start hp hs hbk (by omega) hlk (by rw [hmu]; exact hsz)
        rw [hback] at wkS
        exact kf ⟨wkS, hs5⟩
    | some t =>
      obtain ⟨htl, htn⟩ := ht t rfl
      obtain ⟨_, _, htlt⟩ := live_lt htl
      have htl2 : isLive (putS slots node j (some t)) t = true := by rw [putS_live er]; exact htl
      have htlt2 : t < (putS slots node j (some t)).length := by rw [putS_len]; exact htlt
      have hins2 := md2.k _ _ ms2.pW ms2.ins
      have eR2 := md2.eR
      have atR : atI ((List.range (putS slots node j (some t)).length).map (refR (putS slots node j (some t)) (tal slots outs st.log []))) (t : Int) = some (.int (tal slots outs st.log [] t)) := by
        rw [range_at htlt2]
        unfold refR
        rw [if_pos htl2]
      have ixR := range_ix (f := refR (putS slots node j (some t)) (tal slots outs st.log [])) htlt2
      have hset : ((List.range (putS slots node j (some t)).length).map (refR (putS slots node j (some t)) (tal slots outs st.log []))).set t (V.int (tal slots outs st.log [] t + 1)) = (List.range (putS slots node j (some t)).length).map (refR (putS slots node j (some t)) (fun m => tal slots outs st.log [] m + (if (some t : Option Nat) = some m then 1 else 0))) :=
        range_set htlt2 (by unfold refR; rw [if_pos htl2]; simp) (fun i hi => by
          unfold refR
          show (if isLive (putS slots node j (some t)) i = true then V.int (tal slots outs st.log [] i + (if (some t : Option Nat) = some i then 1 else 0)) else V.non) = _
          rw [if_neg (c := (some t : Option Nat) = some i) (fun e => hi (Option.some.inj e).symm), Int.add_zero])
      refine iteT ?_
      rw [show slotV (some t) = V.int (t : Int) from rfl]
      repeat walk_at "rd"
      rw [hset]
      have md3 := md2.wR six (fun m => tal slots outs st.log [] m + (if (some t : Option Nat) = some m then 1 else 0))
      generalize upd H2 aR (.lst ((List.range (putS slots node j (some t)).length).map (refR (putS slots node j (some t)) (fun m => tal slots outs st.log [] m + (if (some t : Option Nat) = some m then 1 else 0))))) = H3 at *
      repeat walk_at "rd"
      have tfE : (fun m => tal slots outs st.log [] m + (if (some t) = some m then 1 else 0)) = tal (putS slots node j (some t)) (bump outs row[j]) st.log [] := funext fun m => (tal_put er hj hnl hbl m).symm
      rw [tfE] at md3
      have hins3 := md3.k _ _ ms2.pW ms2.ins
      cases hc : row[j] with
      | none =>
        rw [hc] at md3 wk2
        repeat walk_at "rd"
        refine iteF ?_
        repeat walk_at "rd"
        have kf := k st H2 H3 kx2 ms2 md3 wk2 hp hs
        rw [hc] at kf
        exact kf rfl
      | some k' =>
        rw [hc] at md3 wk2
        have hkl := hbl k' hc
        have hkz : outs[k']? = some outs[k'] := List.getElem?_eq_getElem hkl
        have hlk : isLive (putS slots node j (some t)) k' = true := by
          obtain ⟨r, e⟩ := wk.wl row (List.mem_of_getElem? er) k' (by rw [← hc]; exact List.getElem_mem hj)
          rw [putS_live er]
          simp [isLive, e]
        have eO3 := md3.eO
        have bE : bump outs (some k') = outs.set k' (outs[k'] + 1) := by
          show outs.set k' ((outs[k']?).getD 0 + 1) = _
          rw [hkz]
          rfl
        have atO : atI (outs.map V.int) (k' : Int) = some (.int outs[k']) := atI_nat (by rw [List.getElem?_map, hkz]; rfl)
        have ixO : ixN (outs.map V.int).length (k' : Int) = some k' := ix_nat (by rw [List.length_map]; exact hkl)
        refine iteT ?_
        rw [show slotV (some k') = V.int (k' : Int) from rfl]
        repeat walk_at "rd"
        have md4 := md3.wO six (outs.set k' (outs[k'] + 1))
        rw [List.map_set] at md4
        rw [← bE] at md4
        generalize upd H3 aO (.lst ((outs.map V.int).set k' (V.int (outs[k'] + 1)))) = H4 at *
        have hins4 := md4.k _ _ ms2.pW ms2.ins
        repeat walk_at "rd"
        have hbk : (bump outs (some k'))[k']? = some (outs[k'] + 1) := by rw [bE, List.getElem?_set_self hkl]
        have hz0 : 0 ≤ outs[k'] := wk.ho _ (List.getElem_mem hkl)
        have hmu : st.mu (putS slots node j (some t)) = st.mu slots := by
          unfold FS.mu
          rw [left_put er]
        have hback : (bump outs (some k')).set k' (outs[k'] + 1 - 1) = outs := by
          rw [bE, List.set_set]
          refine List.ext_getElem? fun i => ?_
          by_cases e : k' = i
          · subst e
            rw [List.getElem?_set_self hkl, hkz]
            congr 1
            omega
          · rw [List.getElem?_set_ne e]
        refine ⟨putS slots node j (some t), H2, p, dx, aS, aO, aR, aE, aH, aV, ra, lim, bump outs (some k'), st, k', outs[k'] + 1, rfl, ms2, md4, hC, wk2, hp, hs, by rw [bE, List.length_set, putS_len]; exact hol, hbk, by omega, hlk, by rw [hmu]; exact hsz, hlim, fun s' H5 hs5 hp5 he5 wk5 md5 => ?_⟩
        rw [hback] at hs5 wk5 md5
        repeat walk_at "rd"
        have kf := k s' H2 H5 kx2 ms2 md5 wk5 hp5 he5
        rw [hc] at kf
        have wkS := wk2.start hp hs hbk (by omega) hlk (by rw [hmu]; exact hsz)
        rw [hback] at wkS
        exact kf ⟨wkS, hs5⟩
end


section
variable {P : Program} {w : World} {K : PySem.W.Frag} {mg : Str → Option Value} {base : Heap}
def usesF (f : Nat → Nat) (N : Nat) : List Int := (List.range N).map fun k => (f k : Int)
theorem usesF_len (f : Nat → Nat) (N : Nat) : (usesF f N).length = N := by
  unfold usesF
  rw [List.length_map, List.length_range]
theorem usesF_at {f : Nat → Nat} {N h : Nat} (hh : h < N) : (usesF f N)[h]? = some (f h : Int) := by
  unfold usesF
  rw [List.getElem?_map, List.getElem?_range hh]
  rfl
theorem usesF_ext {f g : Nat → Nat} {N : Nat} (h : ∀ k, k < N → f k = g k) : usesF f N = usesF g N := by
  unfold usesF
  refine List.map_congr_left fun k hk => ?_
  rw [h k (List.mem_range.mp hk)]
theorem usesF_set {f : Nat → Nat} {N h : Nat} (hh : h < N) : (usesF f N).set h ((f h : Int) + 1) = usesF (fun k => f k + if k = h then 1 else 0) N := by
  refine List.ext_getElem? fun m => ?_
  by_cases hm : m = h
  · subst hm
    rw [List.getElem?_set_self (by rw [usesF_len]; exact hh), usesF_at hh, if_pos rfl]
    rfl
  · rw [List.getElem?_set_ne (Ne.symm hm)]
    by_cases hN : m < N
    · rw [usesF_at hN, usesF_at hN, if_neg hm, Nat.add_zero]
    · rw [List.getElem?_eq_none (by rw [usesF_len]; omega), List.getElem?_eq_none (by rw [usesF_len]; omega)]
def cntUp (slots : List (Option Rw)) (i k : Nat) : Nat := ((slots.take i).map (cntO k)).sum
theorem cntUp_succ {slots : List (Option Rw)} {i : Nat} {o : Option Rw} (h : slots[i]? = some o) (k : Nat) : cntUp slots (i + 1) k = cntUp slots i k + cntO k o := by
  unfold cntUp
  rw [List.take_add_one, h, List.map_append, List.sum_append]
  simp
theorem count_succ {row : Rw} {j k : Nat} {o : Option Nat} (h : row[j]? = some o) : (row.take (j + 1)).count (some k) = (row.take j).count (some k) + if o = some k then 1 else 0 := by
  rw [List.take_add_one, h, List.count_append]
  simp [List.count_singleton]
theorem flat_rep (n : Nat) (v : V) : (List.replicate n [v]).flatten = List.replicate n v := by
  induction n with
  | zero => rfl
  | succ n ih => rw [List.replicate_succ, List.flatten_cons, ih, List.replicate_succ]; rfl
def spUses (K : PySem.W.Frag) : Sp := fun vs H Q _ => ∃ (S : Addr) (xs : List V) (slots : List (Option Rw)) (outs : List Int), vs = [.ref S] ∧ SqT K H S xs ∧ xs.length = slots.length ∧
  (∀ (i : Nat) (o : Option Rw), slots[i]? = some o → (o = none ∧ xs[i]? = some V.non) ∨ ∃ r row, o = some row ∧ xs[i]? = some (.ref r) ∧ SqT K H r (rowV row)) ∧ Wf slots outs ∧
  ∀ p H', H p = none → Kx [] H H' → H' p = some (.lst ((useL slots).map V.int)) → Q (.ref p) H'
theorem ok_uses {f : Addr} {fd : FuncData} (F : Fun K "slot_uses" "slot_uses" sSlotUses f fd) (T : Txt mg) : FnOk P w K mg base CX0 1 f fd ["slots"] (spUses K) := by
  refine F.ok scSlotUses (fun vs H Q E h => ?_) (fun cdv A outer s H vs Q E hr h => ?_)
  · obtain ⟨S, xs, slots, outs, rfl, _⟩ := h
    rfl
  · obtain ⟨S, xs, slots, outs, rfl, hS, hl, hv, wf, k⟩ := h
    refine ⟨_, (pss_cons (ps_set (i := 1) scSlotUses.nd rfl (Or.inl rfl) (pe_op op_rep (pe_lst (pa_cons pe_int pa_nil)) (pe_callB call_len_seq (by rfl) T.b_len boot'_len (pa_cons (pv 0) pa_nil))))
      (pss_cons (ps_for PassesOwn.never rfl (pi_tup (pv 0)) (pg_name (i := 2) scSlotUses.nd rfl (Or.inl rfl))
      (pss_one (ps_if (pt_cmpR op_notN1 (pv 2) pe_non (nomark _)) (pss_one (ps_for PassesOwn.never rfl (pi_tup (pv 2)) (pg_name (i := 3) scSlotUses.nd rfl (Or.inl rfl))
      (pss_one (ps_if (pt_cmpR op_notN1 (pv 3) pe_non (nomark _)) (pss_one (ps_augS (pv 1) (pv 3) get_list pe_int ip_add set_list)) pss_nil)))) pss_nil)))
      (pss_one (ps_ret (pv 1))))), ?_⟩
    refine x_start (σ' := [some (.ref S), none, none, none]) rfl ?_
    dsimp only [cxOf]
    have h40 := wf.most
    repeat walk_at "rd"
    rename_i q nq
    refine x_rep (xs := [V.int 0]) (k := (xs.length : Int)) upd_same (by omega) (by omega) (Nat.le_of_lt (small1000 (by simp; omega))) fun U nU => ?_
    rw [flat_rep]
    have nU0 : H U = none := ((Kx.refl [] H).new nq).fresh (by simp) nU
    have k0 := ((Kx.refl [] H).new nq).new (o := .lst (List.replicate (xs.length : Int).toNat (V.int 0))) nU
    have e0 : List.replicate (xs.length : Int).toNat (V.int 0) = (usesF (cntUp slots 0) slots.length).map V.int := by
      rw [Int.toNat_natCast, hl]
      refine List.ext_getElem? fun m => ?_
      rw [List.getElem?_map]
      by_cases hm : m < slots.length
      · rw [usesF_at hm, List.getElem?_replicate, if_pos hm]
        rfl
      · rw [List.getElem?_eq_none (by rw [List.length_replicate]; omega), List.getElem?_eq_none (by rw [usesF_len]; omega)]
        rfl
    repeat walk_at "rd"
    refine y_forT (xs := xs) (k0.sqT (by simp) hS) ⟨fun i σ H1 => ∃ (y2 y3 : Option V), σ = [some (.ref S), some (.ref U), y2, y3] ∧ Kx [] H H1 ∧ H1 U = some (.lst ((usesF (cntUp slots i) slots.length).map V.int)),
      ⟨none, none, rfl, k0, by rw [upd_same, e0]⟩, ?_, ?_, ?_⟩
    · rintro i σ H1 hi ⟨y2, y3, rfl, k1, e1⟩
      exact k1.sqT (by simp) hS
    · rintro i x σ H1 H1' hi ⟨y2, y3, rfl, k1, e1⟩ ⟨rfl, hx⟩
      have hs : i < slots.length := by omega
      have es := List.getElem?_eq_getElem hs
      repeat walk_at "rd"
      rcases hv i _ es with ⟨e, z⟩ | ⟨r, row, e, z, hF⟩
      · cases Option.some.inj (z.symm.trans hx)
        refine iteF ?_
        repeat walk_at "rd"
        refine ⟨_, _, rfl, k1, ?_⟩
        rw [e1]
        congr 3
        exact usesF_ext fun k _ => by rw [cntUp_succ es, e]; rfl
      · cases Option.some.inj (z.symm.trans hx)
        refine iteT ?_
        have hrow : some row ∈ slots := by rw [← e]; exact List.getElem_mem hs
        repeat walk_at "rd"
        refine y_forT (xs := rowV row) (k1.sqT (by simp) hF) ⟨fun j σ H2 => ∃ (y3 : Option V), σ = [some (.ref S), some (.ref U), some (.ref r), y3] ∧ Kx [] H H2 ∧ H2 U = some (.lst ((usesF (fun k => cntUp slots i k + (row.take j).count (some k)) slots.length).map V.int)),
          ⟨_, rfl, k1, by rw [e1]; rfl⟩, ?_, ?_, ?_⟩
        · rintro j σ H2 hj ⟨y3, rfl, k2, e2⟩
          exact (k2.sqT (by simp) hF)
        · rintro j x σ H2 H2' hj ⟨y3, rfl, k2, e2⟩ ⟨rfl, hx2⟩
          have hj2 : j < row.length := by
            unfold rowV at hj
            rwa [List.length_map] at hj
          have er := List.getElem?_eq_getElem hj2
          unfold rowV at hx2
          rw [List.getElem?_map, er] at hx2
          cases Option.some.inj hx2
          repeat walk_at "rd"
          cases ho : row[j] with
          | none =>
            refine iteF ?_
            repeat walk_at "rd"
            refine ⟨_, rfl, k2, ?_⟩
            rw [e2]
            congr 3
            exact usesF_ext fun k _ => by rw [count_succ er, ho]; simp
          | some hd =>
            obtain ⟨r2, e9⟩ := wf.live row hrow hd (by rw [← ho]; exact List.getElem_mem hj2)
            have hh := (List.getElem?_eq_some_iff.mp e9).1
            refine iteT ?_
            have hat : atI ((usesF (fun k => cntUp slots i k + (row.take j).count (some k)) slots.length).map V.int) (hd : Int) = some (.int ((cntUp slots i hd + (row.take j).count (some hd) : Nat) : Int)) := atI_nat (by rw [List.getElem?_map, usesF_at hh]; rfl)
            have hix : ixN ((usesF (fun k => cntUp slots i k + (row.take j).count (some k)) slots.length).map V.int).length (hd : Int) = some hd := ix_nat (by rw [List.length_map, usesF_len]; exact hh)
            show tAugS _ _ _ _ _ _ _ [some (.ref S), some (.ref U), some (.ref r), some (.int (hd : Int))] _
            repeat walk_at "rd"
            refine ⟨_, rfl, k2.wr (.inl nU0), ?_⟩
            rw [upd_same, ← List.map_set, usesF_set hh]
            congr 3
            exact usesF_ext fun k _ => by
              rw [count_succ er, ho]
              by_cases hk : k = hd
              · subst hk
                simp [Nat.add_assoc]
              · rw [if_neg hk, if_neg (fun e => hk (Option.some.inj e).symm), Nat.add_zero, Nat.add_zero]
        · rintro σ H2 ⟨y3, rfl, k2, e2⟩
          refine ⟨_, _, rfl, k2, ?_⟩
          rw [e2]
          congr 3
          refine usesF_ext fun k _ => ?_
          rw [cntUp_succ es, e, show (rowV row).length = row.length by unfold rowV; rw [List.length_map], List.take_length]
          rfl
    · rintro σ H1 ⟨y2, y3, rfl, k1, e1⟩
      repeat walk_at "rd"
      refine k U H1 nU0 k1 ?_
      rw [e1, hl]
      unfold useL usesF
      congr 3
      refine List.map_congr_left fun k _ => ?_
      unfold cntUp useC
      rw [List.take_length]
def spCounts (K : PySem.W.Frag) : Sp := fun vs H Q _ => ∃ (D : Addr) (slots : List (Option Rw)) (outs : List Int), vs = [.ref D] ∧ HeapT K H D slots outs ∧ Wf slots outs ∧
  ∀ p H', H p = none → Kx [] H H' → H' p = some (.tup (countsV slots outs)) → Q (.ref p) H'
theorem ok_counts {f : Addr} {fd : FuncData} (F : Fun K "counts" "counts" sCounts f fd) (T : Txt mg) (l_slot_uses : Lo P w K mg base "slot_uses" 1 ["slots"] (spUses K)) : FnOk P w K mg base CX0 2 f fd ["heap"] (spCounts K) := by
  refine F.ok scCounts (fun vs H Q E h => ?_) (fun cdv A outer s H vs Q E hr h => ?_)
  · obtain ⟨D, slots, outs, rfl, _⟩ := h
    rfl
  · obtain ⟨D, slots, outs, rfl, ⟨S, O, vs, hD, hS, hO, hl, hv⟩, wf, k⟩ := h
    refine ⟨_, (pss_cons (ps_asg (pv 0) (pg_tup rfl (pgs_cons (pg_name (i := 1) scCounts.nd rfl (Or.inl rfl)) (pgs_cons (pg_name (i := 2) scCounts.nd rfl (Or.inr rfl)) pgs_nil))))
      (pss_cons (ps_set (i := 3) scCounts.nd rfl (Or.inr rfl) (pe_lo l_slot_uses (hr.mono (by decide)) (by rfl) (pa_cons (pv 1) pa_nil)))
      (pss_one (ps_ret (pe_callTy call_tuple_of (by rfl) T.b_tuple boot'_tuple (pa_cons (pe_lc (own := [("node", 4), ("row", 5)]) rfl scCounts.nd (pi_enumT (by rfl) T.b_enumerate (pa_cons (pv 1) pa_nil)) (blkOk_by (N := ["heap", "slots", "outside", "uses", "node", "row"]) (sc := defScope sCounts) (by decide +kernel)) (fun _ _ _ _ _ => (pg_tupK (K := K) (n := 2) rfl rfl (pgs_cons (pg_name (i := 4) scCounts.nd rfl (Or.inl rfl)) (pgs_cons (pg_name (i := 5) scCounts.nd rfl (Or.inl rfl)) pgs_nil)))) (fun _ _ _ _ _ => pts_nil) (fun _ _ _ _ _ => (pe_ifExp (pt_cmpR op_isN1 (pv 5) pe_non (nomark _)) pe_non (pe_op op_add (pe_ix (ix_tupK (K := K)) (pv 2) (pv 4) (fun _ _ => rfl)) (pe_ix (ix_listK (K := K)) (pv 3) (pv 4) (fun _ _ => rfl)))))) pa_nil)))))), ?_⟩
    refine x_start (σ' := [some (.ref D), none, none, none, none, none]) rfl ?_
    dsimp only [cxOf]
    have h40 := wf.most
    repeat walk_at "rd"
    refine ⟨S, vs, slots, outs, rfl, hS, hl, hv, wf, fun U H1 nU k1 e1 => ?_⟩
    have hS1 : SqT K H1 S vs := k1.sqT (by simp) hS
    have hO1 : SqT K H1 O (outs.map V.int) := k1.sqT (by simp) hO
    repeat walk_at "rd"
    refine y_lcET (xs := vs) hS1 (fun Z nZ => ⟨fun i H2 => Kx [] H1 H2 ∧ H2 Z = some (.lst ((List.range i).map (countV slots outs))), ⟨(Kx.refl _ _).new nZ, upd_same⟩, ?_, ?_, ?_⟩)
    · rintro i H2 hi ⟨k2, _⟩
      exact k2.sqT (by simp) hS1
    · rintro i x H2 H2' hi ⟨k2, e2⟩ ⟨W, x1, x2, rfl, nW, rfl, f1, f2⟩
      cases f1
      have nWZ : Z ≠ W := ne_of_none e2 nW
      repeat walk_at "rd"
      refine ⟨rfl, ?_⟩
      have hs : i < slots.length := by omega
      have es := List.getElem?_eq_getElem hs
      have e3 : (upd H2 W (.tup [.int (i : Int), x2])) Z = some (.lst ((List.range i).map (countV slots outs))) := lk_ne e2 nW
      have hO2 : SqT K (upd H2 W (.tup [.int (i : Int), x2])) O (outs.map V.int) := (k2.new nW).sqT (by simp) hO1
      have hU2 : SqL K (upd H2 W (.tup [.int (i : Int), x2])) U ((useL slots).map V.int) := SqL.of ((k2.new nW) _ _ (by simp) e1)
      have hout : i < outs.length := by rw [wf.len]; exact hs
      have at1 : atI (outs.map V.int) (i : Int) = some (.int outs[i]) := atI_nat (by rw [List.getElem?_map, List.getElem?_eq_getElem hout]; rfl)
      have at2 : atI ((useL slots).map V.int) (i : Int) = some (.int (useC slots i : Int)) := atI_nat (by
        unfold useL
        rw [List.getElem?_map, List.getElem?_map, List.getElem?_range hs]
        rfl)
      have hnew : (List.range (i + 1)).map (countV slots outs) = (List.range i).map (countV slots outs) ++ [countV slots outs i] := by rw [List.range_succ, List.map_append]; rfl
      repeat walk_at "rd"
      rcases hv i _ es with ⟨e, z⟩ | ⟨r, row, e, z, _⟩
      · cases Option.some.inj (z.symm.trans f2)
        refine iteT ?_
        repeat walk_at "rd"
        refine ⟨_, e3, small1000 (by rw [List.length_map, List.length_range]; omega), (k2.new nW).wr (.inl nZ), ?_⟩
        rw [upd_same, hnew, show countV slots outs i = V.non by simp [countV, isLive, es, e]]
      · cases Option.some.inj (z.symm.trans f2)
        refine iteF ?_
        repeat walk_at "rd"
        refine ⟨_, e3, small1000 (by rw [List.length_map, List.length_range]; omega), (k2.new nW).wr (.inl nZ), ?_⟩
        rw [upd_same, hnew, show countV slots outs i = V.int (outs[i] + (useC slots i : Int)) by simp [countV, isLive, es, e, List.getElem?_eq_getElem hout]]
    · rintro H2 ⟨k2, e2⟩
      rw [hl] at e2
      repeat walk_at "rd"
      intro l nl
      repeat walk_at "rd"
      exact k l _ ((k1.trans k2).fresh (by simp) nl) ((k1.trans k2).new nl) upd_same

def spIsInt : Sp := fun vs H Q _ => ∃ i : Int, vs = [.int i] ∧ Q (.bl true) H
theorem ok_isInt {f : Addr} {fd : FuncData} (F : Fun K "is_integer" "is_integer" sIsInteger f fd) (T : Txt mg) : FnOk P w K mg base CX0 1 f fd ["value"] spIsInt := by
  refine F.ok scIsInteger (fun vs H Q E h => ?_) (fun cdv A outer s H vs Q E hr h => ?_)
  · obtain ⟨i, rfl, _⟩ := h
    rfl
  · obtain ⟨i, rfl, k⟩ := h
    refine ⟨_, (pss_one (ps_ret (pe_and (pe_callB call_isi (by rfl) T.b_isinstance boot'_isinstance (pa_cons (pv 0) (pa_cons (pe_bltn (v := .ty "int") (by rfl) T.b_int boot'_int rfl) pa_nil))) (pe_one (pe_not (pe_callB call_isi (by rfl) T.b_isinstance boot'_isinstance (pa_cons (pv 0) (pa_cons (pe_bltn (v := .ty "bool") (by rfl) T.b_bool boot'_bool rfl) pa_nil)))))))), ?_⟩
    refine x_start (σ' := [some (.int i)]) rfl ?_
    try dsimp only [cxOf]
    repeat walk_at "rd"
    exact k
def spBetween : Sp := fun vs H Q _ => ∃ i a b : Int, vs = [.int i, .int a, .int b] ∧ a ≤ i ∧ i ≤ b ∧ Q (.bl true) H
theorem ok_between {f : Addr} {fd : FuncData} (F : Fun K "is_between" "is_between" sIsBetween f fd) (T : Txt mg) (l_is_integer : Lo P w K mg base "is_integer" 1 ["value"] spIsInt) : FnOk P w K mg base CX0 2 f fd ["value", "low", "high"] spBetween := by
  refine F.ok scIsBetween (fun vs H Q E h => ?_) (fun cdv A outer s H vs Q E hr h => ?_)
  · obtain ⟨i, a, b, rfl, _⟩ := h
    rfl
  · obtain ⟨i, a, b, rfl, h1, h2, k⟩ := h
    refine ⟨_, (pss_one (ps_ret (pe_and (pe_lo l_is_integer (hr.mono (by decide)) (by rfl) (pa_cons (pv 0) pa_nil)) (pe_one (pe_chain op_le op_le (pv 1) (pv 0) (pv 2)))))), ?_⟩
    refine x_start (σ' := [some (.int i), some (.int a), some (.int b)]) rfl ?_
    try dsimp only [cxOf]
    repeat walk_at "rd"
    refine ⟨i, rfl, ?_⟩
    repeat walk_at "rd"
    refine iteP (decide_eq_true h1) ?_
    repeat walk_at "rd"
    rw [decide_eq_true h2]
    exact k
def spIsLive (K : PySem.W.Frag) : Sp := fun vs H Q _ => ∃ (D : Addr) (slots : List (Option Rw)) (outs : List Int) (n : Nat), vs = [.ref D, .int n] ∧ HeapT K H D slots outs ∧ isLive slots n = true ∧ slots.length ≤ 40 ∧ Q (.bl true) H
theorem ok_isLive {f : Addr} {fd : FuncData} (F : Fun K "is_live" "is_live" sIsLive f fd) (T : Txt mg) (l_is_between : Lo P w K mg base "is_between" 2 ["value", "low", "high"] spBetween) : FnOk P w K mg base CX0 3 f fd ["heap", "value"] (spIsLive K) := by
  refine F.ok scIsLive (fun vs H Q E h => ?_) (fun cdv A outer s H vs Q E hr h => ?_)
  · obtain ⟨D, slots, outs, n, rfl, _⟩ := h
    rfl
  · obtain ⟨D, slots, outs, n, rfl, hT, hl, h40, k⟩ := h
    obtain ⟨S, O, vs, hD, hS, hO, hvl, hv⟩ := hT.ex
    obtain ⟨row, er, hlt⟩ := live_lt hl
    refine ⟨_, (pss_cons (ps_set (i := 2) scIsLive.nd rfl (Or.inl rfl) (pe_ix ix_tup (pv 0) pe_int (fun _ _ => rfl)))
      (pss_one (ps_ret (pe_and (pe_lo l_is_between (hr.mono (by decide)) (by rfl) (pa_cons (pv 1) (pa_cons pe_int (pa_cons (pe_op op_sub (pe_callB call_len_seq (by rfl) T.b_len boot'_len (pa_cons (pv 2) pa_nil)) pe_int) pa_nil)))) (pe_one (pe_cmpR op_notN1 (pe_ix ix_tup (pv 2) (pv 1) (fun _ _ => rfl)) pe_non (nomark _))))))), ?_⟩
    refine x_start (σ' := [some (.ref D), some (.int n), none]) rfl ?_
    try dsimp only [cxOf]
    rcases hv n _ er with ⟨e', _⟩ | ⟨r, _, _, z, _⟩
    · cases e'
    have at2 : atI vs (n : Int) = some (.ref r) := atI_nat z
    repeat walk_at "rd"
    refine ⟨n, 0, _, rfl, by omega, by omega, ?_⟩
    repeat walk_at "rd"
    exact k
def spNeedLive (K : PySem.W.Frag) : Sp := fun vs H Q _ => ∃ (D : Addr) (slots : List (Option Rw)) (outs : List Int) (n : Nat), vs = [.ref D, .int n] ∧ HeapT K H D slots outs ∧ isLive slots n = true ∧ slots.length ≤ 40 ∧ Q .non H
theorem ok_needLive {f : Addr} {fd : FuncData} (F : Fun K "need_live" "need_live" sNeedLive f fd) (T : Txt mg) (l_is_live : Lo P w K mg base "is_live" 3 ["heap", "value"] (spIsLive K)) : FnOk P w K mg base CX0 4 f fd ["heap", "node"] (spNeedLive K) := by
  refine F.ok scNeedLive (fun vs H Q E h => ?_) (fun cdv A outer s H vs Q E hr h => ?_)
  · obtain ⟨D, slots, outs, n, rfl, _⟩ := h
    rfl
  · obtain ⟨D, slots, outs, n, rfl, hT, hl, h40, k⟩ := h
    refine ⟨_, (pss_one (ps_if (pt_not (pt_val (pe_lo l_is_live (hr.mono (by decide)) (by rfl) (pa_cons (pv 0) (pa_cons (pv 1) pa_nil))))) (pss_one ps_never) pss_nil)), ?_⟩
    refine x_start (σ' := [some (.ref D), some (.int n)]) rfl ?_
    try dsimp only [cxOf]
    repeat walk_at "rd"
    refine ⟨D, slots, outs, n, rfl, hT, hl, h40, ?_⟩
    repeat walk_at "rd"
    refine iteF ?_
    repeat walk_at "rd"
    exact k
def spNeedRef (K : PySem.W.Frag) : Sp := fun vs H Q _ => ∃ (D : Addr) (slots : List (Option Rw)) (outs : List Int) (n : Nat) (z : Int), vs = [.ref D, .int n] ∧ HeapT K H D slots outs ∧ isLive slots n = true ∧ slots.length ≤ 40 ∧ outs[n]? = some z ∧ 1 ≤ z ∧ Q .non H
theorem ok_needRef {f : Addr} {fd : FuncData} (F : Fun K "need_reference" "need_reference" sNeedReference f fd) (T : Txt mg) (l_need_live : Lo P w K mg base "need_live" 4 ["heap", "node"] (spNeedLive K)) : FnOk P w K mg base CX0 5 f fd ["heap", "node"] (spNeedRef K) := by
  refine F.ok scNeedReference (fun vs H Q E h => ?_) (fun cdv A outer s H vs Q E hr h => ?_)
  · obtain ⟨D, slots, outs, n, z, rfl, _⟩ := h
    rfl
  · obtain ⟨D, slots, outs, n, z, rfl, hT, hl, h40, hz, h1, k⟩ := h
    obtain ⟨S, O, vs, hD, hS, hO, hvl, hv⟩ := id hT.ex
    refine ⟨_, (pss_cons (ps_expr (pe_lo l_need_live (hr.mono (by decide)) (by rfl) (pa_cons (pv 0) (pa_cons (pv 1) pa_nil))))
      (pss_one (ps_if (pt_cmpR op_eq (pe_ix ix_tup (pe_ix ix_tup (pv 0) pe_int (fun _ _ => rfl)) (pv 1) (fun _ _ => rfl)) pe_int (nomark _)) (pss_one ps_never) pss_nil))), ?_⟩
    refine x_start (σ' := [some (.ref D), some (.int n)]) rfl ?_
    try dsimp only [cxOf]
    have at1 : atI (outs.map V.int) (n : Int) = some (.int z) := atI_nat (by rw [List.getElem?_map, hz]; rfl)
    repeat walk_at "rd"
    refine ⟨D, slots, outs, n, rfl, hT, hl, h40, ?_⟩
    repeat walk_at "rd"
    refine iteN (decide_eq_false (fun e => by have := V.int.inj e; omega)) ?_
    repeat walk_at "rd"
    exact k
end


theorem pf1 {v : V} : putF ("slots" : Str) v [] = [(("slots" : Str), v)] := rfl
theorem pf2 {a v : V} : putF ("outside" : Str) v [(("slots" : Str), a)] = [(("slots" : Str), a), (("outside" : Str), v)] := by with_unfolding_all rfl
theorem pf3 {a b v : V} : putF ("references" : Str) v [(("slots" : Str), a), (("outside" : Str), b)] = [(("slots" : Str), a), (("outside" : Str), b), (("references" : Str), v)] := by with_unfolding_all rfl
theorem pf4 {a b c v : V} : putF ("limit" : Str) v [(("slots" : Str), a), (("outside" : Str), b), (("references" : Str), c)] = [(("slots" : Str), a), (("outside" : Str), b), (("references" : Str), c), (("limit" : Str), v)] := by with_unfolding_all rfl
theorem pf5 {a b c d v : V} : putF ("emptied" : Str) v [(("slots" : Str), a), (("outside" : Str), b), (("references" : Str), c), (("limit" : Str), d)] = [(("slots" : Str), a), (("outside" : Str), b), (("references" : Str), c), (("limit" : Str), d), (("emptied" : Str), v)] := by with_unfolding_all rfl
theorem pf6 {a b c d e v : V} : putF ("shelf" : Str) v [(("slots" : Str), a), (("outside" : Str), b), (("references" : Str), c), (("limit" : Str), d), (("emptied" : Str), e)] = [(("slots" : Str), a), (("outside" : Str), b), (("references" : Str), c), (("limit" : Str), d), (("emptied" : Str), e), (("shelf" : Str), v)] := by with_unfolding_all rfl
theorem pf7 {a b c d e f v : V} : putF ("events" : Str) v [(("slots" : Str), a), (("outside" : Str), b), (("references" : Str), c), (("limit" : Str), d), (("emptied" : Str), e), (("shelf" : Str), f)] = [(("slots" : Str), a), (("outside" : Str), b), (("references" : Str), c), (("limit" : Str), d), (("emptied" : Str), e), (("shelf" : Str), f), (("events" : Str), v)] := by with_unfolding_all rfl
theorem x_insS {K : PySem.W.Frag} {H : Hp} {C a dx : Addr} {fs : List (Str × V)} {f : Str} {R : Addr → Addr → Addr → List (Str × V) → Prop} (h : H a = some (.ins C dx fs)) (c : Cls K C) (n : NoAttr K C f) (l : fs.length < 1000) (q : R a C dx fs) :
    ∃ a' C' dx' fs', V.ref a = .ref a' ∧ H a' = some (.ins C' dx' fs') ∧ Cls K C' ∧ NoAttr K C' f ∧ List.length fs' < 1000 ∧ R a' C' dx' fs' := ⟨a, C, dx, fs, rfl, h, c, n, l, q⟩
local macro_rules | `(tactic| walk_at "rd") => `(tactic| with_reducible refine' x_sfld ?_) --keep
section
variable {P : Program} {w : World} {K : PySem.W.Frag} {mg : Str → Option Value} {base : Heap}

def spMInit (K : PySem.W.Frag) (C : Addr) : Sp := fun vs H Q _ => ∃ (p dx D : Addr) (slots : List (Option Rw)) (outs : List Int) (lim : Int), vs = [.ref p, .ref D, .int lim] ∧ H p = some (.ins C dx []) ∧ HeapT K H D slots outs ∧ Wf slots outs ∧ ClR K C ∧
  ∀ H' aS aO aR aE aH aV ra, MS slots C H' p dx aS aO aR aE aH aV ra lim → MD slots H' H' aS aO aR aE aH aV ra outs (tal slots outs [] []) [] [] [] [] → Kx [p] H H' → (∀ b ∈ [aS, aO, aR, aE, aH, aV], H b = none) → (∀ (i : Nat) (r : Rw), slots[i]? = some (some r) → H (ra i) = none) → Q .non H'
theorem cntH_use (slots : List (Option Rw)) (m : Nat) : cntH slots [] m = useC slots m := by
  unfold cntH useC
  congr 1
  refine List.ext_getElem? fun i => ?_
  rw [List.getElem?_map, List.getElem?_map]
  by_cases hi : i < slots.length
  · rw [List.getElem?_range hi, List.getElem?_eq_getElem hi]
    simp only [Option.map_some, List.not_mem_nil, if_false]
    unfold rowOf
    rw [List.getElem?_eq_getElem hi]
    cases slots[i] <;> rfl
  · rw [List.getElem?_eq_none (by rw [List.length_range]; omega), List.getElem?_eq_none (by omega)]
    rfl
theorem counts_ref {slots : List (Option Rw)} {outs : List Int} : countsV slots outs = (List.range slots.length).map (refR slots (tal slots outs [] [])) := by
  unfold countsV
  refine List.map_congr_left fun m _ => ?_
  unfold countV refR tal
  rw [cntH_use, show pendC [] m = 0 from rfl]
  simp
theorem sqT_ins {S : List Addr} {H H' : Hp} {a p C dx : Addr} {fs : List (Str × V)} {xs : List V} (h : SqT K H a xs) (hp : H p = some (.ins C dx fs)) (k : Kx [p] H H') : SqT K H' a xs := by
  rcases h with h | h
  · refine .inl ?_
    rcases h with h | ⟨o, h⟩
    · exact .inl (k _ _ (fun z => by rw [List.mem_singleton.mp z, hp] at h; cases h) h)
    · exact .inr ⟨o, k _ _ (fun z => by rw [List.mem_singleton.mp z, hp] at h; cases h) h⟩
  · exact .inr h
theorem HeapT.kp {H H' : Hp} {D p C dx : Addr} {fs : List (Str × V)} {slots : List (Option Rw)} {outs : List Int} (h : HeapT K H D slots outs) (hp : H p = some (.ins C dx fs)) (k : Kx [p] H H') : HeapT K H' D slots outs := by
  obtain ⟨S, O, vs, h1, h2, h3, h4, h5⟩ := h.ex
  refine ⟨S, O, vs, sqT_ins (S := []) h1 hp k, sqT_ins (S := []) h2 hp k, sqT_ins (S := []) h3 hp k, h4, fun i o ho => ?_⟩
  rcases h5 i o ho with z | ⟨r, row, e1, e2, e3⟩
  · exact .inl z
  · exact .inr ⟨r, row, e1, e2, sqT_ins (S := []) e3 hp k⟩
def RaI (slots : List (Option Rw)) (as : List Addr) (i : Nat) : Prop := ∀ (j j' : Nat) (r r' : Rw), j < i → j' < i → slots[j]? = some (some r) → slots[j']? = some (some r') → as.getD j 0 = as.getD j' 0 → j = j'
theorem RaI.grow {slots : List (Option Rw)} {as : List Addr} {i : Nat} (h : RaI slots as i) (ha : as.length = i) {a : Addr} (hn : slots[i]? = some none ∨ ∀ (j : Nat) (r : Rw), j < i → slots[j]? = some (some r) → as.getD j 0 ≠ a) : RaI slots (as ++ [a]) (i + 1) := by
  have gold : ∀ j : Nat, j < i → (as ++ [a]).getD j 0 = as.getD j 0 := by
    intro j hj
    simp only [List.getD_eq_getElem?_getD]
    rw [List.getElem?_append_left (by omega)]
  have gnew : (as ++ [a]).getD i 0 = a := by
    simp only [List.getD_eq_getElem?_getD]
    rw [List.getElem?_append_right (by omega), ha, Nat.sub_self]
    rfl
  intro j j' r r' hj hj' hr hr' he
  rcases hn with hn | hn
  · have h1 : j ≠ i := fun z => by rw [z, hn] at hr; cases hr
    have h2 : j' ≠ i := fun z => by rw [z, hn] at hr'; cases hr'
    rw [gold j (by omega), gold j' (by omega)] at he
    exact h j j' r r' (by omega) (by omega) hr hr' he
  · by_cases h1 : j = i
    · by_cases h2 : j' = i
      · omega
      · subst h1
        rw [gnew, gold j' (by omega)] at he
        exact absurd he.symm (hn j' r' (by omega) hr')
    · by_cases h2 : j' = i
      · subst h2
        rw [gnew, gold j (by omega)] at he
        exact absurd he (hn j r (by omega) hr)
      · rw [gold j (by omega), gold j' (by omega)] at he
        exact h j j' r r' (by omega) (by omega) hr hr' he
def RaF (H : Hp) (slots : List (Option Rw)) (as : List Addr) (i : Nat) : Prop := ∀ (j : Nat) (r : Rw), j < i → slots[j]? = some (some r) → H (as.getD j 0) = none
theorem RaF.grow {H : Hp} {slots : List (Option Rw)} {as : List Addr} {i : Nat} (h : RaF H slots as i) (ha : as.length = i) {a : Addr} (hn : slots[i]? = some none ∨ H a = none) : RaF H slots (as ++ [a]) (i + 1) := by
  intro j r hj hr
  by_cases h1 : j = i
  · subst h1
    rcases hn with hn | hn
    · rw [hn] at hr
      cases hr
    · simp only [List.getD_eq_getElem?_getD]
      rw [List.getElem?_append_right (by omega), ha, Nat.sub_self]
      exact hn
  · simp only [List.getD_eq_getElem?_getD]
    rw [List.getElem?_append_left (by omega), ← List.getD_eq_getElem?_getD]
    exact h j r (by omega) hr
theorem ok_minit {C : Addr} {f : Addr} {fd : FuncData} (F : Fun K "__init__" "Releasing.__init__" sReleasingInit f fd) (T : Txt mg) (l_counts : Lo P w K mg base "counts" 2 ["heap"] (spCounts K)) : FnOk P w K mg base CX0 3 f fd ["self", "heap", "limit"] (spMInit K C) := by
  refine F.ok scReleasingInit (fun vs H Q E h => ?_) (fun cdv A outer s H vs Q E hr h => ?_)
  · obtain ⟨p, dx, D, slots, outs, lim, rfl, _⟩ := h
    rfl
  · obtain ⟨p, dx, D, slots, outs, lim, rfl, hins, hT, wf, hC, k⟩ := h
    obtain ⟨S, O, vs, hD, hS, hO, hl, hv⟩ := id hT.ex
    refine ⟨_, (pss_cons (ps_fld (pv 0) (pe_lc (own := [("row", 3)]) rfl scReleasingInit.nd (pi_tup (pe_ix ix_tup (pv 1) pe_int (fun _ _ => rfl))) (blkOk_by (N := ["self", "heap", "limit", "row"]) (sc := defScope sReleasingInit) (by decide +kernel)) (fun _ _ _ _ _ => (pg_name (i := 3) scReleasingInit.nd rfl (Or.inl rfl))) (fun _ _ _ _ _ => pts_nil) (fun _ _ _ _ _ => (pe_ifExp (pt_cmpR op_isN1 (pv 3) pe_non (nomark _)) pe_non (pe_callTy (call_list_ofK (K := K)) (by rfl) T.b_list boot'_list (pa_cons (pv 3) pa_nil))))) rfl)
      (pss_cons (ps_fld (pv 0) (pe_callTy call_list_of (by rfl) T.b_list boot'_list (pa_cons (pe_ix ix_tup (pv 1) pe_int (fun _ _ => rfl)) pa_nil)) rfl)
      (pss_cons (ps_fld (pv 0) (pe_callTy call_list_of (by rfl) T.b_list boot'_list (pa_cons (pe_lo l_counts (hr.mono (by decide)) (by rfl) (pa_cons (pv 1) pa_nil)) pa_nil)) rfl)
      (pss_cons (ps_fld (pv 0) (pv 2) rfl)
      (pss_cons (ps_fld (pv 0) (pe_lst pa_nil) rfl)
      (pss_cons (ps_fld (pv 0) (pe_lst pa_nil) rfl)
      (pss_one (ps_fld (pv 0) (pe_lst pa_nil) rfl)))))))), ?_⟩
    refine x_start (σ' := [some (.ref p), some (.ref D), some (.int lim), none]) rfl ?_
    dsimp only [cxOf]
    have h40 := wf.most
    repeat walk_at "rd"
    refine y_lcT (xs := vs) hS (fun Z nZ => ⟨fun i H1 => Kx [] H H1 ∧ ∃ as : List Addr, as.length = i ∧ H1 Z = some (.lst ((List.range i).map (slotR slots (fun j => as.getD j 0) []))) ∧
      (∀ (j : Nat) (row : Rw), j < i → slots[j]? = some (some row) → H1 (as.getD j 0) = some (.lst (rowV row)) ∧ as.getD j 0 ≠ Z) ∧ RaI slots as i ∧ RaF H slots as i, ⟨(Kx.refl _ _).new nZ, [], rfl, upd_same, fun j row hj => absurd hj (Nat.not_lt_zero _), fun j _ _ _ hj => absurd hj (Nat.not_lt_zero _), fun j _ hj => absurd hj (Nat.not_lt_zero _)⟩, ?_, ?_, ?_⟩)
    · rintro i H1 hi ⟨k1, _⟩
      exact k1.sqT (by simp) hS
    · rintro i x H1 H1' hi ⟨k1, as, ha, e1, hr1, hin, hfr⟩ ⟨rfl, hx⟩
      have hs : i < slots.length := by omega
      have es := List.getElem?_eq_getElem hs
      have grow : ∀ a : Addr, (List.range (i + 1)).map (slotR slots (fun j => (as ++ [a]).getD j 0) []) = (List.range i).map (slotR slots (fun j => as.getD j 0) []) ++ [slotR slots (fun _ => a) [] i] := by
        intro a
        rw [List.range_succ, List.map_append]
        congr 1
        · refine List.map_congr_left fun j hj => ?_
          have := List.mem_range.mp hj
          unfold slotR
          simp only [List.getD_eq_getElem?_getD]
          rw [List.getElem?_append_left (by omega)]
        · simp only [List.map_cons, List.map_nil]
          unfold slotR
          simp only [List.getD_eq_getElem?_getD]
          rw [List.getElem?_append_right (by omega), ha, Nat.sub_self]
          rfl
      have gold : ∀ (a : Addr) (j : Nat), j < i → (as ++ [a]).getD j 0 = as.getD j 0 := by
        intro a j hj
        simp only [List.getD_eq_getElem?_getD]
        rw [List.getElem?_append_left (by omega)]
      have gnew : ∀ a : Addr, (as ++ [a]).getD i 0 = a := by
        intro a
        simp only [List.getD_eq_getElem?_getD]
        rw [List.getElem?_append_right (by omega), ha, Nat.sub_self]
        rfl
      repeat walk_at "rd"
      refine ⟨rfl, ?_⟩
      repeat walk_at "rd"
      rcases hv i _ es with ⟨e, z⟩ | ⟨r, row, e, z, hR⟩
      · cases Option.some.inj (z.symm.trans hx)
        refine iteT ?_
        repeat walk_at "rd"
        refine ⟨_, e1, small1000 (by rw [List.length_map, List.length_range]; omega), k1.wr (.inl nZ), as ++ [0], by rw [List.length_append, ha]; rfl, ?_, ?_, hin.grow ha (.inl (by rw [es, e])), hfr.grow ha (.inl (by rw [es, e]))⟩
        · rw [upd_same, grow, show slotR slots (fun _ => 0) [] i = V.non by unfold slotR; rw [if_neg]; simp [isLive, es, e]]
        · intro j row hj hjr
          by_cases hji : j = i
          · subst hji
            rw [es, e] at hjr
            cases hjr
          · rw [gold _ _ (by omega)]
            obtain ⟨h1, h2⟩ := hr1 j row (by omega) hjr
            exact ⟨lk_ne2 h2 h1, h2⟩
      · cases Option.some.inj (z.symm.trans hx)
        have hR1 := k1.sqT (by simp) hR
        refine iteF ?_
        repeat walk_at "rd"
        intro a na
        have naZ : a ≠ Z := (ne_of_none e1 na).symm
        refine ⟨_, lk_ne e1 na, small1000 (by rw [List.length_map, List.length_range]; omega), (k1.new na).wr (.inl nZ), as ++ [a], by rw [List.length_append, ha]; rfl, ?_, ?_, hin.grow ha (.inr fun j r hj hjr => ne_of_none (hr1 j r hj hjr).1 na), hfr.grow ha (.inr (k1.fresh (by simp) na))⟩
        · rw [upd_same, grow, show slotR slots (fun _ => a) [] i = V.ref a by unfold slotR; rw [if_pos]; simp [isLive, es, e]]
        · intro j row' hj hjr
          by_cases hji : j = i
          · subst hji
            rw [es, e] at hjr
            cases Option.some.inj (Option.some.inj hjr)
            rw [gnew]
            exact ⟨lk_ne2 naZ upd_same, naZ⟩
          · rw [gold _ _ (by omega)]
            obtain ⟨h1, h2⟩ := hr1 j row' (by omega) hjr
            exact ⟨lk_ne2 h2 (lk_ne h1 na), h2⟩
    rintro H1 ⟨k1, as, ha, eS, hrows, hin, hfr⟩
    rw [hl] at eS
    have hp1 := k1 p _ (by simp) hins
    repeat walk_at "rd"
    refine x_insS hp1 hC.cl hC.n_slots (by simp) ?_
    rw [pf1]
    have nZp : Z ≠ p := fun z => by rw [z, hins] at nZ; cases nZ
    have k2 : Kx [p] H (upd H1 p (.ins C dx [("slots", .ref Z)])) := (k1.mono (by simp)).wr (.inr (by simp))
    have hp2 : (upd H1 p (.ins C dx [("slots", .ref Z)])) p = some (.ins C dx [("slots", .ref Z)]) := upd_same
    have eS2 := lk_ne2 (p := p) (o := .ins C dx [("slots", .ref Z)]) nZp eS
    have rows2 : ∀ (j : Nat) (row : Rw), j < vs.length → slots[j]? = some (some row) → (upd H1 p (.ins C dx [("slots", .ref Z)])) (as.getD j 0) = some (.lst (rowV row)) ∧ as.getD j 0 ≠ Z := fun j row hj hjr => by
      obtain ⟨h1, h2⟩ := hrows j row hj hjr
      exact ⟨lk_ne2 (fun z => by rw [z, hp1] at h1; cases h1) h1, h2⟩
    generalize upd H1 p (.ins C dx [("slots", .ref Z)]) = H2 at *
    clear hrows eS hp1 k1
    have hT2 := hT.kp hins k2
    obtain ⟨S2, O2, vs2, hD2, _, hO2, _⟩ := id hT2.ex
    repeat walk_at "rd"
    intro aO nO
    repeat walk_at "rd"
    refine x_insS (lk_ne hp2 nO) hC.cl hC.n_outside (by simp) ?_
    rw [pf2]
    have npO : p ≠ aO := ne_of_none hp2 nO
    have nSO : Z ≠ aO := ne_of_none eS2 nO
    have k3 := (k2.new (o := .lst (outs.map V.int)) nO).wr (p := p) (o := .ins C dx [("slots", .ref Z), ("outside", .ref aO)]) (.inr (by simp))
    have hp3 : (upd (upd H2 aO (.lst (outs.map V.int))) p (.ins C dx [("slots", .ref Z), ("outside", .ref aO)])) p = some (.ins C dx [("slots", .ref Z), ("outside", .ref aO)]) := upd_same
    have eS3 := lk_ne2 (p := p) (o := .ins C dx [("slots", .ref Z), ("outside", .ref aO)]) nZp (lk_ne (o := .lst (outs.map V.int)) eS2 nO)
    have eO3 := lk_ne2 (p := p) (o := .ins C dx [("slots", .ref Z), ("outside", .ref aO)]) npO.symm (upd_same (H := H2) (a := aO) (o := .lst (outs.map V.int)))
    have rows3 : ∀ (j : Nat) (row : Rw), j < vs.length → slots[j]? = some (some row) → (upd (upd H2 aO (.lst (outs.map V.int))) p (.ins C dx [("slots", .ref Z), ("outside", .ref aO)])) (as.getD j 0) = some (.lst (rowV row)) ∧ as.getD j 0 ≠ Z ∧ as.getD j 0 ≠ aO := fun j row hj hjr => by
      obtain ⟨h1, h2⟩ := rows2 j row hj hjr
      exact ⟨lk_ne2 (fun z => by rw [z, hp2] at h1; cases h1) (lk_ne h1 nO), h2, ne_of_none h1 nO⟩
    have nO0 : H aO = none := by
      have := k2.fresh (by simpa using npO.symm) nO
      exact this
    generalize (upd (upd H2 aO (.lst (outs.map V.int))) p (.ins C dx [("slots", .ref Z), ("outside", .ref aO)])) = H3 at *
    clear rows2 eS2 hp2 k2 hT2 hD2 hO2
    have hT3 := hT.kp hins k3
    repeat walk_at "rd"
    refine ⟨D, slots, outs, rfl, hT3, wf, fun cp H4 ncp k4 eC => ?_⟩
    have hp4 := k4 p _ (by simp) hp3
    have eS4 := k4 Z _ (by simp) eS3
    have eO4 := k4 aO _ (by simp) eO3
    have k04 := k3.trans (k4.mono (by simp))
    rw [counts_ref] at eC
    repeat walk_at "rd"
    intro aR nR
    repeat walk_at "rd"
    refine x_insS (lk_ne hp4 nR) hC.cl hC.n_references (by simp) ?_
    rw [pf3]
    have npR : p ≠ aR := ne_of_none hp4 nR
    have nSR : Z ≠ aR := ne_of_none eS4 nR
    have nOR : aO ≠ aR := ne_of_none eO4 nR
    have nR0 : H aR = none := k04.fresh (by simpa using npR.symm) nR
    generalize hfR : (List.range slots.length).map (refR slots (tal slots outs [] [])) = refs at *
    have k5 := (k04.new (o := .lst refs) nR).wr (p := p) (o := .ins C dx [("slots", .ref Z), ("outside", .ref aO), ("references", .ref aR)]) (.inr (by simp))
    have hp5 : (upd (upd H4 aR (.lst refs)) p (.ins C dx [("slots", .ref Z), ("outside", .ref aO), ("references", .ref aR)])) p = some (.ins C dx [("slots", .ref Z), ("outside", .ref aO), ("references", .ref aR)]) := upd_same
    have eS5 := lk_ne2 (p := p) (o := .ins C dx [("slots", .ref Z), ("outside", .ref aO), ("references", .ref aR)]) nZp (lk_ne (o := .lst refs) eS4 nR)
    have eO5 := lk_ne2 (p := p) (o := .ins C dx [("slots", .ref Z), ("outside", .ref aO), ("references", .ref aR)]) npO.symm (lk_ne (o := .lst refs) eO4 nR)
    have eR5 := lk_ne2 (p := p) (o := .ins C dx [("slots", .ref Z), ("outside", .ref aO), ("references", .ref aR)]) npR.symm (upd_same (H := H4) (a := aR) (o := .lst refs))
    have rows5 : ∀ (j : Nat) (row : Rw), j < vs.length → slots[j]? = some (some row) → (upd (upd H4 aR (.lst refs)) p (.ins C dx [("slots", .ref Z), ("outside", .ref aO), ("references", .ref aR)])) (as.getD j 0) = some (.lst (rowV row)) ∧ as.getD j 0 ≠ Z ∧ as.getD j 0 ≠ aO ∧ as.getD j 0 ≠ aR := fun j row hj hjr => by
      obtain ⟨h1, h2, h3⟩ := rows3 j row hj hjr
      have h4 := k4 _ _ (by simp) h1
      exact ⟨lk_ne2 (fun z => by rw [z, hp4] at h4; cases h4) (lk_ne h4 nR), h2, h3, ne_of_none h4 nR⟩
    generalize (upd (upd H4 aR (.lst refs)) p (.ins C dx [("slots", .ref Z), ("outside", .ref aO), ("references", .ref aR)])) = H5 at *
    clear rows3 eS4 eO4 hp4 k04 eS3 eO3 hp3 k3 k4 eC hT3
    repeat walk_at "rd"
    refine x_insS hp5 hC.cl hC.n_limit (by simp) ?_
    rw [pf4]
    have k6 := k5.wr (p := p) (o := .ins C dx [("slots", .ref Z), ("outside", .ref aO), ("references", .ref aR), ("limit", .int lim)]) (.inr (by simp))
    have hp6 : (upd H5 p (.ins C dx [("slots", .ref Z), ("outside", .ref aO), ("references", .ref aR), ("limit", .int lim)])) p = some _ := upd_same
    have eS6 := lk_ne2 (p := p) (o := .ins C dx [("slots", .ref Z), ("outside", .ref aO), ("references", .ref aR), ("limit", .int lim)]) nZp eS5
    have eO6 := lk_ne2 (p := p) (o := .ins C dx [("slots", .ref Z), ("outside", .ref aO), ("references", .ref aR), ("limit", .int lim)]) npO.symm eO5
    have eR6 := lk_ne2 (p := p) (o := .ins C dx [("slots", .ref Z), ("outside", .ref aO), ("references", .ref aR), ("limit", .int lim)]) npR.symm eR5
    have rows6 : ∀ (j : Nat) (row : Rw), j < vs.length → slots[j]? = some (some row) → (upd H5 p (.ins C dx [("slots", .ref Z), ("outside", .ref aO), ("references", .ref aR), ("limit", .int lim)])) (as.getD j 0) = some (.lst (rowV row)) := fun j row hj hjr => by
      have h1 := (rows5 j row hj hjr).1
      exact lk_ne2 (fun z => by rw [z, hp5] at h1; cases h1) h1
    generalize (upd H5 p (.ins C dx [("slots", .ref Z), ("outside", .ref aO), ("references", .ref aR), ("limit", .int lim)])) = H6 at *
    repeat walk_at "rd"
    rename_i aE nE
    refine x_insS (lk_ne hp6 nE) hC.cl hC.n_emptied (by simp) ?_
    rw [pf5]
    have npE : p ≠ aE := ne_of_none hp6 nE
    have nE0 : H aE = none := k6.fresh (by simpa using npE.symm) nE
    have nSE : Z ≠ aE := ne_of_none eS6 nE
    have nOE : aO ≠ aE := ne_of_none eO6 nE
    have nRE : aR ≠ aE := ne_of_none eR6 nE
    have k7 := (k6.new (o := .lst []) nE).wr (p := p) (o := .ins C dx [("slots", .ref Z), ("outside", .ref aO), ("references", .ref aR), ("limit", .int lim), ("emptied", .ref aE)]) (.inr (by simp))
    have hp7 : (upd (upd H6 aE (.lst [])) p (.ins C dx [("slots", .ref Z), ("outside", .ref aO), ("references", .ref aR), ("limit", .int lim), ("emptied", .ref aE)])) p = some _ := upd_same
    have eS7 := lk_ne2 (p := p) (o := .ins C dx [("slots", .ref Z), ("outside", .ref aO), ("references", .ref aR), ("limit", .int lim), ("emptied", .ref aE)]) nZp (lk_ne (o := .lst []) eS6 nE)
    have eO7 := lk_ne2 (p := p) (o := .ins C dx [("slots", .ref Z), ("outside", .ref aO), ("references", .ref aR), ("limit", .int lim), ("emptied", .ref aE)]) npO.symm (lk_ne (o := .lst []) eO6 nE)
    have eR7 := lk_ne2 (p := p) (o := .ins C dx [("slots", .ref Z), ("outside", .ref aO), ("references", .ref aR), ("limit", .int lim), ("emptied", .ref aE)]) npR.symm (lk_ne (o := .lst []) eR6 nE)
    have eE7 := lk_ne2 (p := p) (o := .ins C dx [("slots", .ref Z), ("outside", .ref aO), ("references", .ref aR), ("limit", .int lim), ("emptied", .ref aE)]) npE.symm (upd_same (H := H6) (a := aE) (o := .lst []))
    have rows7 : ∀ (j : Nat) (row : Rw), j < vs.length → slots[j]? = some (some row) → (upd (upd H6 aE (.lst [])) p (.ins C dx [("slots", .ref Z), ("outside", .ref aO), ("references", .ref aR), ("limit", .int lim), ("emptied", .ref aE)])) (as.getD j 0) = some (.lst (rowV row)) ∧ as.getD j 0 ≠ aE := fun j row hj hjr => by
      have h1 := rows6 j row hj hjr
      exact ⟨lk_ne2 (fun z => by rw [z, hp6] at h1; cases h1) (lk_ne h1 nE), ne_of_none h1 nE⟩
    generalize (upd (upd H6 aE (.lst [])) p (.ins C dx [("slots", .ref Z), ("outside", .ref aO), ("references", .ref aR), ("limit", .int lim), ("emptied", .ref aE)])) = H7 at *
    repeat walk_at "rd"
    rename_i aH nH
    refine x_insS (lk_ne hp7 nH) hC.cl hC.n_shelf (by simp) ?_
    rw [pf6]
    have npH : p ≠ aH := ne_of_none hp7 nH
    have nH0 : H aH = none := k7.fresh (by simpa using npH.symm) nH
    have nSH : Z ≠ aH := ne_of_none eS7 nH
    have nOH : aO ≠ aH := ne_of_none eO7 nH
    have nRH : aR ≠ aH := ne_of_none eR7 nH
    have nEH : aE ≠ aH := ne_of_none eE7 nH
    have k8 := (k7.new (o := .lst []) nH).wr (p := p) (o := .ins C dx [("slots", .ref Z), ("outside", .ref aO), ("references", .ref aR), ("limit", .int lim), ("emptied", .ref aE), ("shelf", .ref aH)]) (.inr (by simp))
    have hp8 : (upd (upd H7 aH (.lst [])) p (.ins C dx [("slots", .ref Z), ("outside", .ref aO), ("references", .ref aR), ("limit", .int lim), ("emptied", .ref aE), ("shelf", .ref aH)])) p = some _ := upd_same
    have eS8 := lk_ne2 (p := p) (o := .ins C dx [("slots", .ref Z), ("outside", .ref aO), ("references", .ref aR), ("limit", .int lim), ("emptied", .ref aE), ("shelf", .ref aH)]) nZp (lk_ne (o := .lst []) eS7 nH)
    have eO8 := lk_ne2 (p := p) (o := .ins C dx [("slots", .ref Z), ("outside", .ref aO), ("references", .ref aR), ("limit", .int lim), ("emptied", .ref aE), ("shelf", .ref aH)]) npO.symm (lk_ne (o := .lst []) eO7 nH)
    have eR8 := lk_ne2 (p := p) (o := .ins C dx [("slots", .ref Z), ("outside", .ref aO), ("references", .ref aR), ("limit", .int lim), ("emptied", .ref aE), ("shelf", .ref aH)]) npR.symm (lk_ne (o := .lst []) eR7 nH)
    have eE8 := lk_ne2 (p := p) (o := .ins C dx [("slots", .ref Z), ("outside", .ref aO), ("references", .ref aR), ("limit", .int lim), ("emptied", .ref aE), ("shelf", .ref aH)]) npE.symm (lk_ne (o := .lst []) eE7 nH)
    have eH8 := lk_ne2 (p := p) (o := .ins C dx [("slots", .ref Z), ("outside", .ref aO), ("references", .ref aR), ("limit", .int lim), ("emptied", .ref aE), ("shelf", .ref aH)]) npH.symm (upd_same (H := H7) (a := aH) (o := .lst []))
    have rows8 : ∀ (j : Nat) (row : Rw), j < vs.length → slots[j]? = some (some row) → (upd (upd H7 aH (.lst [])) p (.ins C dx [("slots", .ref Z), ("outside", .ref aO), ("references", .ref aR), ("limit", .int lim), ("emptied", .ref aE), ("shelf", .ref aH)])) (as.getD j 0) = some (.lst (rowV row)) ∧ as.getD j 0 ≠ aH := fun j row hj hjr => by
      have h1 := (rows7 j row hj hjr).1
      exact ⟨lk_ne2 (fun z => by rw [z, hp7] at h1; cases h1) (lk_ne h1 nH), ne_of_none h1 nH⟩
    generalize (upd (upd H7 aH (.lst [])) p (.ins C dx [("slots", .ref Z), ("outside", .ref aO), ("references", .ref aR), ("limit", .int lim), ("emptied", .ref aE), ("shelf", .ref aH)])) = H8 at *
    repeat walk_at "rd"
    rename_i aV nV
    refine x_insS (lk_ne hp8 nV) hC.cl hC.n_events (by simp) ?_
    rw [pf7]
    have npV : p ≠ aV := ne_of_none hp8 nV
    have nV0 : H aV = none := k8.fresh (by simpa using npV.symm) nV
    have nSV : Z ≠ aV := ne_of_none eS8 nV
    have nOV : aO ≠ aV := ne_of_none eO8 nV
    have nRV : aR ≠ aV := ne_of_none eR8 nV
    have nEV : aE ≠ aV := ne_of_none eE8 nV
    have nHV : aH ≠ aV := ne_of_none eH8 nV
    have k9 := (k8.new (o := .lst []) nV).wr (p := p) (o := .ins C dx (mf Z aO aR lim aE aH aV)) (.inr (by simp))
    subst hfR
    have hl' : ∀ {j : Nat} {row : Rw}, slots[j]? = some (some row) → j < vs.length := fun {j row} hj => by
      have := (List.getElem?_eq_some_iff.mp hj).1
      omega
    refine k _ Z aO aR aE aH aV (fun j => as.getD j 0) ⟨upd_same, fun j row hj => ?_, ?_, ?_, fun i j r r' hi hj he => hin i j r r' (hl' hi) (hl' hj) hi hj he⟩ ⟨Kx.refl _ _, lk_ne2 nZp (lk_ne eS8 nV), lk_ne2 npO.symm (lk_ne eO8 nV), lk_ne2 npR.symm (lk_ne eR8 nV), ⟨[], lk_ne2 npE.symm (lk_ne eE8 nV), .nil⟩, lk_ne2 npH.symm (lk_ne eH8 nV), ⟨[], lk_ne2 npV.symm upd_same, .nil⟩⟩ k9 ?_ (fun i r hi => hfr i r (hl' hi) hi)
    · obtain ⟨h1, h2⟩ := rows8 j row (hl' hj) hj
      obtain ⟨_, g1, g2, g3⟩ := rows5 j row (hl' hj) hj
      have g4 := (rows7 j row (hl' hj) hj).2
      refine ⟨lk_ne2 (fun z => by rw [z, hp8] at h1; cases h1) (lk_ne h1 nV), ?_⟩
      have g5 := ne_of_none h1 nV
      simp only [List.mem_cons, List.not_mem_nil, or_false, not_or]
      exact ⟨g1, g2, g3, g4, h2, g5⟩
    · simp only [List.nodup_cons, List.mem_cons, List.not_mem_nil, or_false, not_or, not_false_eq_true, List.nodup_nil, and_true]
      exact ⟨⟨nSO, nSR, nSE, nSH, nSV⟩, ⟨nOR, nOE, nOH, nOV⟩, ⟨nRE, nRH, nRV⟩, ⟨nEH, nEV⟩, nHV⟩
    · simp only [List.mem_cons, List.not_mem_nil, or_false, not_or]
      exact ⟨nZp.symm, npO, npR, npE, npH, npV⟩
    · intro b hb
      simp only [List.mem_cons, List.not_mem_nil, or_false] at hb
      rcases hb with rfl | rfl | rfl | rfl | rfl | rfl
      · exact nZ
      · exact nO0
      · exact nR0
      · exact nE0
      · exact nH0
      · exact nV0
end


def afterS (slots : List (Option Rw)) (log : List Nat) : List (Option Rw) := (List.range slots.length).map fun i => if i ∈ log then none else (slots[i]?).getD none
def sizesOf (evs : List Ev) : List Int := evs.filterMap Ev.size
/-- the greatest of them, 0 for none -/
def IsPeak (ns : List Int) (k : Int) : Prop := (ns = [] ∧ k = 0) ∨ (k ∈ ns ∧ ∀ b ∈ ns, b ≤ k)
section
variable {P : Program} {w : World} {K : PySem.W.Frag} {mg : Str → Option Value} {base : Heap}

theorem x_maxP {H : Hp} {Q : VK} {a : Addr} {ns : List Int} (h : SqL K H a (ns.map V.int)) (q : ∀ m, IsPeak ns m → Q (.int m) H) : rMaxD K [.ref a] [.int 0] H Q := ⟨a, ns, 0, rfl, rfl, h, fun e => q 0 (.inl ⟨e, rfl⟩), fun m h1 h2 => q m (.inr ⟨h1, h2⟩)⟩
theorem afterS_len (slots : List (Option Rw)) (log : List Nat) : (afterS slots log).length = slots.length := by
  unfold afterS
  rw [List.length_map, List.length_range]
theorem filterMap_take_succ {β : Type} {evs : List Ev} {g : Ev → Option β} {i : Nat} {e : Ev} (h : evs[i]? = some e) : (evs.take (i + 1)).filterMap g = (evs.take i).filterMap g ++ (g e).toList := by
  rw [List.take_add_one, h, List.filterMap_append]
  cases hg : g e <;> simp [hg]
theorem ev_ne {a b : String} (h : ¬ (Str.ofString a = Str.ofString b)) : decide (V.str (Str.ofString a) = V.str (Str.ofString b)) = false := decide_eq_false fun e => h (V.str.inj e)
def spResult (K : PySem.W.Frag) (C : Addr) : Sp := fun vs H Q _ => ∃ (slots : List (Option Rw)) (H1 : Hp) (p dx aS aO aR aE aH aV : Addr) (ra : Nat → Addr) (lim : Int) (outs : List Int) (tf : Nat → Int) (log : List Nat) (evs : List Ev),
  vs = [.ref p] ∧ MS slots C H1 p dx aS aO aR aE aH aV ra lim ∧ MD slots H1 H aS aO aR aE aH aV ra outs tf log [] [] evs ∧ ClR K C ∧ log = evs.filterMap Ev.dead ∧ evs.length ≤ 100000 ∧ slots.length ≤ 40 ∧
  ∀ B L X k H', Kx [] H H' → SqT K H' B [.ref L, .int k, .ref X] → SqT K H' L (log.map fun n : Nat => V.int n) → IsPeak (sizesOf evs) k → HeapT K H' X (afterS slots log) outs → Q (.ref B) H'
theorem ok_result {C : Addr} {f : Addr} {fd : FuncData} (F : Fun K "result" "Releasing.result" sReleasingResult f fd) (T : Txt mg) : FnOk P w K mg base CX0 1 f fd ["self"] (spResult K C) := by
  refine F.ok scReleasingResult (fun vs H Q E h => ?_) (fun cdv A outer s H vs Q E hr h => ?_)
  · obtain ⟨slots, H1, p, dx, aS, aO, aR, aE, aH, aV, ra, lim, outs, tf, log, evs, rfl, _⟩ := h
    rfl
  · obtain ⟨slots, H1, p, dx, aS, aO, aR, aE, aH, aV, ra, lim, outs, tf, log, evs, rfl, ms, md, hC, hlog, hsz, h40, k⟩ := h
    refine ⟨_, (pss_cons (ps_setLc (i := 1) (own := [("event", 4)]) rfl scReleasingResult.nd rfl rfl (sw_true rfl rfl rfl (by decide +kernel)) (pi_list (pe_fld (pv 0) rfl)) (blkOk_by (N := ["self", "log", "peak", "rows", "event", "row"]) (sc := defScope sReleasingResult) (by decide +kernel)) (fun _ _ _ _ _ => (pg_name (i := 4) scReleasingResult.nd rfl (Or.inl rfl))) (fun _ _ _ _ _ => (pts_one (pt_cmpR op_eq (pe_ix (ix_tupK (K := K)) (pv 4) pe_int (fun _ _ => rfl)) pe_str (nomark _)))) (fun _ _ _ _ _ => (pe_ix (ix_tupK (K := K)) (pv 4) pe_int (fun _ _ => rfl))))
      (pss_cons (ps_set (i := 2) scReleasingResult.nd rfl (Or.inl rfl) (pe_callBK (cr_maxD rfl) (by rfl) T.b_max boot'_max (pa_cons (pe_lc (own := [("event", 4)]) rfl scReleasingResult.nd (pi_list (pe_fld (pv 0) rfl)) (blkOk_by (N := ["self", "log", "peak", "rows", "event", "row"]) (sc := defScope sReleasingResult) (by decide +kernel)) (fun _ _ _ _ _ => (pg_name (i := 4) scReleasingResult.nd rfl (Or.inl rfl))) (fun _ _ _ _ _ => (pts_one (pt_cmpR op_eq (pe_ix (ix_tupK (K := K)) (pv 4) pe_int (fun _ _ => rfl)) pe_str (nomark _)))) (fun _ _ _ _ _ => (pe_ix (ix_tupK (K := K)) (pv 4) pe_int (fun _ _ => rfl)))) pa_nil) (pk_cons pe_int pk_nil)))
      (pss_cons (ps_setLc (i := 3) (own := [("row", 5)]) rfl scReleasingResult.nd rfl rfl (sw_true rfl rfl rfl (by decide +kernel)) (pi_list (pe_fld (pv 0) rfl)) (blkOk_by (N := ["self", "log", "peak", "rows", "event", "row"]) (sc := defScope sReleasingResult) (by decide +kernel)) (fun _ _ _ _ _ => (pg_name (i := 5) scReleasingResult.nd rfl (Or.inl rfl))) (fun _ _ _ _ _ => pts_nil) (fun _ _ _ _ _ => (pe_ifExp (pt_cmpR op_isN1 (pv 5) pe_non (nomark _)) pe_non (pe_callTy (call_tuple_ofK (K := K)) (by rfl) T.b_tuple boot'_tuple (pa_cons (pv 5) pa_nil)))))
      (pss_one (ps_ret (pe_tup (pa_cons (pe_callTy call_tuple_of (by rfl) T.b_tuple boot'_tuple (pa_cons (pv 1) pa_nil)) (pa_cons (pv 2) (pa_cons (pe_tup (pa_cons (pe_callTy call_tuple_of (by rfl) T.b_tuple boot'_tuple (pa_cons (pv 3) pa_nil)) (pa_cons (pe_callTy call_tuple_of (by rfl) T.b_tuple boot'_tuple (pa_cons (pe_fld (pv 0) rfl) pa_nil)) pa_nil))) pa_nil))))))))), ?_⟩
    refine x_start (σ' := [some (.ref p), none, none, none, none, none]) rfl ?_
    dsimp only [cxOf]
    have hins := md.k _ _ ms.pW ms.ins
    obtain ⟨us, eV, tV⟩ := md.eV
    have hul : us.length = evs.length := by rw [tV.len, List.length_map]
    repeat walk_at "rd"
    refine y_lcL (xs := us.map V.ref) (SqL.of eV) (fun Z nZ => ⟨fun i H2 => Kx [] H H2 ∧ H2 Z = some (.lst (((evs.take i).filterMap Ev.dead).map fun n : Nat => V.int n)), ⟨(Kx.refl _ _).new nZ, upd_same⟩, ?_, ?_, ?_⟩)
    · rintro i H2 hi ⟨k2, _⟩
      exact k2.sqL (by simp) (SqL.of eV)
    · rintro i x H2 H2' hi ⟨k2, e2⟩ ⟨rfl, hx⟩
      rw [List.length_map] at hi
      have hie : i < evs.length := by omega
      have ee := List.getElem?_eq_getElem hie
      obtain ⟨t, et, ht⟩ := tV.at_ i (evV evs[i]) (by rw [List.getElem?_map, ee]; rfl)
      rw [List.getElem?_map, et] at hx
      cases Option.some.inj hx
      have ht2 := k2 t _ (by simp) ht
      have hf := filterMap_take_succ (g := Ev.dead) ee
      have hz : (((evs.take i).filterMap Ev.dead).map fun n : Nat => V.int n).length < sizeLine := big_line (by
        rw [List.length_map]
        refine Nat.le_trans (List.length_filterMap_le _ _) ?_
        rw [List.length_take]
        omega)
      cases hev : evs[i] with
      | destroy n d =>
        rw [hev] at ht2 hf
        replace ht2 : H2' t = some (.tup [.str "destroy", .int n, .int d]) := ht2
        repeat walk_at "rd"
        refine ⟨rfl, ?_⟩
        repeat walk_at "rd"
        refine iteP (by simp) ?_
        repeat walk_at "rd"
        refine ⟨_, e2, hz, k2.wr (.inl nZ), ?_⟩
        rw [upd_same, hf, List.map_append]
        rfl
      | release h s n l =>
        rw [hev] at ht2 hf
        replace ht2 : H2' t = some (.tup [.str "release", optV h, optV s, .int n, .int l]) := ht2
        repeat walk_at "rd"
        refine ⟨rfl, ?_⟩
        repeat walk_at "rd"
        refine iteN (ev_ne (by decide)) ⟨k2, ?_⟩
        rw [hf]
        simpa [Ev.dead] using e2
      | shelve n s =>
        rw [hev] at ht2 hf
        replace ht2 : H2' t = some (.tup [.str "shelve", .int n, .int s]) := ht2
        repeat walk_at "rd"
        refine ⟨rfl, ?_⟩
        repeat walk_at "rd"
        refine iteN (ev_ne (by decide)) ⟨k2, ?_⟩
        rw [hf]
        simpa [Ev.dead] using e2
      | take n s =>
        rw [hev] at ht2 hf
        replace ht2 : H2' t = some (.tup [.str "take", .int n, .int s]) := ht2
        repeat walk_at "rd"
        refine ⟨rfl, ?_⟩
        repeat walk_at "rd"
        refine iteN (ev_ne (by decide)) ⟨k2, ?_⟩
        rw [hf]
        simpa [Ev.dead] using e2
    rintro H2 ⟨k2, eZ⟩
    rw [List.length_map, hul, List.take_length, ← hlog] at eZ
    have md2 := md.keep k2
    have hins2 := k2 p _ (by simp) hins
    have eV2 := k2 aV _ (by simp) eV
    have tV2 := tV.kx k2 (by simp)
    repeat walk_at "rd"
    have md3 := md2
    refine y_lcL (xs := us.map V.ref) (SqL.of eV2) (fun W nW => ⟨fun i H3 => Kx [] H2 H3 ∧ H3 W = some (.lst (((evs.take i).filterMap Ev.size).map V.int)), ⟨(Kx.refl _ _).new nW, upd_same⟩, ?_, ?_, ?_⟩)
    · rintro i H3 hi ⟨k3, _⟩
      exact k3.sqL (by simp) (SqL.of eV2)
    · rintro i x H3 H3' hi ⟨k3, e3⟩ ⟨rfl, hx⟩
      rw [List.length_map] at hi
      have hie : i < evs.length := by omega
      have ee := List.getElem?_eq_getElem hie
      obtain ⟨t, et, ht⟩ := tV2.at_ i (evV evs[i]) (by rw [List.getElem?_map, ee]; rfl)
      rw [List.getElem?_map, et] at hx
      cases Option.some.inj hx
      have ht2 := k3 t _ (by simp) ht
      have hf := filterMap_take_succ (g := Ev.size) ee
      have hz : (((evs.take i).filterMap Ev.size).map V.int).length < sizeLine := big_line (by
        rw [List.length_map]
        refine Nat.le_trans (List.length_filterMap_le _ _) ?_
        rw [List.length_take]
        omega)
      cases hev : evs[i] with
      | destroy n d =>
        rw [hev] at ht2 hf
        replace ht2 : H3' t = some (.tup [.str "destroy", .int n, .int d]) := ht2
        repeat walk_at "rd"
        refine ⟨rfl, ?_⟩
        repeat walk_at "rd"
        refine iteN (ev_ne (by decide)) ⟨k3, ?_⟩
        rw [hf]
        simpa [Ev.size] using e3
      | release h s n l =>
        rw [hev] at ht2 hf
        replace ht2 : H3' t = some (.tup [.str "release", optV h, optV s, .int n, .int l]) := ht2
        repeat walk_at "rd"
        refine ⟨rfl, ?_⟩
        repeat walk_at "rd"
        refine iteN (ev_ne (by decide)) ⟨k3, ?_⟩
        rw [hf]
        simpa [Ev.size] using e3
      | shelve n s =>
        rw [hev] at ht2 hf
        replace ht2 : H3' t = some (.tup [.str "shelve", .int n, .int s]) := ht2
        repeat walk_at "rd"
        refine ⟨rfl, ?_⟩
        repeat walk_at "rd"
        refine iteP (by simp) ?_
        repeat walk_at "rd"
        refine ⟨_, e3, hz, k3.wr (.inl nW), ?_⟩
        rw [upd_same, hf, List.map_append]
        rfl
      | take n s =>
        rw [hev] at ht2 hf
        replace ht2 : H3' t = some (.tup [.str "take", .int n, .int s]) := ht2
        repeat walk_at "rd"
        refine ⟨rfl, ?_⟩
        repeat walk_at "rd"
        refine iteN (ev_ne (by decide)) ⟨k3, ?_⟩
        rw [hf]
        simpa [Ev.size] using e3
    rintro H3 ⟨k3, eW⟩
    rw [List.length_map, hul, List.take_length] at eW
    replace eW : H3 W = some (.lst ((sizesOf evs).map V.int)) := eW
    have k03 := k2.trans k3
    have md3 := md2.keep k3
    have hins3 := k3 p _ (by simp) hins2
    have eZ3 := k3 Z _ (by simp) eZ
    have eS3 := md3.eS
    repeat walk_at "rd"
    refine x_maxP (SqL.of eW) fun pk hpk => ?_
    repeat walk_at "rd"
    refine y_lcL (SqL.of eS3) (fun Y nY => ⟨fun i H4 => Kx [] H3 H4 ∧ ∃ bs : List Addr, bs.length = i ∧ H4 Y = some (.lst ((List.range i).map (slotR slots (fun j => bs.getD j 0) log))) ∧
      ∀ (j : Nat) (row : Rw), j < i → slots[j]? = some (some row) → j ∉ log → H4 (bs.getD j 0) = some (.tup (rowV row)), ⟨(Kx.refl _ _).new nY, [], rfl, upd_same, fun j row hj => absurd hj (Nat.not_lt_zero _)⟩, ?_, ?_, ?_⟩)
    · rintro i H4 hi ⟨k4, _⟩
      exact k4.sqL (by simp) (SqL.of eS3)
    · rintro i x H4 H4' hi ⟨k4, bs, hb, e4, hr4⟩ ⟨rfl, hx⟩
      rw [List.length_map, List.length_range] at hi
      rw [List.getElem?_map, List.getElem?_range hi] at hx
      cases Option.some.inj hx
      have es := List.getElem?_eq_getElem hi
      have grow : ∀ a : Addr, (List.range (i + 1)).map (slotR slots (fun j => (bs ++ [a]).getD j 0) log) = (List.range i).map (slotR slots (fun j => bs.getD j 0) log) ++ [slotR slots (fun _ => a) log i] := by
        intro a
        rw [List.range_succ, List.map_append]
        congr 1
        · refine List.map_congr_left fun j hj => ?_
          have := List.mem_range.mp hj
          unfold slotR
          simp only [List.getD_eq_getElem?_getD]
          rw [List.getElem?_append_left (by omega)]
        · simp only [List.map_cons, List.map_nil]
          unfold slotR
          simp only [List.getD_eq_getElem?_getD]
          rw [List.getElem?_append_right (by omega), hb, Nat.sub_self]
          rfl
      have gold : ∀ (a : Addr) (j : Nat), j < i → (bs ++ [a]).getD j 0 = bs.getD j 0 := by
        intro a j hj
        simp only [List.getD_eq_getElem?_getD]
        rw [List.getElem?_append_left (by omega)]
      have gnew : ∀ a : Addr, (bs ++ [a]).getD i 0 = a := by
        intro a
        simp only [List.getD_eq_getElem?_getD]
        rw [List.getElem?_append_right (by omega), hb, Nat.sub_self]
        rfl
      by_cases hlv : isLive slots i = true ∧ i ∉ log
      · obtain ⟨row, er, _⟩ := live_lt hlv.1
        obtain ⟨hr1, hrW⟩ := ms.rows i row er
        have hrow : H4' (ra i) = some (.lst (rowV row)) := k4 _ _ (by simp) (md3.k _ _ hrW hr1)
        rw [show slotR slots ra log i = V.ref (ra i) by unfold slotR; rw [if_pos hlv]]
        repeat walk_at "rd"
        refine ⟨rfl, ?_⟩
        repeat walk_at "rd"
        refine iteF ?_
        repeat walk_at "rd"
        intro a na
        have naY : a ≠ Y := (ne_of_none e4 na).symm
        refine ⟨_, lk_ne e4 na, small1000 (by rw [List.length_map, List.length_range]; omega), (k4.new na).wr (.inl nY), bs ++ [a], by rw [List.length_append, hb]; rfl, ?_, ?_⟩
        · rw [upd_same, grow, show slotR slots (fun _ => a) log i = V.ref a by unfold slotR; rw [if_pos hlv]]
        · intro j row' hj hjr hjl
          by_cases hji : j = i
          · subst hji
            rw [er] at hjr
            cases Option.some.inj (Option.some.inj hjr)
            rw [gnew]
            exact lk_ne2 naY upd_same
          · rw [gold _ _ (by omega)]
            have h1 := hr4 j row' (by omega) hjr hjl
            exact lk_ne2 (fun z => by rw [z, e4] at h1; cases h1) (lk_ne h1 na)
      · rw [show slotR slots ra log i = V.non by unfold slotR; rw [if_neg hlv]]
        repeat walk_at "rd"
        refine ⟨rfl, ?_⟩
        repeat walk_at "rd"
        refine ⟨_, e4, small1000 (by rw [List.length_map, List.length_range]; omega), k4.wr (.inl nY), bs ++ [0], by rw [List.length_append, hb]; rfl, ?_, ?_⟩
        · rw [upd_same, grow, show slotR slots (fun _ => 0) log i = V.non by unfold slotR; rw [if_neg hlv]]
        · intro j row' hj hjr hjl
          by_cases hji : j = i
          · subst hji
            exact absurd ⟨by simp [isLive, hjr], hjl⟩ hlv
          · rw [gold _ _ (by omega)]
            have h1 := hr4 j row' (by omega) hjr hjl
            exact lk_ne2 (fun z => by rw [z, e4] at h1; cases h1) h1
    rintro H4 ⟨k4, bs, hb, eY, hrows⟩
    rw [List.length_map, List.length_range] at eY hrows
    have k04 := k03.trans k4
    have md4 := md3.keep k4
    have hins4 := k4 p _ (by simp) hins3
    have eZ4 := k4 Z _ (by simp) eZ3
    have eO4 := md4.eO
    repeat walk_at "rd"
    intro L nL
    repeat walk_at "rd"
    intro S' nS
    repeat walk_at "rd"
    intro O' nO
    repeat walk_at "rd"
    rename_i X nX B nB
    have kf : Kx [] H4 (upd (upd (upd (upd (upd H4 L (.tup (log.map fun n : Nat => V.int n))) S' (.tup ((List.range slots.length).map (slotR slots (fun j => bs.getD j 0) log)))) O' (.tup (outs.map V.int))) X (.tup [.ref S', .ref O'])) B (.tup [.ref L, .int pk, .ref X])) :=
      (((((Kx.refl [] H4).new nL).new nS).new nO).new nX).new nB
    refine k B L X pk _ (k04.trans kf) (SqT.of upd_same) (SqT.of (by walk_at "lk")) hpk ⟨S', O', _, SqT.of (by walk_at "lk"), SqT.of (by walk_at "lk"), SqT.of (by walk_at "lk"), by rw [afterS_len, List.length_map, List.length_range], fun i o ho => ?_⟩
    have hi : i < slots.length := by
      have := (List.getElem?_eq_some_iff.mp ho).1
      rwa [afterS_len] at this
    unfold afterS at ho
    rw [List.getElem?_map, List.getElem?_range hi] at ho
    cases Option.some.inj ho
    rw [List.getElem?_map, List.getElem?_range hi]
    simp only [Option.map_some]
    rw [List.getElem?_eq_getElem hi]
    simp only [Option.getD_some]
    by_cases hl : i ∈ log
    · refine .inl ⟨if_pos hl, ?_⟩
      unfold slotR
      rw [if_neg (fun z => z.2 hl)]
    · rw [if_neg hl]
      cases e : slots[i] with
      | none =>
        refine .inl ⟨rfl, ?_⟩
        unfold slotR
        rw [if_neg (fun z => by have := z.1; simp [isLive, List.getElem?_eq_getElem hi, e] at this)]
      | some row =>
        have er : slots[i]? = some (some row) := by rw [List.getElem?_eq_getElem hi, e]
        refine .inr ⟨bs.getD i 0, row, rfl, ?_, SqT.of (kf _ _ (by simp) (hrows i row hi er hl))⟩
        unfold slotR
        rw [if_pos ⟨by simp [isLive, er], hl⟩]
/-- the function drop -/
def spDrop (K : PySem.W.Frag) : Sp := fun vs H Q _ => ∃ (D : Addr) (slots : List (Option Rw)) (outs : List Int) (n : Nat) (z lim : Int), vs = [.ref D, .int n, .int lim] ∧ HeapT K H D slots outs ∧ Wf slots outs ∧ isLive slots n = true ∧ outs[n]? = some z ∧ 1 ≤ z ∧ 0 < lim ∧
  ∀ B L X k s' H', Kx [] H H' → SqT K H' B [.ref L, .int k, .ref X] → SqT K H' L (s'.log.map fun n : Nat => V.int n) → Steps slots (outs.set n (z - 1)) lim ⟨[⟨none, none, n, 0⟩], [], []⟩ s' → s'.pend = [] → s'.shelf = [] → IsPeak (sizesOf s'.evs) k → HeapT K H' X (afterS slots s'.log) (outs.set n (z - 1)) → Q (.ref B) H'
theorem left_nil_le {slots : List (Option Rw)} (h40 : slots.length ≤ 40) (hr : ∀ row, some row ∈ slots → row.length ≤ 40) : left slots [] ≤ 40 * 42 := by
  unfold left
  have : ∀ n, n ≤ slots.length → ((List.range n).map fun h => if h ∈ ([] : List Nat) then 0 else (rowOf slots h).length + 2).sum ≤ n * 42 := by
    intro n
    induction n with
    | zero => intro _; simp
    | succ n ih =>
      intro hn
      rw [List.range_succ, List.map_append, List.sum_append]
      have h1 := ih (by omega)
      have h2 : (rowOf slots n).length ≤ 40 := by
        unfold rowOf
        cases e : slots[n]? with
        | none => simp
        | some o =>
          cases o with
          | none => simp
          | some row => exact hr row (List.mem_of_getElem? e)
      simp only [List.not_mem_nil, if_false, List.map_cons, List.map_nil, List.sum_cons, List.sum_nil] at h1 ⊢
      omega
  have := this slots.length (Nat.le_refl _)
  omega
def spRun (K : PySem.W.Frag) (C : Addr) : Sp := fun vs H Q _ => ∃ (D : Addr) (slots : List (Option Rw)) (outs : List Int) (n : Nat) (z lim : Int), vs = [.ref D, .int n, .int lim] ∧ HeapT K H D slots outs ∧ Wf slots outs ∧ isLive slots n = true ∧ outs[n]? = some z ∧ 1 ≤ z ∧ 0 < lim ∧
  ∀ p dx aS aO aR aE aH aV ra H2 H3 s', MS slots C H2 p dx aS aO aR aE aH aV ra lim → MD slots H2 H3 aS aO aR aE aH aV ra (outs.set n (z - 1)) (tal slots (outs.set n (z - 1)) s'.log []) s'.log [] [] s'.evs → Steps slots (outs.set n (z - 1)) lim ⟨[⟨none, none, n, 0⟩], [], []⟩ s' → s'.pend = [] → s'.shelf = [] → Wk slots (outs.set n (z - 1)) s' → Kx [] H H3 → H p = none → Q (.ref p) H3
theorem ok_run {C : Addr} {f : Addr} {fd : FuncData} (F : Fun K "run_drop" "run_drop" sRunDrop f fd) (T : Txt mg) (hC : ClR K C) (cR : Cls K C) (l_need_reference : Lo P w K mg base "need_reference" 5 ["heap", "node"] (spNeedRef K)) (n_Releasing : Ln P w K mg base C "Releasing" 3 ["self", "heap", "limit"] (spMInit K C))
    (m_drop : Lm P w K mg base C "drop" 4 ["self", "node"] (spMDrop K C)) : FnOk P w K mg base CX0 6 f fd ["heap", "node", "limit"] (spRun K C) := by
  refine F.ok scRunDrop (fun vs H Q E h => ?_) (fun cdv A outer s H vs Q E hr h => ?_)
  · obtain ⟨D, slots, outs, n, z, lim, rfl, _⟩ := h
    rfl
  · obtain ⟨D, slots, outs, n, z, lim, rfl, hT, wf, hl, hz, h1, hlim, k⟩ := h
    refine ⟨_, (pss_cons (ps_expr (pe_lo l_need_reference (hr.mono (by decide)) (by rfl) (pa_cons (pv 0) (pa_cons (pv 1) pa_nil))))
      (pss_cons (ps_set (i := 3) scRunDrop.nd rfl (Or.inl rfl) (pe_ln n_Releasing (hr.mono (by decide)) (by rfl) (pa_cons (pv 0) (pa_cons (pv 2) pa_nil))))
      (pss_cons (ps_expr (pe_lm m_drop cR (hr.mono (by decide)) (pv 3) (pa_cons (pv 1) pa_nil)))
      (pss_one (ps_ret (pv 3)))))), ?_⟩
    refine x_start (σ' := [some (.ref D), some (.int n), some (.int lim), none]) rfl ?_
    try dsimp only [cxOf]
    repeat walk_at "rd"
    refine ⟨D, slots, outs, n, z, rfl, hT, hl, wf.most, hz, h1, ?_⟩
    repeat walk_at "rd"
    intro p dx np ndx ndp
    have np2 : (upd H dx (.own p)) p = none := by rw [upd_ne ndp.symm]; exact np
    have kk : Kx [] H (upd (upd H dx (.own p)) p (.ins C dx [])) := ((Kx.refl [] H).new ndx).new np2
    refine ⟨p, dx, D, slots, outs, lim, rfl, upd_same, hT.keep kk, wf, hC, fun H2 aS aO aR aE aH aV ra ms md k2 hnew _ => ⟨rfl, ?_⟩⟩
    have hins := ms.ins
    have hlog0 : FS.log ⟨[], [], []⟩ = [] := rfl
    have hmu : FS.mu slots ⟨[], [], []⟩ ≤ 40 * 42 := left_nil_le wf.most wf.row
    have wk : Wk slots outs ⟨[], [], []⟩ := ⟨⟨fun q hq => absurd hq (by simp), List.nodup_nil, fun m hm => absurd hm (by simp [hlog0]), fun m hm => absurd hm (by simp [hlog0])⟩, fun z hz => (wf.outs z hz).1, wf.live, wf.row, wf.most, by show 0 + 2 * FS.mu slots ⟨[], [], []⟩ ≤ 90000; omega⟩
    repeat walk_at "rd"
    refine ⟨slots, H2, p, dx, aS, aO, aR, aE, aH, aV, ra, lim, outs, ⟨[], [], []⟩, n, z, rfl, ms, md, hC, wk, rfl, rfl, wf.len, hz, h1, hl, by show 0 + 2 * FS.mu slots ⟨[], [], []⟩ ≤ 89000; omega, hlim, fun s' H3 hs hp he wk' md' => ?_⟩
    repeat walk_at "rd"
    refine k p dx aS aO aR aE aH aV ra H2 H3 s' ms md' hs hp he wk' (fun b o hb e => ?_) np
    have e1 := kk b o hb e
    have e2 := k2 b o (fun h => by rw [List.mem_singleton.mp h, np] at e; cases e) e1
    exact md'.k b o (fun h => by rw [hnew b h] at e1; cases e1) e2
theorem ok_drop {C : Addr} {f : Addr} {fd : FuncData} (F : Fun K "drop" "drop" sDrop f fd) (T : Txt mg) (hC : ClR K C) (cR : Cls K C) (l_run_drop : Lo P w K mg base "run_drop" 6 ["heap", "node", "limit"] (spRun K C)) (m_result : Lm P w K mg base C "result" 1 ["self"] (spResult K C)) : FnOk P w K mg base CX0 7 f fd ["heap", "node", "limit"] (spDrop K) := by
  refine F.ok scDrop (fun vs H Q E h => ?_) (fun cdv A outer s H vs Q E hr h => ?_)
  · obtain ⟨D, slots, outs, n, z, lim, rfl, _⟩ := h
    rfl
  · obtain ⟨D, slots, outs, n, z, lim, rfl, hT, wf, hl, hz, h1, hlim, k⟩ := h
    refine ⟨_, (pss_one (ps_ret (pe_lm0 m_result cR (hr.mono (by decide)) (pe_lo l_run_drop (hr.mono (by decide)) (by rfl) (pa_cons (pv 0) (pa_cons (pv 1) (pa_cons (pv 2) pa_nil))))))), ?_⟩
    refine x_start (σ' := [some (.ref D), some (.int n), some (.int lim)]) rfl ?_
    try dsimp only [cxOf]
    repeat walk_at "rd"
    refine ⟨D, slots, outs, n, z, lim, rfl, hT, wf, hl, hz, h1, hlim, fun p dx aS aO aR aE aH aV ra H2 H3 s' ms md' hs hp he wk' k3 np => ?_⟩
    have hins3 := md'.k _ _ ms.pW ms.ins
    have hsz := wk'.sz
    repeat walk_at "rd"
    refine ⟨slots, H2, p, dx, aS, aO, aR, aE, aH, aV, ra, lim, outs.set n (z - 1), _, s'.log, s'.evs, rfl, ms, md', hC, rfl, by omega, wf.most, fun B L X pk H4 k4 hB hL hpk hX => ?_⟩
    repeat walk_at "rd"
    exact k B L X pk s' H4 (k3.trans k4) hB hL hs hp he hpk hX
end

section
variable {P : Program} {w : World} {K : PySem.W.Frag} {mg : Str → Option Value} {base : Heap}
/-- the function trace -/
def spTrace (K : PySem.W.Frag) : Sp := fun vs H Q _ => ∃ (D : Addr) (slots : List (Option Rw)) (outs : List Int) (n : Nat) (z lim : Int), vs = [.ref D, .int n, .int lim] ∧ HeapT K H D slots outs ∧ Wf slots outs ∧ isLive slots n = true ∧ outs[n]? = some z ∧ 1 ≤ z ∧ 0 < lim ∧
  ∀ E us s' H', H E = none → Kx [] H H' → H' E = some (.lst (us.map V.ref)) → TupsAt H' us (s'.evs.map evV) → Steps slots (outs.set n (z - 1)) lim ⟨[⟨none, none, n, 0⟩], [], []⟩ s' → s'.pend = [] → s'.shelf = [] → Wk slots (outs.set n (z - 1)) s' → Q (.ref E) H'
theorem ok_trace {C : Addr} {f : Addr} {fd : FuncData} (F : Fun K "trace" "trace" sTrace f fd) (T : Txt mg) (hC : ClR K C) (cR : Cls K C) (l_run_drop : Lo P w K mg base "run_drop" 6 ["heap", "node", "limit"] (spRun K C)) : FnOk P w K mg base CX0 7 f fd ["heap", "node", "limit"] (spTrace K) := by
  refine F.ok scTrace (fun vs H Q E h => ?_) (fun cdv A outer s H vs Q E hr h => ?_)
  · obtain ⟨D, slots, outs, n, z, lim, rfl, _⟩ := h
    rfl
  · obtain ⟨D, slots, outs, n, z, lim, rfl, hT, wf, hl, hz, h1, hlim, k⟩ := h
    refine ⟨_, (pss_one (ps_ret (pe_callTy call_list_of (by rfl) T.b_list boot'_list (pa_cons (pe_fld (pe_lo l_run_drop (hr.mono (by decide)) (by rfl) (pa_cons (pv 0) (pa_cons (pv 1) (pa_cons (pv 2) pa_nil)))) rfl) pa_nil)))), ?_⟩
    refine x_start (σ' := [some (.ref D), some (.int n), some (.int lim)]) rfl ?_
    try dsimp only [cxOf]
    repeat walk_at "rd"
    refine ⟨D, slots, outs, n, z, lim, rfl, hT, wf, hl, hz, h1, hlim, fun p dx aS aO aR aE aH aV ra H2 H3 s' ms md' hs hp he wk' k3 np => ?_⟩
    have hins3 := md'.k _ _ ms.pW ms.ins
    obtain ⟨us, eV, tV⟩ := md'.eV
    repeat walk_at "rd"
    intro E nE
    exact k E us s' _ (k3.fresh (by simp) nE) (k3.new nE) upd_same (tV.new nE) hs hp he wk'
end

local macro_rules | `(tactic| walk_at "ml") => `(tactic| exact mf_put ..) --keep
section
variable {P : Program} {w : World} {K : PySem.W.Frag} {mg : Str → Option Value} {base : Heap}
theorem wk_zero {slots : List (Option Rw)} {outs : List Int} {b : Int} (wf : WfB b slots outs) : Wk slots outs ⟨[], [], []⟩ := by
  have hlog0 : FS.log ⟨[], [], []⟩ = [] := rfl
  have hmu : FS.mu slots ⟨[], [], []⟩ ≤ 40 * 42 := left_nil_le wf.most wf.row
  exact ⟨⟨fun q hq => absurd hq (by simp), List.nodup_nil, fun m hm => absurd hm (by simp [hlog0]), fun m hm => absurd hm (by simp [hlog0])⟩, fun z hz => (wf.outs z hz).1, wf.live, wf.row, wf.most, by show 0 + 2 * FS.mu slots ⟨[], [], []⟩ ≤ 90000; omega⟩
/-- set_slot -/
def spSet (K : PySem.W.Frag) : Sp := fun vs H Q _ => ∃ (D : Addr) (slots : List (Option Rw)) (outs : List Int) (node j : Nat) (row : Rw) (tgt : Option Nat) (lim : Int) (hj : j < row.length), vs = [.ref D, .int node, .int j, slotV tgt, .int lim] ∧ HeapT K H D slots outs ∧ Wf slots outs ∧ slots[node]? = some (some row) ∧ (∀ t, tgt = some t → isLive slots t = true) ∧ 0 < lim ∧
  ∀ B L X k s' H', Kx [] H H' → SqT K H' B [.ref L, .int k, .ref X] → SqT K H' L (s'.log.map fun n : Nat => V.int n) → (match row[j] with | none => s' = ⟨[], [], []⟩ | some q => Wk (putS slots node j tgt) outs ⟨[⟨none, none, q, 0⟩], [], []⟩ ∧ Steps (putS slots node j tgt) outs lim ⟨[⟨none, none, q, 0⟩], [], []⟩ s') → s'.pend = [] → s'.shelf = [] → Wk (putS slots node j tgt) outs s' → IsPeak (sizesOf s'.evs) k → HeapT K H' X (afterS (putS slots node j tgt) s'.log) outs → Q (.ref B) H'
def spRunPut (K : PySem.W.Frag) (C : Addr) : Sp := fun vs H Q _ => ∃ (D : Addr) (slots : List (Option Rw)) (outs : List Int) (node j : Nat) (row : Rw) (tgt : Option Nat) (lim : Int) (hj : j < row.length), vs = [.ref D, .int node, .int j, slotV tgt, .int lim] ∧ HeapT K H D slots outs ∧ Wf slots outs ∧ slots[node]? = some (some row) ∧ (∀ t, tgt = some t → isLive slots t = true) ∧ 0 < lim ∧
  ∀ slots1 H1 p dx aS aO aR aE aH aV ra tf s' H3, MS slots1 C H1 p dx aS aO aR aE aH aV ra lim → MD slots1 H1 H3 aS aO aR aE aH aV ra outs tf s'.log [] [] s'.evs → slots1 = putS slots node j tgt → (match row[j] with | none => s' = ⟨[], [], []⟩ | some q => Wk (putS slots node j tgt) outs ⟨[⟨none, none, q, 0⟩], [], []⟩ ∧ Steps (putS slots node j tgt) outs lim ⟨[⟨none, none, q, 0⟩], [], []⟩ s') → s'.pend = [] → s'.shelf = [] → Wk (putS slots node j tgt) outs s' → Kx [] H H3 → Q (.ref p) H3
theorem ok_runPut {C : Addr} {f : Addr} {fd : FuncData} (F : Fun K "run_put" "run_put" sRunPut f fd) (T : Txt mg) (hC : ClR K C) (cR : Cls K C) (l_need_live : Lo P w K mg base "need_live" 4 ["heap", "node"] (spNeedLive K)) (l_is_between : Lo P w K mg base "is_between" 2 ["value", "low", "high"] spBetween) (l_is_live : Lo P w K mg base "is_live" 3 ["heap", "value"] (spIsLive K))
    (n_Releasing : Ln P w K mg base C "Releasing" 3 ["self", "heap", "limit"] (spMInit K C)) (m_put : Lm P w K mg base C "put" 5 ["self", "node", "slot", "target"] (spPut K C)) : FnOk P w K mg base CX0 6 f fd ["heap", "node", "slot", "target", "limit"] (spRunPut K C) := by
  refine F.ok scRunPut (fun vs H Q E h => ?_) (fun cdv A outer s H vs Q E hr h => ?_)
  · obtain ⟨D, slots, outs, node, j, row, tgt, lim, hj, rfl, _⟩ := h
    rfl
  · obtain ⟨D, slots, outs, node, j, row, tgt, lim, hj, rfl, hT, wf, er, ht, hlim, k⟩ := h
    obtain ⟨S, O, vs, hD, hS, hO, hvl, hv⟩ := id hT.ex
    have hlv : isLive slots node = true := by simp [isLive, er]
    have hmu : FS.mu slots ⟨[], [], []⟩ ≤ 40 * 42 := left_nil_le wf.most wf.row
    have h40 := wf.row row (List.mem_of_getElem? er)
    rcases hv node _ er with ⟨e', _⟩ | ⟨r, row', e', zr, hR⟩
    · cases e'
    cases Option.some.inj e'
    have hatS : atI vs (node : Int) = some (V.ref r) := atI_nat zr
    have hrl : (rowV row).length = row.length := by unfold rowV; exact List.length_map _
    refine ⟨_, (pss_cons (ps_expr (pe_lo l_need_live (hr.mono (by decide)) (by rfl) (pa_cons (pv 0) (pa_cons (pv 1) pa_nil))))
      (pss_cons (ps_if (pt_not (pt_val (pe_lo l_is_between (hr.mono (by decide)) (by rfl) (pa_cons (pv 2) (pa_cons pe_int (pa_cons (pe_op op_sub (pe_callB call_len_seq (by rfl) T.b_len boot'_len (pa_cons (pe_ix ix_tup (pe_ix ix_tup (pv 0) pe_int (fun _ _ => rfl)) (pv 1) (fun _ _ => rfl)) pa_nil)) pe_int) pa_nil)))))) (pss_one ps_never) pss_nil)
      (pss_cons (ps_if ((pw_and (pt_cmpR op_notN1 (pv 3) pe_non (nomark _)) (pw_and1 (pt_not (pt_val (pe_lo l_is_live (hr.mono (by decide)) (by rfl) (pa_cons (pv 0) (pa_cons (pv 3) pa_nil)))))))).pt (pss_one ps_never) pss_nil)
      (pss_cons (ps_set (i := 5) scRunPut.nd rfl (Or.inl rfl) (pe_ln n_Releasing (hr.mono (by decide)) (by rfl) (pa_cons (pv 0) (pa_cons (pv 4) pa_nil))))
      (pss_cons (ps_expr (pe_lm m_put cR (hr.mono (by decide)) (pv 5) (pa_cons (pv 1) (pa_cons (pv 2) (pa_cons (pv 3) pa_nil)))))
      (pss_one (ps_ret (pv 5)))))))), ?_⟩
    refine x_start (σ' := [some (.ref D), some (.int node), some (.int j), some (slotV tgt), some (.int lim), none]) rfl ?_
    try dsimp only [cxOf]
    repeat walk_at "rd"
    refine ⟨D, slots, outs, node, rfl, hT, hlv, wf.most, ?_⟩
    repeat walk_at "rd"
    rw [hrl]
    refine ⟨j, 0, (row.length : Int) - 1, rfl, by omega, by omega, ?_⟩
    repeat walk_at "rd"
    refine iteF ?_
    repeat walk_at "rd"
    cases tgt with
    | none =>
      refine iteF ?_
      repeat walk_at "rd"
      intro p dx np ndx ndp
      have np2 : (upd H dx (.own p)) p = none := by rw [upd_ne ndp.symm]; exact np
      have kk : Kx [] H (upd (upd H dx (.own p)) p (.ins C dx [])) := ((Kx.refl [] H).new ndx).new np2
      refine ⟨p, dx, D, slots, outs, lim, rfl, upd_same, hT.keep kk, wf, hC, fun H2 aS aO aR aE aH aV ra ms md k2 hnew hra => ⟨rfl, ?_⟩⟩
      have hins := ms.ins
      repeat walk_at "rd"
      refine ⟨slots, H2, p, dx, aS, aO, aR, aE, aH, aV, ra, lim, outs, ⟨[], [], []⟩, node, j, row, none, hj, rfl, ms, md, hC, wk_zero wf, rfl, rfl, wf.len, er, by simp [FS.log], fun t e => ⟨ht t e, by simp [FS.log]⟩, by show 0 + 2 * FS.mu slots ⟨[], [], []⟩ ≤ 89000; omega, hlim, fun s' H3 H4 kx3 ms3 md3 wk3 hp3 he3 hst => ?_⟩
      repeat walk_at "rd"
      refine k _ H3 p dx aS aO aR aE aH aV ra _ s' H4 ms3 md3 rfl hst hp3 he3 wk3 (fun b o hb e => ?_)
      have e1 := kk b o hb e
      have e2 := k2 b o (fun h => by rw [List.mem_singleton.mp h, np] at e; cases e) e1
      have e3 := kx3 b o (fun h => by rw [List.mem_singleton.mp h, hra node row er] at e1; cases e1) e2
      exact md3.k b o (fun h => by rw [hnew b h] at e1; cases e1) e3
    | some t =>
      refine iteT ?_
      repeat walk_at "rd"
      refine ⟨D, slots, outs, t, rfl, hT, ht t rfl, wf.most, ?_⟩
      repeat walk_at "rd"
      refine iteF ?_
      repeat walk_at "rd"
      intro p dx np ndx ndp
      have np2 : (upd H dx (.own p)) p = none := by rw [upd_ne ndp.symm]; exact np
      have kk : Kx [] H (upd (upd H dx (.own p)) p (.ins C dx [])) := ((Kx.refl [] H).new ndx).new np2
      refine ⟨p, dx, D, slots, outs, lim, rfl, upd_same, hT.keep kk, wf, hC, fun H2 aS aO aR aE aH aV ra ms md k2 hnew hra => ⟨rfl, ?_⟩⟩
      have hins := ms.ins
      repeat walk_at "rd"
      refine ⟨slots, H2, p, dx, aS, aO, aR, aE, aH, aV, ra, lim, outs, ⟨[], [], []⟩, node, j, row, some t, hj, rfl, ms, md, hC, wk_zero wf, rfl, rfl, wf.len, er, by simp [FS.log], fun t e => ⟨ht t e, by simp [FS.log]⟩, by show 0 + 2 * FS.mu slots ⟨[], [], []⟩ ≤ 89000; omega, hlim, fun s' H3 H4 kx3 ms3 md3 wk3 hp3 he3 hst => ?_⟩
      repeat walk_at "rd"
      refine k _ H3 p dx aS aO aR aE aH aV ra _ s' H4 ms3 md3 rfl hst hp3 he3 wk3 (fun b o hb e => ?_)
      have e1 := kk b o hb e
      have e2 := k2 b o (fun h => by rw [List.mem_singleton.mp h, np] at e; cases e) e1
      have e3 := kx3 b o (fun h => by rw [List.mem_singleton.mp h, hra node row er] at e1; cases e1) e2
      exact md3.k b o (fun h => by rw [hnew b h] at e1; cases e1) e3
theorem ok_set {C : Addr} {f : Addr} {fd : FuncData} (F : Fun K "set_slot" "set_slot" sSetSlot f fd) (T : Txt mg) (hC : ClR K C) (cR : Cls K C) (l_run_put : Lo P w K mg base "run_put" 6 ["heap", "node", "slot", "target", "limit"] (spRunPut K C)) (m_result : Lm P w K mg base C "result" 1 ["self"] (spResult K C)) : FnOk P w K mg base CX0 7 f fd ["heap", "node", "slot", "target", "limit"] (spSet K) := by
  refine F.ok scSetSlot (fun vs H Q E h => ?_) (fun cdv A outer s H vs Q E hr h => ?_)
  · obtain ⟨D, slots, outs, node, j, row, tgt, lim, hj, rfl, _⟩ := h
    rfl
  · obtain ⟨D, slots, outs, node, j, row, tgt, lim, hj, rfl, hT, wf, er, ht, hlim, k⟩ := h
    refine ⟨_, (pss_one (ps_ret (pe_lm0 m_result cR (hr.mono (by decide)) (pe_lo l_run_put (hr.mono (by decide)) (by rfl) (pa_cons (pv 0) (pa_cons (pv 1) (pa_cons (pv 2) (pa_cons (pv 3) (pa_cons (pv 4) pa_nil))))))))), ?_⟩
    refine x_start (σ' := [some (.ref D), some (.int node), some (.int j), some (slotV tgt), some (.int lim)]) rfl ?_
    try dsimp only [cxOf]
    repeat walk_at "rd"
    refine ⟨D, slots, outs, node, j, row, tgt, lim, hj, rfl, hT, wf, er, ht, hlim, fun slots1 H1 p dx aS aO aR aE aH aV ra tf s' H3 ms md e1 hst hp he wk k3 => ?_⟩
    have hins3 := md.k _ _ ms.pW ms.ins
    have hsz := wk.sz
    repeat walk_at "rd"
    refine ⟨slots1, H1, p, dx, aS, aO, aR, aE, aH, aV, ra, lim, outs, tf, s'.log, s'.evs, rfl, ms, md, hC, rfl, by omega, by rw [e1, putS_len]; exact wf.most, fun B L X pk H5 k5 hB hL hpk hX => ?_⟩
    rw [e1] at hX
    repeat walk_at "rd"
    exact k B L X pk s' H5 (k3.trans k5) hB hL hst hp he wk hpk hX
end

local macro_rules | `(tactic| walk_at "ml") => `(tactic| exact mf_put ..) --keep

/-! ### a run behind a log is a run of what that log leaves -/
section
variable {slots : List (Option Rw)} {outs : List Int} {lim : Int}
theorem rowOf_after {L : List Nat} {h : Nat} (hh : h < slots.length) : rowOf (afterS slots L) h = if h ∈ L then [] else rowOf slots h := by
  unfold rowOf afterS
  rw [List.getElem?_map, List.getElem?_range hh]
  simp only [Option.map_some, Option.getD_some]
  by_cases e : h ∈ L
  · rw [if_pos e, if_pos e]
    rfl
  · rw [if_neg e, if_neg e]
theorem cntH_after (L l : List Nat) (m : Nat) : cntH (afterS slots L) l m = cntH slots (L ++ l) m := by
  unfold cntH
  rw [afterS_len]
  congr 1
  refine List.map_congr_left fun h hh => ?_
  rw [rowOf_after (List.mem_range.mp hh)]
  by_cases e1 : h ∈ L
  · simp [e1]
  · by_cases e2 : h ∈ l
    · simp [e2]
    · simp [e1, e2]
theorem tal_after (L l : List Nat) (rest : List Pd) (m : Nat) : tal (afterS slots L) outs l rest m = tal slots outs (L ++ l) rest m := by
  unfold tal
  rw [cntH_after]
theorem kids_after {L : List Nat} {n d : Nat} (hn : n < slots.length) (h : n ∉ L) : kids (afterS slots L) n d = kids slots n d := by
  unfold kids
  rw [rowOf_after hn, if_neg h]
theorem sim_step {p : List Pd} {sh : List Nat} {E e : List Ev} {s' : FS} (wk : Wk slots outs ⟨p, sh, E ++ e⟩) (h : stepF slots outs lim ⟨p, sh, E ++ e⟩ = some s') :
    ∃ e', s'.evs = E ++ e' ∧ stepF (afterS slots (FS.log ⟨[], [], E⟩)) outs lim ⟨p, sh, e⟩ = some ⟨s'.pend, s'.shelf, e'⟩ := by
  have hlog : FS.log ⟨p, sh, E ++ e⟩ = FS.log ⟨[], [], E⟩ ++ FS.log ⟨p, sh, e⟩ := by
    unfold FS.log
    exact List.filterMap_append
  unfold stepF at h ⊢
  cases p with
  | nil =>
    simp only at h ⊢
    cases hs : sh.getLast? with
    | none => rw [hs] at h; cases h
    | some n =>
      rw [hs] at h
      cases Option.some.inj h
      have hsp : sh = sh.dropLast ++ [n] := by
        obtain ⟨ys, hy⟩ := List.getLast?_eq_some_iff.mp hs
        rw [hy, List.dropLast_concat]
      have hm : n ∈ FS.log ⟨[], sh, E ++ e⟩ ++ sh := List.mem_append_right _ (List.mem_of_getLast? hs)
      obtain ⟨_, _, hlt⟩ := live_lt (wk.ok.lv n hm)
      have hnd : (FS.log ⟨[], sh, E ++ e⟩ ++ sh).Nodup := wk.ok.nd
      have hnl : n ∉ FS.log ⟨[], [], E⟩ := fun hh => (List.nodup_append.mp hnd).2.2 n (by rw [hlog]; exact List.mem_append_left _ hh) n (List.mem_of_getLast? hs) rfl
      refine ⟨e ++ [.take n sh.dropLast.length, .destroy n 0], List.append_assoc _ _ _, ?_⟩
      simp only
      rw [kids_after hlt hnl]
  | cons q rest =>
    have hnew := wk.ok.new wk.ho rfl
    have hl := wk.ok.pl q List.mem_cons_self
    obtain ⟨_, _, hlt⟩ := live_lt hl
    have hnl : q.node ∉ FS.log ⟨[], [], E⟩ := fun hh => hnew (List.mem_append_left _ (by rw [hlog]; exact List.mem_append_left _ hh))
    simp only at h ⊢
    rw [show FS.log ⟨q :: rest, sh, e⟩ = FS.log ⟨[], [], e⟩ from rfl, tal_after]
    rw [hlog] at h
    rw [show FS.log ⟨q :: rest, sh, e⟩ = FS.log ⟨[], [], e⟩ from rfl] at h
    by_cases h0 : 0 < tal slots outs (FS.log ⟨[], [], E⟩ ++ FS.log ⟨[], [], e⟩) rest q.node
    · rw [if_pos h0] at h ⊢
      cases Option.some.inj h
      exact ⟨_, List.append_assoc _ _ _, rfl⟩
    · rw [if_neg h0] at h ⊢
      by_cases hd : (q.depth : Int) < lim
      · rw [if_pos hd] at h ⊢
        cases Option.some.inj h
        refine ⟨_, List.append_assoc _ _ _, ?_⟩
        rw [kids_after hlt hnl]
      · rw [if_neg hd] at h ⊢
        cases Option.some.inj h
        exact ⟨_, List.append_assoc _ _ _, rfl⟩
theorem sim_steps {p : List Pd} {sh : List Nat} {E : List Ev} (wk : Wk slots outs ⟨p, sh, E⟩) {s' : FS} (h : Steps slots outs lim ⟨p, sh, E⟩ s') :
    ∃ e', s'.evs = E ++ e' ∧ Steps (afterS slots (FS.log ⟨[], [], E⟩)) outs lim ⟨p, sh, []⟩ ⟨s'.pend, s'.shelf, e'⟩ ∧ Wk slots outs s' := by
  obtain ⟨n, hn⟩ := h
  induction n generalizing s' with
  | zero =>
    cases Option.some.inj (hn : some _ = some s')
    exact ⟨[], (List.append_nil _).symm, .refl _, wk⟩
  | succ n ih =>
    have hn : (run slots outs lim n ⟨p, sh, E⟩).bind (stepF slots outs lim) = some s' := hn
    cases er : run slots outs lim n ⟨p, sh, E⟩ with
    | none => rw [er] at hn; cases hn
    | some v =>
      rw [er] at hn
      obtain ⟨e1, h1, h2, h3⟩ := ih er
      have hv : v = ⟨v.pend, v.shelf, E ++ e1⟩ := by
        cases v
        simp only at h1
        rw [h1]
      rw [hv] at hn h3
      obtain ⟨e2, g1, g2⟩ := sim_step h3 hn
      exact ⟨e2, g1, h2.tail g2, h3.step hn⟩
/-- what a whole drop leaves is a heap -/
theorem wf_after {b : Int} (wf : WfB b slots outs) {outs' : List Int} {s : FS} (wk : Wk slots outs' s) (hp : s.pend = []) (hol : outs'.length = slots.length) (hb : ∀ z ∈ outs', z ≤ b) (hfr : ∀ m : Nat, slots[m]? = some none → outs'[m]? = some 0) : WfB b (afterS slots s.log) outs' := by
  have hz : ∀ n ∈ s.log, tal slots outs' s.log [] n = 0 := fun n hn => by
    have := wk.ok.z n (List.mem_append_left _ hn)
    rwa [hp] at this
  have hcnt : ∀ n ∈ s.log, (outs'[n]?).getD 0 = 0 ∧ cntH slots s.log n = 0 := fun n hn => by
    have h1 := hz n hn
    have h2 : 0 ≤ (outs'[n]?).getD 0 := by
      cases e : outs'[n]? with
      | none => exact Int.le_refl 0
      | some z => exact wk.ho z (List.mem_of_getElem? e)
    unfold tal at h1
    rw [show pendC [] n = 0 from rfl] at h1
    omega
  have hat : ∀ i : Nat, i < slots.length → (afterS slots s.log)[i]? = some (if i ∈ s.log then none else (slots[i]?).getD none) := fun i hi => by
    unfold afterS
    rw [List.getElem?_map, List.getElem?_range hi]
    rfl
  have hrow : ∀ row, some row ∈ afterS slots s.log → ∃ i, i < slots.length ∧ i ∉ s.log ∧ slots[i]? = some (some row) := fun row hr => by
    obtain ⟨i, hi, e⟩ := List.mem_map.mp (show some row ∈ (List.range slots.length).map _ from hr)
    have hi2 := List.mem_range.mp hi
    by_cases hl : i ∈ s.log
    · rw [if_pos hl] at e
      cases e
    · rw [if_neg hl, List.getElem?_eq_getElem hi2] at e
      exact ⟨i, hi2, hl, by rw [List.getElem?_eq_getElem hi2]; exact congrArg some e⟩
  refine ⟨by rw [afterS_len]; exact hol, by rw [afterS_len]; exact wf.most, fun m hm => ?_, fun z hz => ⟨wk.ho z hz, hb z hz⟩, fun row hr => ?_, fun row hr k hk => ?_⟩
  · have hml : m < slots.length := by
      have := (List.getElem?_eq_some_iff.mp hm).1
      rwa [afterS_len] at this
    rw [hat m hml] at hm
    by_cases hl : m ∈ s.log
    · have h1 := (hcnt m hl).1
      rw [List.getElem?_eq_getElem (by omega)] at h1 ⊢
      exact congrArg some h1
    · rw [if_neg hl, List.getElem?_eq_getElem hml] at hm
      exact hfr m (by rw [List.getElem?_eq_getElem hml]; exact hm)
  · obtain ⟨i, _, _, e⟩ := hrow row hr
    exact wf.row row (List.mem_of_getElem? e)
  · obtain ⟨i, hi, hil, e⟩ := hrow row hr
    obtain ⟨r, er⟩ := wf.live row (List.mem_of_getElem? e) k hk
    have hkl := (List.getElem?_eq_some_iff.mp er).1
    have hkn : k ∉ s.log := fun hkm => by
      have h2 := (hcnt k hkm).2
      unfold cntH at h2
      have h3 : (if i ∈ s.log then 0 else (rowOf slots i).count (some k)) = 0 := List.sum_eq_zero_iff_forall_eq_nat.mp h2 _ (List.mem_map.mpr ⟨i, List.mem_range.mpr hi, rfl⟩)
      rw [if_neg hil, rowOf_some e] at h3
      exact (List.count_eq_zero.mp h3) hk
    exact ⟨r, by rw [hat k hkl, if_neg hkn, er]; rfl⟩
end
theorem mf_empty (aS aO aR : Addr) (lim : Int) (aE aH aV : Addr) : List.lookup ("empty" : Str) (mf aS aO aR lim aE aH aV) = none := by with_unfolding_all rfl
local macro_rules | `(tactic| walk_at "ml") => `(tactic| exact mf_empty ..) --keep

/-! ### slot after slot -/
def rowN (row : Rw) (i : Nat) : Rw := List.replicate i none ++ row.drop i
def slotN (slots : List (Option Rw)) (node : Nat) (row : Rw) (i : Nat) : List (Option Rw) := slots.set node (some (rowN row i))
theorem rowN_len {row : Rw} {i : Nat} (h : i ≤ row.length) : (rowN row i).length = row.length := by
  unfold rowN
  rw [List.length_append, List.length_replicate, List.length_drop]
  omega
theorem rowN_at {row : Rw} {i : Nat} (h : i < row.length) : (rowN row i)[i]? = some row[i] := by
  unfold rowN
  rw [List.getElem?_append_right (by rw [List.length_replicate]; exact Nat.le_refl _), List.length_replicate, Nat.sub_self, List.getElem?_drop, Nat.add_zero, List.getElem?_eq_getElem h]
theorem rowN_set {row : Rw} {i : Nat} (h : i < row.length) : (rowN row i).set i none = rowN row (i + 1) := by
  unfold rowN
  rw [List.set_append_right _ _ (by rw [List.length_replicate]; exact Nat.le_refl _), List.length_replicate, Nat.sub_self, List.drop_eq_getElem_cons h, List.set_cons_zero, List.replicate_succ', List.append_assoc]
  rfl
section
variable {slots : List (Option Rw)} {outs : List Int} {lim : Int} {node : Nat} {row : Rw}
theorem slotN_zero (er : slots[node]? = some (some row)) : slotN slots node row 0 = slots := by
  unfold slotN rowN
  refine List.ext_getElem? fun i => ?_
  by_cases e : node = i
  · subst e
    rw [List.getElem?_set_self (List.getElem?_eq_some_iff.mp er).1, er]
    rfl
  · rw [List.getElem?_set_ne e]
theorem slotN_at (er : slots[node]? = some (some row)) (i : Nat) : (slotN slots node row i)[node]? = some (some (rowN row i)) := List.getElem?_set_self (List.getElem?_eq_some_iff.mp er).1
theorem slotN_len (i : Nat) : (slotN slots node row i).length = slots.length := List.length_set
theorem slotN_put (er : slots[node]? = some (some row)) {i : Nat} (h : i < row.length) : putS (slotN slots node row i) node i none = slotN slots node row (i + 1) := by
  unfold putS
  rw [rowOf_some (slotN_at er i), rowN_set h]
  unfold slotN
  rw [List.set_set]
def EndsA (slots : List (Option Rw)) (outs : List Int) (lim : Int) (o : Option Nat) (e : List Ev) : Prop := match o with | none => e = [] | some k => Steps slots outs lim ⟨[⟨none, none, k, 0⟩], [], []⟩ ⟨[], [], e⟩
theorem end_none {s : FS} (hp : s.pend = []) (he : s.shelf = []) : stepF slots outs lim s = none := by
  unfold stepF
  rw [hp, he]
  rfl
theorem EndsA.det {o : Option Nat} {a b : List Ev} (h : EndsA slots outs lim o a) (g : EndsA slots outs lim o b) : a = b := by
  cases o with
  | none => exact (show a = [] from h).trans (show b = [] from g).symm
  | some k => exact congrArg FS.evs (Steps.det (show Steps _ _ _ _ _ from h) (end_none rfl rfl) (show Steps _ _ _ _ _ from g) (end_none rfl rfl))
/-- the events after the first i slots are emptied -/
def ChainA (slots : List (Option Rw)) (outs : List Int) (lim : Int) (node : Nat) (row : Rw) : Nat → List Ev → Prop
  | 0, E => E = []
  | i + 1, E => ∃ E0 e, ChainA slots outs lim node row i E0 ∧ E = E0 ++ e ∧ EndsA (afterS (slotN slots node row (i + 1)) (FS.log ⟨[], [], E0⟩)) outs lim ((row[i]?).getD none) e
theorem ChainA.det : ∀ {i : Nat} {a b : List Ev}, ChainA slots outs lim node row i a → ChainA slots outs lim node row i b → a = b
  | 0, _, _, h, g => (show _ = [] from h).trans (show _ = [] from g).symm
  | i + 1, _, _, h, g => by
    obtain ⟨E0, e, h1, rfl, h2⟩ := h
    obtain ⟨E1, e1, g1, rfl, g2⟩ := g
    cases h1.det g1
    rw [h2.det g2]
def FinA (slots : List (Option Rw)) (outs outs1 : List Int) (lim : Int) (node : Nat) (row : Rw) (E : List Ev) : Prop :=
  ∃ E0 e, ChainA slots outs1 lim node row row.length E0 ∧ E = E0 ++ e ∧ EndsA (afterS (slotN slots node row row.length) (FS.log ⟨[], [], E0⟩)) outs lim (some node) e
theorem FinA.det {outs1 : List Int} {a b : List Ev} (h : FinA slots outs outs1 lim node row a) (g : FinA slots outs outs1 lim node row b) : a = b := by
  obtain ⟨E0, e, h1, rfl, h2⟩ := h
  obtain ⟨E1, e1, g1, rfl, g2⟩ := g
  cases h1.det g1
  rw [h2.det g2]
theorem steps_sz {s s' : FS} (wk : Wk slots outs s) (h : Steps slots outs lim s s') : s'.evs.length + 2 * s'.mu slots ≤ s.evs.length + 2 * s.mu slots := by
  obtain ⟨n, hn⟩ := h
  have : ∀ (n : Nat) (s' : FS), run slots outs lim n s = some s' → Wk slots outs s' ∧ s'.evs.length + 2 * s'.mu slots ≤ s.evs.length + 2 * s.mu slots := by
    intro n
    induction n with
    | zero => intro s' e; cases Option.some.inj (e : some s = some s'); exact ⟨wk, Nat.le_refl _⟩
    | succ n ih =>
      intro s' e
      have e : (run slots outs lim n s).bind (stepF slots outs lim) = some s' := e
      cases er : run slots outs lim n s with
      | none => rw [er] at e; cases e
      | some v =>
        rw [er] at e
        obtain ⟨w1, w2⟩ := ih v er
        have := step_mu w1.ok w1.ho e
        exact ⟨w1.step e, by omega⟩
  exact (this n s' hn).2
theorem not_dead {s : FS} (wk : Wk slots outs s) {n : Nat} {z : Int} (hz : outs[n]? = some z) (h1 : 1 ≤ z) : n ∉ s.log := by
  intro h
  have h2 := wk.ok.z n (List.mem_append_left _ h)
  unfold tal at h2
  rw [hz] at h2
  simp only [Option.getD_some] at h2
  omega
end
section
variable {P : Program} {w : World} {K : PySem.W.Frag} {mg : Str → Option Value} {base : Heap}
def spEmpty (K : PySem.W.Frag) (C : Addr) : Sp := fun vs H Q _ => ∃ (slots : List (Option Rw)) (p dx aS aO aR aE aH aV : Addr) (ra : Nat → Addr) (lim : Int) (outs : List Int) (node : Nat) (row : Rw) (z : Int),
  vs = [.ref p, .int node] ∧ MS slots C H p dx aS aO aR aE aH aV ra lim ∧ MD slots H H aS aO aR aE aH aV ra outs (tal slots outs [] []) [] [] [] [] ∧ ClR K C ∧ Wk slots outs ⟨[], [], []⟩ ∧ outs.length = slots.length ∧ slots[node]? = some (some row) ∧ outs[node]? = some z ∧ FS.mu slots ⟨[], [], []⟩ ≤ 40 * 42 ∧ 0 < lim ∧
  ∀ E H2 H', (∀ b o, b ∉ [aS, aO, aR, aE, aH, aV] → b ≠ ra node → H b = some o → H' b = some o) → MS (slotN slots node row row.length) C H2 p dx aS aO aR aE aH aV ra lim → MD (slotN slots node row row.length) H2 H' aS aO aR aE aH aV ra outs (tal (slotN slots node row row.length) outs (FS.log ⟨[], [], E⟩) []) (FS.log ⟨[], [], E⟩) [] [] E →
    Wk (slotN slots node row row.length) outs ⟨[], [], E⟩ → FinA slots outs (outs.set node (z + 1)) lim node row E → Q .non H'
theorem ok_empty {C : Addr} {f : Addr} {fd : FuncData} (F : Fun K "empty" "Releasing.empty" sReleasingEmpty f fd) (T : Txt mg) (m_put : Lm P w K mg base C "put" 5 ["self", "node", "slot", "target"] (spPut K C)) (m_drop : Lm P w K mg base C "drop" 4 ["self", "node"] (spMDrop K C)) (cR : Cls K C) :
    FnOk P w K mg base CX0 6 f fd ["self", "node"] (spEmpty K C) := by
  refine F.ok scReleasingEmpty (fun vs H Q E h => ?_) (fun cdv A outer s H vs Q E hr h => ?_)
  · obtain ⟨slots, p, dx, aS, aO, aR, aE, aH, aV, ra, lim, outs, node, row, z, rfl, _⟩ := h
    rfl
  · obtain ⟨slots, p, dx, aS, aO, aR, aE, aH, aV, ra, lim, outs, node, row, z, rfl, ms, md, hC, wk, hol, er, hz, hmu, hlim, k⟩ := h
    refine ⟨_, (pss_cons (ps_augS (pe_fld (pv 0) rfl) (pv 1) get_list pe_int ip_add set_list)
      (pss_cons (ps_augS (pe_fld (pv 0) rfl) (pv 1) get_list pe_int ip_add set_list)
      (pss_cons (ps_for PassesOwn.never rfl (pi_range1 (by rfl) T.b_range (pa_cons (pe_callB call_len_seq (by rfl) T.b_len boot'_len (pa_cons (pe_ix ix_list (pe_fld (pv 0) rfl) (pv 1) (fun _ _ => rfl)) pa_nil)) pa_nil)) (pg_name (i := 2) scReleasingEmpty.nd rfl (Or.inl rfl))
      (pss_one (ps_expr (pe_lm m_put cR (hr.mono (by decide)) (pv 0) (pa_cons (pv 1) (pa_cons (pv 2) (pa_cons pe_non pa_nil)))))))
      (pss_one (ps_expr (pe_lm m_drop cR (hr.mono (by decide)) (pv 0) (pa_cons (pv 1) pa_nil))))))), ?_⟩
    refine x_start (σ' := [some (.ref p), some (.int node), none]) rfl ?_
    dsimp only [cxOf]
    have six := ms.six
    have hins := md.k _ _ ms.pW ms.ins
    have hlt := (List.getElem?_eq_some_iff.mp er).1
    have hlv : isLive slots node = true := by simp [isLive, er]
    have hnl := (List.getElem?_eq_some_iff.mp hz).1
    have hz0 : 0 ≤ z := wk.ho z (List.mem_of_getElem? hz)
    have eO := md.eO
    have atO : atI (outs.map V.int) (node : Int) = some (.int z) := atI_nat (by rw [List.getElem?_map, hz]; rfl)
    have ixO : ixN (outs.map V.int).length (node : Int) = some node := ix_nat (by rw [List.length_map]; exact hnl)
    repeat walk_at "rd"
    have md1 := md.wO six (outs.set node (z + 1))
    rw [List.map_set] at md1
    have kq1 : Kx [aS, aO, aR, aE, aH, aV] H (upd H aO (.lst ((outs.map V.int).set node (V.int (z + 1))))) := (Kx.refl _ _).wr (.inr (by simp))
    generalize upd H aO (.lst ((outs.map V.int).set node (V.int (z + 1)))) = Ha at *
    have hins1 := md1.k _ _ ms.pW ms.ins
    have eR1 := md1.eR
    have atR : atI ((List.range slots.length).map (refR slots (tal slots outs [] []))) (node : Int) = some (.int (tal slots outs [] [] node)) := by
      rw [range_at hlt]
      unfold refR
      rw [if_pos hlv]
    have ixR := range_ix (f := refR slots (tal slots outs [] [])) hlt
    have htal : ∀ m, tal slots (outs.set node (z + 1)) [] [] m = tal slots outs [] [] m + (if node = m then 1 else 0) := fun m => by
      unfold tal
      by_cases e : node = m
      · subst e
        rw [List.getElem?_set_self hnl, hz]
        simp only [Option.getD_some, if_true]
        omega
      · rw [List.getElem?_set_ne e, if_neg e]
        omega
    have hset : ((List.range slots.length).map (refR slots (tal slots outs [] []))).set node (V.int (tal slots outs [] [] node + 1)) = (List.range slots.length).map (refR slots (tal slots (outs.set node (z + 1)) [] [])) :=
      range_set hlt (by unfold refR; rw [if_pos hlv, htal, if_pos rfl]) (fun i hi => by unfold refR; rw [htal, if_neg (Ne.symm hi), Int.add_zero])
    repeat walk_at "rd"
    rw [hset]
    have md2 := md1.wR six (tal slots (outs.set node (z + 1)) [] [])
    have kq2 : Kx [aS, aO, aR, aE, aH, aV] H (upd Ha aR (.lst ((List.range slots.length).map (refR slots (tal slots (outs.set node (z + 1)) [] []))))) := kq1.wr (.inr (by simp))
    generalize upd Ha aR (.lst ((List.range slots.length).map (refR slots (tal slots (outs.set node (z + 1)) [] [])))) = Hb at *
    have hins2 := md2.k _ _ ms.pW ms.ins
    have eS2 := md2.eS
    have atS : atI ((List.range slots.length).map (slotR slots ra [])) (node : Int) = some (.ref (ra node)) := by
      rw [range_at hlt]
      unfold slotR
      rw [if_pos ⟨hlv, by simp⟩]
    have hrow : Hb (ra node) = some (.lst (rowV row)) := md2.k _ _ (ms.rows node row er).2 (ms.rows node row er).1
    have hrl : (rowV row).length = row.length := by unfold rowV; exact List.length_map _
    have h40 := wk.rl row (List.mem_of_getElem? er)
    have hz1 : (outs.set node (z + 1))[node]? = some (z + 1) := List.getElem?_set_self hnl
    have hol1 : (outs.set node (z + 1)).length = slots.length := by rw [List.length_set]; exact hol
    have wk1 : Wk slots (outs.set node (z + 1)) ⟨[], [], []⟩ := ⟨⟨fun q hq => (by cases hq), List.nodup_nil, fun m hm => (by cases hm), fun m hm => (by cases hm)⟩, fun y hy => by
      rcases List.mem_or_eq_of_mem_set hy with hy | rfl
      · exact wk.ho y hy
      · omega, wk.wl, wk.rl, wk.most, wk.sz⟩
    repeat walk_at "rd"
    rw [hrl]
    refine y_forR1 (by omega) (by omega) ⟨fun i σ Hi => ∃ (H2 : Hp) (E : List Ev) (y2 : Option V), σ = [some (.ref p), some (.int node), y2] ∧ MS (slotN slots node row i) C H2 p dx aS aO aR aE aH aV ra lim ∧
      MD (slotN slots node row i) H2 Hi aS aO aR aE aH aV ra (outs.set node (z + 1)) (tal (slotN slots node row i) (outs.set node (z + 1)) (FS.log ⟨[], [], E⟩) []) (FS.log ⟨[], [], E⟩) [] [] E ∧ Wk (slotN slots node row i) (outs.set node (z + 1)) ⟨[], [], E⟩ ∧ ChainA slots (outs.set node (z + 1)) lim node row i E ∧
      E.length + 2 * FS.mu (slotN slots node row i) ⟨[], [], E⟩ ≤ 4000 + 2 * i ∧ (∀ b o, b ∉ [aS, aO, aR, aE, aH, aV] → b ≠ ra node → H b = some o → H2 b = some o), ?_, fun _ _ _ _ _ => trivial, ?_, ?_⟩
    · refine ⟨H, [], none, rfl, ?_, ?_, ?_, rfl, ?_, fun b o _ _ e => e⟩
      · rw [slotN_zero er]; exact ms
      · rw [slotN_zero er]; exact md2
      · rw [slotN_zero er]; exact wk1
      · rw [slotN_zero er]
        show 0 + 2 * FS.mu slots ⟨[], [], []⟩ ≤ 4000 + 2 * 0
        omega
    · rintro i x σ Hi Hi' hi ⟨H2, E, y2, rfl, ms2, md2', wk2, ch, hsz, kk⟩ ⟨rfl, rfl⟩
      have hir : i < row.length := by omega
      have hri : i < (rowN row i).length := by rw [rowN_len (Nat.le_of_lt hir)]; exact hir
      have hins3 := md2'.k _ _ ms2.pW ms2.ins
      have hnd : node ∉ FS.log ⟨[], [], E⟩ := not_dead wk2 hz1 (by omega)
      have heq : (rowN row i)[i] = row[i] := by
        have := rowN_at hir
        rw [List.getElem?_eq_getElem hri] at this
        exact Option.some.inj this
      repeat walk_at "rd"
      rw [Int.zero_add]
      refine ⟨slotN slots node row i, H2, p, dx, aS, aO, aR, aE, aH, aV, ra, lim, outs.set node (z + 1), ⟨[], [], E⟩, node, i, rowN row i, none, hri, rfl, ms2, md2', hC, wk2, rfl, rfl, by rw [slotN_len]; exact hol1, slotN_at er i, hnd, fun t e => (by cases e), by show E.length + 2 * _ ≤ 89000; omega, hlim, fun s' H3 H4 kx3 ms3 md3 wk3 hp3 he3 hst => ?_⟩
      rw [slotN_put er hir] at ms3 md3 wk3
      have hs' : s' = ⟨[], [], s'.evs⟩ := by
        cases s'
        simp only at hp3 he3
        rw [hp3, he3]
      have hchain : ChainA slots (outs.set node (z + 1)) lim node row (i + 1) s'.evs ∧ s'.evs.length + 2 * FS.mu (slotN slots node row (i + 1)) s' ≤ 4000 + 2 * (i + 1) := by
        have hmuE : FS.mu (slotN slots node row i) ⟨[], [], E⟩ = FS.mu (slotN slots node row (i + 1)) ⟨[], [], E⟩ := by
          rw [← slotN_put er hir]
          unfold FS.mu
          rw [left_put (slotN_at er i)]
        rw [heq] at hst
        cases hc : row[i] with
        | none =>
          rw [hc] at hst
          have hst : s' = ⟨[], [], E⟩ := hst
          rw [hst]
          refine ⟨⟨E, [], ch, (List.append_nil _).symm, ?_⟩, ?_⟩
          · rw [List.getElem?_eq_getElem hir, hc]
            rfl
          · rw [← hmuE]
            show E.length + _ ≤ _
            omega
        | some k' =>
          rw [hc] at hst
          obtain ⟨wkS, hst⟩ := hst
          rw [slotN_put er hir] at wkS hst
          obtain ⟨e', h1, h2, _⟩ := sim_steps wkS hst
          have hsz2 : s'.evs.length + 2 * FS.mu (slotN slots node row (i + 1)) s' ≤ E.length + 2 * (FS.mu (slotN slots node row i) ⟨[], [], E⟩ + 1) := by
            rw [hmuE]
            exact steps_sz wkS hst
          refine ⟨⟨E, e', ch, h1, ?_⟩, ?_⟩
          · rw [List.getElem?_eq_getElem hir, hc]
            show Steps _ _ _ _ ⟨[], [], e'⟩
            rw [hp3, he3] at h2
            exact h2
          · omega
      repeat walk_at "rd"
      refine ⟨H3, s'.evs, _, rfl, ms3, ?_, ?_, hchain.1, ?_, fun b o hb hbr e => kx3 b o (by simpa using hbr) (md2'.k b o hb (kk b o hb hbr e))⟩
      · rw [hs'] at md3
        exact md3
      · rw [← hs']
        exact wk3
      · rw [← hs']
        exact hchain.2
    · rintro σ Hi ⟨H2, E, y2, rfl, ms2, md2', wk2, ch, hsz, kk⟩
      rw [Int.toNat_natCast] at ms2 md2' wk2 ch hsz
      have hins3 := md2'.k _ _ ms2.pW ms2.ins
      have hlN : isLive (slotN slots node row row.length) node = true := by simp [isLive, slotN_at er]
      have hback : (outs.set node (z + 1)).set node (z + 1 - 1) = outs := by
        rw [List.set_set]
        refine List.ext_getElem? fun i => ?_
        by_cases e : node = i
        · subst e
          rw [List.getElem?_set_self hnl, hz]
          congr 1
          omega
        · rw [List.getElem?_set_ne e]
      have wkS := wk2.start rfl rfl hz1 (by omega) hlN (by show E.length + 2 * _ ≤ 89000; omega)
      rw [hback] at wkS
      repeat walk_at "rd"
      refine ⟨slotN slots node row row.length, H2, p, dx, aS, aO, aR, aE, aH, aV, ra, lim, outs.set node (z + 1), ⟨[], [], E⟩, node, z + 1, rfl, ms2, md2', hC, wk2, rfl, rfl, by rw [slotN_len]; exact hol1, hz1, by omega, hlN, by show E.length + 2 * _ ≤ 89000; omega, hlim, fun s' H4 hst hp4 he4 wk4 md4 => ?_⟩
      rw [hback] at hst wk4 md4
      have hs' : s' = ⟨[], [], s'.evs⟩ := by
        cases s'
        simp only at hp4 he4
        rw [hp4, he4]
      obtain ⟨e', h1, h2, _⟩ := sim_steps wkS hst
      rw [hp4, he4] at h2
      repeat walk_at "rd"
      refine k s'.evs H2 H4 (fun b o hb hbr e => md4.k b o hb (kk b o hb hbr e)) ms2 ?_ ?_ ⟨E, e', ch, h1, h2⟩
      · rw [hs'] at md4
        exact md4
      · rw [← hs']
        exact wk4
def spES (K : PySem.W.Frag) : Sp := fun vs H Q _ => ∃ (D : Addr) (slots : List (Option Rw)) (outs : List Int) (node : Nat) (row : Rw) (z lim : Int), vs = [.ref D, .int node, .int lim] ∧ HeapT K H D slots outs ∧ Wf slots outs ∧ slots[node]? = some (some row) ∧ outs[node]? = some z ∧ 0 < lim ∧
  ∀ B L X k E H', Kx [] H H' → SqT K H' B [.ref L, .int k, .ref X] → SqT K H' L ((FS.log ⟨[], [], E⟩).map fun n : Nat => V.int n) → FinA slots outs (outs.set node (z + 1)) lim node row E → IsPeak (sizesOf E) k → Wk (slotN slots node row row.length) outs ⟨[], [], E⟩ → HeapT K H' X (afterS (slotN slots node row row.length) (FS.log ⟨[], [], E⟩)) outs → Q (.ref B) H'
def spRunEmpty (K : PySem.W.Frag) (C : Addr) : Sp := fun vs H Q _ => ∃ (D : Addr) (slots : List (Option Rw)) (outs : List Int) (node : Nat) (row : Rw) (z lim : Int), vs = [.ref D, .int node, .int lim] ∧ HeapT K H D slots outs ∧ Wf slots outs ∧ slots[node]? = some (some row) ∧ outs[node]? = some z ∧ 0 < lim ∧
  ∀ slots1 H1 p dx aS aO aR aE aH aV ra tf E H3, MS slots1 C H1 p dx aS aO aR aE aH aV ra lim → MD slots1 H1 H3 aS aO aR aE aH aV ra outs tf (FS.log ⟨[], [], E⟩) [] [] E → slots1 = slotN slots node row row.length → FinA slots outs (outs.set node (z + 1)) lim node row E → Wk (slotN slots node row row.length) outs ⟨[], [], E⟩ → Kx [] H H3 → Q (.ref p) H3
theorem ok_runEmpty {C : Addr} {f : Addr} {fd : FuncData} (F : Fun K "run_empty" "run_empty" sRunEmpty f fd) (T : Txt mg) (hC : ClR K C) (cR : Cls K C) (l_need_live : Lo P w K mg base "need_live" 4 ["heap", "node"] (spNeedLive K))
    (n_Releasing : Ln P w K mg base C "Releasing" 3 ["self", "heap", "limit"] (spMInit K C)) (m_empty : Lm P w K mg base C "empty" 6 ["self", "node"] (spEmpty K C)) : FnOk P w K mg base CX0 7 f fd ["heap", "node", "limit"] (spRunEmpty K C) := by
  refine F.ok scRunEmpty (fun vs H Q E h => ?_) (fun cdv A outer s H vs Q E hr h => ?_)
  · obtain ⟨D, slots, outs, node, row, z, lim, rfl, _⟩ := h
    rfl
  · obtain ⟨D, slots, outs, node, row, z, lim, rfl, hT, wf, er, hz, hlim, k⟩ := h
    have hlv : isLive slots node = true := by simp [isLive, er]
    have hmu : FS.mu slots ⟨[], [], []⟩ ≤ 40 * 42 := left_nil_le wf.most wf.row
    refine ⟨_, (pss_cons (ps_expr (pe_lo l_need_live (hr.mono (by decide)) (by rfl) (pa_cons (pv 0) (pa_cons (pv 1) pa_nil))))
      (pss_cons (ps_set (i := 3) scRunEmpty.nd rfl (Or.inl rfl) (pe_ln n_Releasing (hr.mono (by decide)) (by rfl) (pa_cons (pv 0) (pa_cons (pv 2) pa_nil))))
      (pss_cons (ps_expr (pe_lm m_empty cR (hr.mono (by decide)) (pv 3) (pa_cons (pv 1) pa_nil)))
      (pss_one (ps_ret (pv 3)))))), ?_⟩
    refine x_start (σ' := [some (.ref D), some (.int node), some (.int lim), none]) rfl ?_
    try dsimp only [cxOf]
    repeat walk_at "rd"
    refine ⟨D, slots, outs, node, rfl, hT, hlv, wf.most, ?_⟩
    repeat walk_at "rd"
    intro p dx np ndx ndp
    have np2 : (upd H dx (.own p)) p = none := by rw [upd_ne ndp.symm]; exact np
    have kk : Kx [] H (upd (upd H dx (.own p)) p (.ins C dx [])) := ((Kx.refl [] H).new ndx).new np2
    refine ⟨p, dx, D, slots, outs, lim, rfl, upd_same, hT.keep kk, wf, hC, fun H2 aS aO aR aE aH aV ra ms md k2 hnew hra => ⟨rfl, ?_⟩⟩
    have hins := ms.ins
    repeat walk_at "rd"
    refine ⟨slots, p, dx, aS, aO, aR, aE, aH, aV, ra, lim, outs, node, row, z, rfl, ms, md, hC, wk_zero wf, wf.len, er, hz, hmu, hlim, fun E2 H3 H4 kx3 ms3 md3 wk3 fin => ?_⟩
    repeat walk_at "rd"
    refine k _ H3 p dx aS aO aR aE aH aV ra _ E2 H4 ms3 md3 rfl fin wk3 (fun b o hb e => ?_)
    have e1 := kk b o hb e
    have e2 := k2 b o (fun h => by rw [List.mem_singleton.mp h, np] at e; cases e) e1
    exact kx3 b o (fun h => by rw [hnew b h] at e1; cases e1) (fun h => by rw [h, hra node row er] at e1; cases e1) e2
theorem ok_es {C : Addr} {f : Addr} {fd : FuncData} (F : Fun K "empty_slots" "empty_slots" sEmptySlots f fd) (T : Txt mg) (hC : ClR K C) (cR : Cls K C) (l_run_empty : Lo P w K mg base "run_empty" 7 ["heap", "node", "limit"] (spRunEmpty K C)) (m_result : Lm P w K mg base C "result" 1 ["self"] (spResult K C)) : FnOk P w K mg base CX0 8 f fd ["heap", "node", "limit"] (spES K) := by
  refine F.ok scEmptySlots (fun vs H Q E h => ?_) (fun cdv A outer s H vs Q E hr h => ?_)
  · obtain ⟨D, slots, outs, node, row, z, lim, rfl, _⟩ := h
    rfl
  · obtain ⟨D, slots, outs, node, row, z, lim, rfl, hT, wf, er, hz, hlim, k⟩ := h
    refine ⟨_, (pss_one (ps_ret (pe_lm0 m_result cR (hr.mono (by decide)) (pe_lo l_run_empty (hr.mono (by decide)) (by rfl) (pa_cons (pv 0) (pa_cons (pv 1) (pa_cons (pv 2) pa_nil))))))), ?_⟩
    refine x_start (σ' := [some (.ref D), some (.int node), some (.int lim)]) rfl ?_
    try dsimp only [cxOf]
    repeat walk_at "rd"
    refine ⟨D, slots, outs, node, row, z, lim, rfl, hT, wf, er, hz, hlim, fun slots1 H1 p dx aS aO aR aE aH aV ra tf E2 H3 ms md e1 fin wk k3 => ?_⟩
    have hins3 := md.k _ _ ms.pW ms.ins
    have hsz := wk.sz
    repeat walk_at "rd"
    refine ⟨slots1, H1, p, dx, aS, aO, aR, aE, aH, aV, ra, lim, outs, tf, _, E2, rfl, ms, md, hC, rfl, by show E2.length ≤ 100000; have : E2.length + _ ≤ 90000 := hsz; omega, by rw [e1, slotN_len]; exact wf.most, fun B L X pk H5 k5 hB hL hpk hX => ?_⟩
    rw [e1] at hX
    repeat walk_at "rd"
    exact k B L X pk E2 H5 (k3.trans k5) hB hL fin hpk wk hX
end


section
variable {P : Program} {w : World} {K : PySem.W.Frag} {mg : Str → Option Value} {base : Heap}

def spIsIntD (K : PySem.W.Frag) : Sp := fun vs H Q _ => ∃ (v : V) (d : PyData), vs = [v] ∧ Dp K H v d ∧ Q (.bl (isI d)) H
theorem ok_isIntD {f : Addr} {fd : FuncData} (F : Fun K "is_integer" "is_integer" sIsInteger f fd) (T : Txt mg) : FnOk P w K mg base CX0 1 f fd ["value"] (spIsIntD K) := by
  refine F.ok scIsInteger (fun vs H Q E h => ?_) (fun cdv A outer s H vs Q E hr h => ?_)
  · obtain ⟨v, d, rfl, _⟩ := h
    rfl
  · obtain ⟨v, d, rfl, hd, k⟩ := h
    refine ⟨_, (pss_one (ps_ret (pe_and (pe_callB call_isi (by rfl) T.b_isinstance boot'_isinstance (pa_cons (pv 0) (pa_cons (pe_bltn (v := .ty "int") (by rfl) T.b_int boot'_int rfl) pa_nil))) (pe_one (pe_not (pe_callB call_isi (by rfl) T.b_isinstance boot'_isinstance (pa_cons (pv 0) (pa_cons (pe_bltn (v := .ty "bool") (by rfl) T.b_bool boot'_bool rfl) pa_nil)))))))), ?_⟩
    refine x_start (σ' := [some v]) rfl ?_
    try dsimp only [cxOf]
    have hd' := hd
    cases hd' <;>
    (repeat walk_at "rd"
     first
      | exact k
      | (refine x_isiDI hd ?_
         dsimp only [isIB, isI] at k ⊢
         repeat walk_at "rd"
         first
          | exact k
          | (refine x_isiDB hd ?_
             dsimp only [isB]
             repeat walk_at "rd"
             exact k)))
def btw (a b : Int) : PyData → Bool
  | .int i => decide (a ≤ i) && decide (i ≤ b)
  | _ => false
theorem btw_int (a b i : Int) : btw a b (.int i) = (decide (a ≤ i) && decide (i ≤ b)) := rfl
def spBtw (K : PySem.W.Frag) : Sp := fun vs H Q _ => ∃ (v : V) (d : PyData) (a b : Int), vs = [v, .int a, .int b] ∧ Dp K H v d ∧ Q (.bl (btw a b d)) H
theorem ok_btw {f : Addr} {fd : FuncData} (F : Fun K "is_between" "is_between" sIsBetween f fd) (T : Txt mg) (l_is_integer : Lo P w K mg base "is_integer" 1 ["value"] (spIsIntD K)) : FnOk P w K mg base CX0 2 f fd ["value", "low", "high"] (spBtw K) := by
  refine F.ok scIsBetween (fun vs H Q E h => ?_) (fun cdv A outer s H vs Q E hr h => ?_)
  · obtain ⟨v, d, a, b, rfl, _⟩ := h
    rfl
  · obtain ⟨v, d, a, b, rfl, hd, k⟩ := h
    refine ⟨_, (pss_one (ps_ret (pe_and (pe_lo l_is_integer (hr.mono (by decide)) (by rfl) (pa_cons (pv 0) pa_nil)) (pe_one (pe_chain op_le op_le (pv 1) (pv 0) (pv 2)))))), ?_⟩
    refine x_start (σ' := [some v, some (.int a), some (.int b)]) rfl ?_
    try dsimp only [cxOf]
    repeat walk_at "rd"
    refine ⟨v, d, rfl, hd, ?_⟩
    cases hd with
    | int i =>
      dsimp only [isI]
      repeat walk_at "rd"
      by_cases h1 : a ≤ i
      · refine iteP (decide_eq_true h1) ?_
        repeat walk_at "rd"
        rw [btw_int, decide_eq_true h1, Bool.true_and] at k
        exact k
      · refine iteN (decide_eq_false h1) ?_
        repeat walk_at "rd"
        rw [btw_int, decide_eq_false h1, Bool.false_and] at k
        exact k
    | _ =>
      dsimp only [isI]
      repeat walk_at "rd"
      exact k
/-- the data d is a live node -/
def liveD (slots : List (Option Rw)) : PyData → Bool
  | .int i => decide (0 ≤ i) && isLive slots i.toNat
  | _ => false
theorem liveD_int (slots : List (Option Rw)) (i : Int) : liveD slots (.int i) = (decide (0 ≤ i) && ((slots[i.toNat]?).getD none).isSome) := rfl
def spIsLiveD (K : PySem.W.Frag) : Sp := fun vs H Q _ => ∃ (D : Addr) (v : V) (d : PyData) (slots : List (Option Rw)) (outs : List Int), vs = [.ref D, v] ∧ HeapT K H D slots outs ∧ Dp K H v d ∧ Q (.bl (liveD slots d)) H
theorem ok_isLiveD {f : Addr} {fd : FuncData} (F : Fun K "is_live" "is_live" sIsLive f fd) (T : Txt mg) (l_is_between : Lo P w K mg base "is_between" 2 ["value", "low", "high"] (spBtw K)) : FnOk P w K mg base CX0 3 f fd ["heap", "value"] (spIsLiveD K) := by
  refine F.ok scIsLive (fun vs H Q E h => ?_) (fun cdv A outer s H vs Q E hr h => ?_)
  · obtain ⟨D, v, d, slots, outs, rfl, _⟩ := h
    rfl
  · obtain ⟨D, v, d, slots, outs, rfl, hT, hd, k⟩ := h
    obtain ⟨S, O, vs, hD, hS, hO, hl, hv⟩ := hT.ex
    refine ⟨_, (pss_cons (ps_set (i := 2) scIsLive.nd rfl (Or.inl rfl) (pe_ix ix_tup (pv 0) pe_int (fun _ _ => rfl)))
      (pss_one (ps_ret (pe_and (pe_lo l_is_between (hr.mono (by decide)) (by rfl) (pa_cons (pv 1) (pa_cons pe_int (pa_cons (pe_op op_sub (pe_callB call_len_seq (by rfl) T.b_len boot'_len (pa_cons (pv 2) pa_nil)) pe_int) pa_nil)))) (pe_one (pe_cmpR op_notN1 (pe_ix ix_tup (pv 2) (pv 1) (fun _ _ => rfl)) pe_non (nomark _))))))), ?_⟩
    refine x_start (σ' := [some (.ref D), some v, none]) rfl ?_
    try dsimp only [cxOf]
    repeat walk_at "rd"
    refine ⟨v, d, _, _, rfl, hd, ?_⟩
    rw [hl]
    cases hb : btw 0 ((slots.length : Nat) - 1 : Int) d with
    | false =>
      repeat walk_at "rd"
      have : liveD slots d = false := by
        cases d with
        | int i =>
          rw [btw_int] at hb
          rw [liveD_int]
          by_cases h0 : 0 ≤ i
          · rw [decide_eq_true h0, Bool.true_and] at hb
            have := of_decide_eq_false hb
            rw [List.getElem?_eq_none (by omega)]
            simp
          · rw [decide_eq_false h0, Bool.false_and]
        | _ => rfl
      rw [this] at k
      exact k
    | true =>
      cases hd with
      | int i =>
        rw [btw_int, Bool.and_eq_true] at hb
        have h0 := of_decide_eq_true hb.1
        have h1 := of_decide_eq_true hb.2
        obtain ⟨n, rfl⟩ : ∃ n : Nat, i = n := ⟨i.toNat, by omega⟩
        have hn : n < slots.length := by omega
        have es := List.getElem?_eq_getElem hn
        repeat walk_at "rd"
        rcases hv n _ es with ⟨e, z⟩ | ⟨r, row, e, z, _⟩
        · have hz : atI vs (n : Int) = some .non := atI_nat z
          repeat walk_at "rd"
          have : liveD slots (.int (n : Int)) = false := by
            rw [liveD_int, Int.toNat_natCast, es, e]
            simp
          rw [this] at k
          exact k
        · have hz : atI vs (n : Int) = some (.ref r) := atI_nat z
          repeat walk_at "rd"
          have : liveD slots (.int (n : Int)) = true := by
            rw [liveD_int, Int.toNat_natCast, es, e]
            simp
          rw [this] at k
          exact k
      | _ => cases hb
/-- a live node passes; what is none is refused -/
def spNeedLX (K : PySem.W.Frag) (C : Addr) : Sp := fun vs H Q E => ∃ (D : Addr) (v : V) (d : PyData) (slots : List (Option Rw)) (outs : List Int), vs = [.ref D, v] ∧ HeapT K H D slots outs ∧ Dp K H v d ∧ ((liveD slots d = true ∧ Q .non H) ∨
  (liveD slots d = false ∧ ∀ dd H', H' dd = some (.xd [("node", v)]) → Kx [] H H' → E (.ref C) (some dd) H'))
theorem ok_needLX {f C_NoNode : Addr} {fd : FuncData} (F : Fun K "need_live" "need_live" sNeedLive f fd) (T : Txt mg) (l_is_live : Lo P w K mg base "is_live" 3 ["heap", "value"] (spIsLiveD K))
    (n_NoNode : LxB P w K mg base "NoNode" C_NoNode 1 ["self", "node"] (spI1 C_NoNode "node") bmLE "LookupError.__new__") : FnOk P w K mg base (L2.CX P w) 4 f fd ["heap", "node"] (spNeedLX K C_NoNode) := by
  refine F.okX scNeedLive (fun vs H Q E h => ?_) (fun cdv A outer s H vs Q E hr h => ?_)
  · obtain ⟨D, v, d, slots, outs, rfl, _⟩ := h
    rfl
  · obtain ⟨D, v, d, slots, outs, rfl, hT, hd, hk⟩ := h
    refine ⟨_, (pss_one (ps_if (pt_not (pt_val (pe_lo l_is_live (hr.mono (by decide)) (by rfl) (pa_cons (pv 0) (pa_cons (pv 1) pa_nil))))) (pss_one (ps_raise rfl (takes_of rfl rfl rfl rfl) (pmk_lx n_NoNode (hr.mono (by decide)) (by rfl) (pa_cons (pv 1) pa_nil)))) pss_nil)), ?_⟩
    refine x_start (σ' := [some (.ref D), some v]) rfl ?_
    try dsimp only [cxOf]
    repeat walk_at "rd"
    refine ⟨D, v, d, slots, outs, rfl, hT, hd, ?_⟩
    rcases hk with ⟨hl, q⟩ | ⟨hl, k⟩
    · rw [hl]
      repeat walk_at "rd"
      refine iteN (by decide) ?_
      repeat walk_at "rd"
      exact q
    · rw [hl]
      repeat walk_at "rd"
      refine iteP (by decide) ?_
      refine x_mk ?_
      repeat walk_at "rd"
      exact x_mkE fun dd H' nd e k' => k dd H' e k'
end

section
variable {P : Program} {w : World} {K : PySem.W.Frag} {mg : Str → Option Value} {base : Heap}

theorem ok_iNN {f : Addr} {fd : FuncData} {C : Addr} (F : Fun K "__init__" "NoNode.__init__" sNoNodeInit f fd) (t : ExB K C bmLE "LookupError.__new__") (hno : PySem.W.takerIn K C "node" = some none) : FnOk P w K mg base CX0 1 f fd ["self", "node"] (spI1 C "node") := by
  refine F.ok scNoNodeInit (fun vs H Q E h => ?_) (fun cdv A outer s H vs Q E hr h => ?_)
  · obtain ⟨a, v, rfl, _⟩ := h
    rfl
  · obtain ⟨a, v, rfl, ha, k⟩ := h
    refine ⟨_, (pss_one (ps_stB exF_LE (pv 0) (pv 1))), ?_⟩
    refine x_start (σ' := [some (.ref a), some v]) rfl ?_
    try dsimp only [cxOf]
    refine ⟨v, rfl, .ref a, rfl, a, C, rfl, t, hno, ha, fun dx hd hne => ?_⟩
    exact k dx hd hne
end

section
variable {P : Program} {w : World} {K : PySem.W.Frag} {mg : Str → Option Value} {base : Heap}

theorem ok_iNR {f : Addr} {fd : FuncData} {C : Addr} (F : Fun K "__init__" "NoReference.__init__" sNoReferenceInit f fd) (t : ExB K C bmLE "LookupError.__new__") (hno : PySem.W.takerIn K C "node" = some none) : FnOk P w K mg base CX0 1 f fd ["self", "node"] (spI1 C "node") := by
  refine F.ok scNoReferenceInit (fun vs H Q E h => ?_) (fun cdv A outer s H vs Q E hr h => ?_)
  · obtain ⟨a, v, rfl, _⟩ := h
    rfl
  · obtain ⟨a, v, rfl, ha, k⟩ := h
    refine ⟨_, (pss_one (ps_stB exF_LE (pv 0) (pv 1))), ?_⟩
    refine x_start (σ' := [some (.ref a), some v]) rfl ?_
    try dsimp only [cxOf]
    refine ⟨v, rfl, .ref a, rfl, a, C, rfl, t, hno, ha, fun dx hd hne => ?_⟩
    exact k dx hd hne
end

section
variable {P : Program} {w : World} {K : PySem.W.Frag} {mg : Str → Option Value} {base : Heap}

theorem ok_iNS {f : Addr} {fd : FuncData} {C : Addr} (F : Fun K "__init__" "NoSlot.__init__" sNoSlotInit f fd) (t : ExB K C bmLE "LookupError.__new__") (hno : PySem.W.takerIn K C "slot" = some none) : FnOk P w K mg base CX0 1 f fd ["self", "slot"] (spI1 C "slot") := by
  refine F.ok scNoSlotInit (fun vs H Q E h => ?_) (fun cdv A outer s H vs Q E hr h => ?_)
  · obtain ⟨a, v, rfl, _⟩ := h
    rfl
  · obtain ⟨a, v, rfl, ha, k⟩ := h
    refine ⟨_, (pss_one (ps_stB exF_LE (pv 0) (pv 1))), ?_⟩
    refine x_start (σ' := [some (.ref a), some v]) rfl ?_
    try dsimp only [cxOf]
    refine ⟨v, rfl, .ref a, rfl, a, C, rfl, t, hno, ha, fun dx hd hne => ?_⟩
    exact k dx hd hne
end

section
variable {P : Program} {w : World} {K : PySem.W.Frag} {mg : Str → Option Value} {base : Heap}

/-- a def that never raises keeps its promise where others may -/
theorem fn_lift {k : Nat} {f : Addr} {fd : FuncData} {ps : List Str} {sp : Sp} (F : FnOk P w K mg base CX0 k f fd ps sp) : FnOk P w K mg base (L2.CX P w) k f fd ps sp := ⟨F.len, fun A outer s H args us vs Q E hr e b r h => codeAny_mono (F.run A outer s H args us vs Q E hr e b r h) fun r s' hq => by
  match r, hq with
  | .ok (.ret u), hq => exact hq
  | .ok .next, hq => exact hq.elim
  | .ok .brk, hq => exact hq.elim
  | .ok .cont, hq => exact hq.elim
  | .error e, hq => exact False.elim hq⟩
theorem fn_or {k : Nat} {f : Addr} {fd : FuncData} {ps : List Str} {sp sp' : Sp} (F : FnOk P w K mg base (L2.CX P w) k f fd ps sp) (G : FnOk P w K mg base (L2.CX P w) k f fd ps sp') : FnOk P w K mg base (L2.CX P w) k f fd ps (fun vs H Q E => sp vs H Q E ∨ sp' vs H Q E) :=
  ⟨fun vs H Q E h => h.elim (F.len vs H Q E) (G.len vs H Q E), fun A outer s H args us vs Q E hr e b r h => h.elim (F.run A outer s H args us vs Q E hr e b r) (G.run A outer s H args us vs Q E hr e b r)⟩
/-- a value that cannot be dropped: no live node, or one without an outside reference -/
def BadD (H : Hp) (E : XK) (CN CR : Addr) (slots : List (Option Rw)) (outs : List Int) (v : V) (d : PyData) : Prop :=
  (liveD slots d = false ∧ ∀ dd H', H' dd = some (.xd [("node", v)]) → Kx [] H H' → E (.ref CN) (some dd) H') ∨
  (∃ n : Nat, d = .int n ∧ isLive slots n = true ∧ outs[n]? = some 0 ∧ ∀ dd H', H' dd = some (.xd [("node", v)]) → Kx [] H H' → E (.ref CR) (some dd) H')
def spNeedRX (K : PySem.W.Frag) (CN CR CS : Addr) : Sp := fun vs H Q E => ∃ (D : Addr) (v : V) (d : PyData) (slots : List (Option Rw)) (outs : List Int), vs = [.ref D, v] ∧ HeapT K H D slots outs ∧ Dp K H v d ∧ BadD H E CN CR slots outs v d
theorem ok_needRX {f C_NoNode C_NoReference C_NoSlot : Addr} {fd : FuncData} (F : Fun K "need_reference" "need_reference" sNeedReference f fd) (T : Txt mg) (e_need_live : LoX P w K mg base "need_live" 4 ["heap", "node"] (spNeedLX K C_NoNode))
    (n_NoReference : LxB P w K mg base "NoReference" C_NoReference 1 ["self", "node"] (spI1 C_NoReference "node") bmLE "LookupError.__new__") : FnOk P w K mg base (L2.CX P w) 5 f fd ["heap", "node"] (spNeedRX K C_NoNode C_NoReference C_NoSlot) := by
  refine F.okX scNeedReference (fun vs H Q E h => ?_) (fun cdv A outer s H vs Q E hr h => ?_)
  · obtain ⟨D, v, d, slots, outs, rfl, _⟩ := h
    rfl
  · obtain ⟨D, v, d, slots, outs, rfl, hT, hd, hk⟩ := h
    refine ⟨_, (pss_cons (ps_expr (pe_loX e_need_live (takes_of rfl rfl rfl rfl) (hr.mono (by decide)) (by rfl) (pa_cons (pv 0) (pa_cons (pv 1) pa_nil))))
      (pss_one (ps_if (pt_cmpR op_eq (pe_ix ix_tup (pe_ix ix_tup (pv 0) pe_int (fun _ _ => rfl)) (pv 1) (fun _ _ => rfl)) pe_int (nomark _)) (pss_one (ps_raise rfl (takes_of rfl rfl rfl rfl) (pmk_lx n_NoReference (hr.mono (by decide)) (by rfl) (pa_cons (pv 1) pa_nil)))) pss_nil))), ?_⟩
    refine x_start (σ' := [some (.ref D), some v]) rfl ?_
    try dsimp only [cxOf]
    repeat walk_at "rd"
    refine x_cW ?_
    repeat walk_at "rd"
    rcases hk with ⟨hl, k⟩ | ⟨n, rfl, hl, hz, k⟩
    · exact ⟨D, v, d, slots, outs, rfl, hT, hd, .inr ⟨hl, k⟩⟩
    · refine ⟨D, v, _, slots, outs, rfl, hT, hd, .inl ⟨by rw [liveD_int, Int.toNat_natCast]; unfold isLive at hl; rw [hl]; simp, ?_⟩⟩
      cases hd
      obtain ⟨S, O, vs, hD, hS, hO, hvl, hv⟩ := hT.ex
      have hat : atI (outs.map V.int) (n : Int) = some (.int 0) := atI_nat (by rw [List.getElem?_map, hz]; rfl)
      repeat walk_at "rd"
      refine iteP (by decide) ?_
      refine x_mk ?_
      repeat walk_at "rd"
      exact x_mkE fun dd H' nd e k' => k dd H' e k'
def spDropR (K : PySem.W.Frag) (CN CR CS : Addr) : Sp := fun vs H Q E => ∃ (D : Addr) (v : V) (d : PyData) (slots : List (Option Rw)) (outs : List Int) (lim : Int), vs = [.ref D, v, .int lim] ∧ HeapT K H D slots outs ∧ Dp K H v d ∧ BadD H E CN CR slots outs v d
theorem ok_runR {f C_NoNode C_NoReference C_NoSlot : Addr} {fd : FuncData} {C : Addr} (F : Fun K "run_drop" "run_drop" sRunDrop f fd) (T : Txt mg) (hC : ClR K C) (cR : Cls K C) (e_need_reference : LoX P w K mg base "need_reference" 5 ["heap", "node"] (spNeedRX K C_NoNode C_NoReference C_NoSlot))
    (n_Releasing : Ln P w K mg base C "Releasing" 3 ["self", "heap", "limit"] (spMInit K C)) (m_drop : Lm P w K mg base C "drop" 4 ["self", "node"] (spMDrop K C)) : FnOk P w K mg base (L2.CX P w) 6 f fd ["heap", "node", "limit"] (spDropR K C_NoNode C_NoReference C_NoSlot) := by
  refine F.okX scRunDrop (fun vs H Q E h => ?_) (fun cdv A outer s H vs Q E hr h => ?_)
  · obtain ⟨D, v, d, slots, outs, lim, rfl, _⟩ := h
    rfl
  · obtain ⟨D, v, d, slots, outs, lim, rfl, hT, hd, hk⟩ := h
    refine ⟨_, (pss_cons (ps_expr (pe_loX e_need_reference (takes_of rfl rfl rfl rfl) (hr.mono (by decide)) (by rfl) (pa_cons (pv 0) (pa_cons (pv 1) pa_nil))))
      (pss_cons (ps_set (i := 3) scRunDrop.nd rfl (Or.inl rfl) (pe_ln n_Releasing (hr.mono (by decide)) (by rfl) (pa_cons (pv 0) (pa_cons (pv 2) pa_nil))))
      (pss_cons (ps_expr (pe_lm m_drop cR (hr.mono (by decide)) (pv 3) (pa_cons (pv 1) pa_nil)))
      (pss_one (ps_ret (pv 3)))))), ?_⟩
    refine x_start (σ' := [some (.ref D), some v, some (.int lim), none]) rfl ?_
    try dsimp only [cxOf]
    repeat walk_at "rd"
    refine x_cW ?_
    repeat walk_at "rd"
    exact ⟨D, v, d, slots, outs, rfl, hT, hd, hk⟩
theorem ok_dropR {f C_NoNode C_NoReference C_NoSlot C : Addr} {fd : FuncData} (F : Fun K "drop" "drop" sDrop f fd) (T : Txt mg) (cR : Cls K C) (e_run_drop : LoX P w K mg base "run_drop" 6 ["heap", "node", "limit"] (spDropR K C_NoNode C_NoReference C_NoSlot)) (m_result : Lm P w K mg base C "result" 1 ["self"] (spResult K C)) : FnOk P w K mg base (L2.CX P w) 7 f fd ["heap", "node", "limit"] (spDropR K C_NoNode C_NoReference C_NoSlot) := by
  refine F.okX scDrop (fun vs H Q E h => ?_) (fun cdv A outer s H vs Q E hr h => ?_)
  · obtain ⟨D, v, d, slots, outs, lim, rfl, _⟩ := h
    rfl
  · obtain ⟨D, v, d, slots, outs, lim, rfl, h⟩ := h
    refine ⟨_, (pss_one (ps_ret (pe_lm0 m_result cR (hr.mono (by decide)) (pe_loX e_run_drop (takes_of rfl rfl rfl rfl) (hr.mono (by decide)) (by rfl) (pa_cons (pv 0) (pa_cons (pv 1) (pa_cons (pv 2) pa_nil))))))), ?_⟩
    refine x_start (σ' := [some (.ref D), some v, some (.int lim)]) rfl ?_
    try dsimp only [cxOf]
    repeat walk_at "rd"
    refine x_cW ?_
    repeat walk_at "rd"
    exact ⟨D, v, d, slots, outs, lim, rfl, h⟩
theorem ok_traceR {f C_NoNode C_NoReference C_NoSlot C : Addr} {fd : FuncData} (F : Fun K "trace" "trace" sTrace f fd) (T : Txt mg) (cR : Cls K C) (e_run_drop : LoX P w K mg base "run_drop" 6 ["heap", "node", "limit"] (spDropR K C_NoNode C_NoReference C_NoSlot)) : FnOk P w K mg base (L2.CX P w) 7 f fd ["heap", "node", "limit"] (spDropR K C_NoNode C_NoReference C_NoSlot) := by
  refine F.okX scTrace (fun vs H Q E h => ?_) (fun cdv A outer s H vs Q E hr h => ?_)
  · obtain ⟨D, v, d, slots, outs, lim, rfl, _⟩ := h
    rfl
  · obtain ⟨D, v, d, slots, outs, lim, rfl, h⟩ := h
    refine ⟨_, (pss_one (ps_ret (pe_callTy call_list_of (by rfl) T.b_list boot'_list (pa_cons (pe_fld (pe_loX e_run_drop (takes_of rfl rfl rfl rfl) (hr.mono (by decide)) (by rfl) (pa_cons (pv 0) (pa_cons (pv 1) (pa_cons (pv 2) pa_nil)))) rfl) pa_nil)))), ?_⟩
    refine x_start (σ' := [some (.ref D), some v, some (.int lim)]) rfl ?_
    try dsimp only [cxOf]
    repeat walk_at "rd"
    refine x_cW ?_
    repeat walk_at "rd"
    exact ⟨D, v, d, slots, outs, lim, rfl, h⟩
/-- what a slot's filling refuses -/
def BadS (H : Hp) (E : XK) (CN CS : Addr) (slots : List (Option Rw)) (v1 v2 v3 : V) (d1 d2 d3 : PyData) : Prop :=
  (liveD slots d1 = false ∧ ∀ dd H', H' dd = some (.xd [("node", v1)]) → Kx [] H H' → E (.ref CN) (some dd) H') ∨
  (∃ (n : Nat) (row : Rw), d1 = .int n ∧ slots[n]? = some (some row) ∧
    ((btw 0 ((row.length : Nat) - 1 : Int) d2 = false ∧ ∀ dd H', H' dd = some (.xd [("slot", v2)]) → Kx [] H H' → E (.ref CS) (some dd) H') ∨
     (btw 0 ((row.length : Nat) - 1 : Int) d2 = true ∧ d3 ≠ .none ∧ liveD slots d3 = false ∧ ∀ dd H', H' dd = some (.xd [("node", v3)]) → Kx [] H H' → E (.ref CN) (some dd) H')))
def spPutR (K : PySem.W.Frag) (CN CS : Addr) : Sp := fun vs H Q E => ∃ (D : Addr) (v1 v2 v3 : V) (d1 d2 d3 : PyData) (slots : List (Option Rw)) (outs : List Int) (lim : Int), vs = [.ref D, v1, v2, v3, .int lim] ∧ HeapT K H D slots outs ∧ Dp K H v1 d1 ∧ Dp K H v2 d2 ∧ Dp K H v3 d3 ∧ BadS H E CN CS slots v1 v2 v3 d1 d2 d3
theorem ok_runPutR {f C_NoNode C_NoSlot C : Addr} {fd : FuncData} (F : Fun K "run_put" "run_put" sRunPut f fd) (T : Txt mg) (hC : ClR K C) (cR : Cls K C) (e_need_live : LoX P w K mg base "need_live" 4 ["heap", "node"] (spNeedLX K C_NoNode)) (l_is_between : Lo P w K mg base "is_between" 2 ["value", "low", "high"] (spBtw K)) (l_is_live : Lo P w K mg base "is_live" 3 ["heap", "value"] (spIsLiveD K))
    (n_NoNode : LxB P w K mg base "NoNode" C_NoNode 1 ["self", "node"] (spI1 C_NoNode "node") bmLE "LookupError.__new__") (n_NoSlot : LxB P w K mg base "NoSlot" C_NoSlot 1 ["self", "slot"] (spI1 C_NoSlot "slot") bmLE "LookupError.__new__")
    (n_Releasing : Ln P w K mg base C "Releasing" 3 ["self", "heap", "limit"] (spMInit K C)) (m_put : Lm P w K mg base C "put" 5 ["self", "node", "slot", "target"] (spPut K C)) : FnOk P w K mg base (L2.CX P w) 6 f fd ["heap", "node", "slot", "target", "limit"] (spPutR K C_NoNode C_NoSlot) := by
  refine F.okX scRunPut (fun vs H Q E h => ?_) (fun cdv A outer s H vs Q E hr h => ?_)
  · obtain ⟨D, v1, v2, v3, d1, d2, d3, slots, outs, lim, rfl, _⟩ := h
    rfl
  · obtain ⟨D, v1, v2, v3, d1, d2, d3, slots, outs, lim, rfl, hT, h1, h2, h3, hk⟩ := h
    refine ⟨_, (pss_cons (ps_expr (pe_loX e_need_live (takes_of rfl rfl rfl rfl) (hr.mono (by decide)) (by rfl) (pa_cons (pv 0) (pa_cons (pv 1) pa_nil))))
      (pss_cons (ps_if (pt_not (pt_val (pe_lo l_is_between (hr.mono (by decide)) (by rfl) (pa_cons (pv 2) (pa_cons pe_int (pa_cons (pe_op op_sub (pe_callB call_len_seq (by rfl) T.b_len boot'_len (pa_cons (pe_ix ix_tup (pe_ix ix_tup (pv 0) pe_int (fun _ _ => rfl)) (pv 1) (fun _ _ => rfl)) pa_nil)) pe_int) pa_nil)))))) (pss_one (ps_raise rfl (takes_of rfl rfl rfl rfl) (pmk_lx n_NoSlot (hr.mono (by decide)) (by rfl) (pa_cons (pv 2) pa_nil)))) pss_nil)
      (pss_cons (ps_if ((pw_and (pt_cmpR op_notN1 (pv 3) pe_non (nomark _)) (pw_and1 (pt_not (pt_val (pe_lo l_is_live (hr.mono (by decide)) (by rfl) (pa_cons (pv 0) (pa_cons (pv 3) pa_nil)))))))).pt (pss_one (ps_raise rfl (takes_of rfl rfl rfl rfl) (pmk_lx n_NoNode (hr.mono (by decide)) (by rfl) (pa_cons (pv 3) pa_nil)))) pss_nil)
      (pss_cons (ps_set (i := 5) scRunPut.nd rfl (Or.inl rfl) (pe_ln n_Releasing (hr.mono (by decide)) (by rfl) (pa_cons (pv 0) (pa_cons (pv 4) pa_nil))))
      (pss_cons (ps_expr (pe_lm m_put cR (hr.mono (by decide)) (pv 5) (pa_cons (pv 1) (pa_cons (pv 2) (pa_cons (pv 3) pa_nil)))))
      (pss_one (ps_ret (pv 5)))))))), ?_⟩
    refine x_start (σ' := [some (.ref D), some v1, some v2, some v3, some (.int lim), none]) rfl ?_
    try dsimp only [cxOf]
    repeat walk_at "rd"
    refine x_cW ?_
    repeat walk_at "rd"
    rcases hk with ⟨hl, k⟩ | ⟨n, row, rfl, er, hk⟩
    · exact ⟨D, v1, d1, slots, outs, rfl, hT, h1, .inr ⟨hl, k⟩⟩
    · refine ⟨D, v1, _, slots, outs, rfl, hT, h1, .inl ⟨by rw [liveD_int, Int.toNat_natCast, er]; simp, ?_⟩⟩
      cases h1
      obtain ⟨S, O, vs, hD, hS, hO, hvl, hv⟩ := id hT.ex
      rcases hv n _ er with ⟨e', _⟩ | ⟨r, row', e', zr, hR⟩
      · cases e'
      cases Option.some.inj e'
      have hatS : atI vs (n : Int) = some (V.ref r) := atI_nat zr
      have hrl : (rowV row).length = row.length := by unfold rowV; exact List.length_map _
      repeat walk_at "rd"
      rw [hrl]
      refine ⟨v2, d2, _, _, rfl, h2, ?_⟩
      rcases hk with ⟨hb, k⟩ | ⟨hb, h3n, hl3, k⟩
      · rw [hb]
        repeat walk_at "rd"
        refine iteP (by decide) ?_
        refine x_mk ?_
        repeat walk_at "rd"
        exact x_mkE fun dd H' nd e k' => k dd H' e k'
      · rw [hb]
        repeat walk_at "rd"
        refine iteN (by decide) ?_
        repeat walk_at "rd"
        have hv3 : v3 ≠ .non := by
          cases h3 <;> simp_all
        refine iteP (by simp [hv3]) ?_
        repeat walk_at "rd"
        refine ⟨D, v3, d3, slots, outs, rfl, hT, h3, ?_⟩
        rw [hl3]
        repeat walk_at "rd"
        try refine iteP (by decide) ?_
        refine x_mk ?_
        repeat walk_at "rd"
        exact x_mkE fun dd H' nd e k' => k dd H' e k'
theorem ok_setR {f C_NoNode C_NoSlot C : Addr} {fd : FuncData} (F : Fun K "set_slot" "set_slot" sSetSlot f fd) (T : Txt mg) (cR : Cls K C) (e_run_put : LoX P w K mg base "run_put" 6 ["heap", "node", "slot", "target", "limit"] (spPutR K C_NoNode C_NoSlot)) (m_result : Lm P w K mg base C "result" 1 ["self"] (spResult K C)) : FnOk P w K mg base (L2.CX P w) 7 f fd ["heap", "node", "slot", "target", "limit"] (spPutR K C_NoNode C_NoSlot) := by
  refine F.okX scSetSlot (fun vs H Q E h => ?_) (fun cdv A outer s H vs Q E hr h => ?_)
  · obtain ⟨D, v1, v2, v3, d1, d2, d3, slots, outs, lim, rfl, _⟩ := h
    rfl
  · obtain ⟨D, v1, v2, v3, d1, d2, d3, slots, outs, lim, rfl, h⟩ := h
    refine ⟨_, (pss_one (ps_ret (pe_lm0 m_result cR (hr.mono (by decide)) (pe_loX e_run_put (takes_of rfl rfl rfl rfl) (hr.mono (by decide)) (by rfl) (pa_cons (pv 0) (pa_cons (pv 1) (pa_cons (pv 2) (pa_cons (pv 3) (pa_cons (pv 4) pa_nil))))))))), ?_⟩
    refine x_start (σ' := [some (.ref D), some v1, some v2, some v3, some (.int lim)]) rfl ?_
    try dsimp only [cxOf]
    repeat walk_at "rd"
    refine x_cW ?_
    repeat walk_at "rd"
    exact ⟨D, v1, v2, v3, d1, d2, d3, slots, outs, lim, rfl, h⟩
def spEmpR (K : PySem.W.Frag) (CN : Addr) : Sp := fun vs H Q E => ∃ (D : Addr) (v : V) (d : PyData) (slots : List (Option Rw)) (outs : List Int) (lim : Int), vs = [.ref D, v, .int lim] ∧ HeapT K H D slots outs ∧ Dp K H v d ∧ liveD slots d = false ∧ ∀ dd H', H' dd = some (.xd [("node", v)]) → Kx [] H H' → E (.ref CN) (some dd) H'
theorem ok_runEmpR {f C_NoNode C : Addr} {fd : FuncData} (F : Fun K "run_empty" "run_empty" sRunEmpty f fd) (T : Txt mg) (hC : ClR K C) (cR : Cls K C) (e_need_live : LoX P w K mg base "need_live" 4 ["heap", "node"] (spNeedLX K C_NoNode))
    (n_Releasing : Ln P w K mg base C "Releasing" 3 ["self", "heap", "limit"] (spMInit K C)) (m_empty : Lm P w K mg base C "empty" 6 ["self", "node"] (spEmpty K C)) : FnOk P w K mg base (L2.CX P w) 7 f fd ["heap", "node", "limit"] (spEmpR K C_NoNode) := by
  refine F.okX scRunEmpty (fun vs H Q E h => ?_) (fun cdv A outer s H vs Q E hr h => ?_)
  · obtain ⟨D, v, d, slots, outs, lim, rfl, _⟩ := h
    rfl
  · obtain ⟨D, v, d, slots, outs, lim, rfl, hT, hd, hl, k⟩ := h
    refine ⟨_, (pss_cons (ps_expr (pe_loX e_need_live (takes_of rfl rfl rfl rfl) (hr.mono (by decide)) (by rfl) (pa_cons (pv 0) (pa_cons (pv 1) pa_nil))))
      (pss_cons (ps_set (i := 3) scRunEmpty.nd rfl (Or.inl rfl) (pe_ln n_Releasing (hr.mono (by decide)) (by rfl) (pa_cons (pv 0) (pa_cons (pv 2) pa_nil))))
      (pss_cons (ps_expr (pe_lm m_empty cR (hr.mono (by decide)) (pv 3) (pa_cons (pv 1) pa_nil)))
      (pss_one (ps_ret (pv 3)))))), ?_⟩
    refine x_start (σ' := [some (.ref D), some v, some (.int lim), none]) rfl ?_
    try dsimp only [cxOf]
    repeat walk_at "rd"
    refine x_cW ?_
    repeat walk_at "rd"
    exact ⟨D, v, d, slots, outs, rfl, hT, hd, .inr ⟨hl, k⟩⟩
theorem ok_esR {f C_NoNode C : Addr} {fd : FuncData} (F : Fun K "empty_slots" "empty_slots" sEmptySlots f fd) (T : Txt mg) (cR : Cls K C) (e_run_empty : LoX P w K mg base "run_empty" 7 ["heap", "node", "limit"] (spEmpR K C_NoNode)) (m_result : Lm P w K mg base C "result" 1 ["self"] (spResult K C)) : FnOk P w K mg base (L2.CX P w) 8 f fd ["heap", "node", "limit"] (spEmpR K C_NoNode) := by
  refine F.okX scEmptySlots (fun vs H Q E h => ?_) (fun cdv A outer s H vs Q E hr h => ?_)
  · obtain ⟨D, v, d, slots, outs, lim, rfl, _⟩ := h
    rfl
  · obtain ⟨D, v, d, slots, outs, lim, rfl, h⟩ := h
    refine ⟨_, (pss_one (ps_ret (pe_lm0 m_result cR (hr.mono (by decide)) (pe_loX e_run_empty (takes_of rfl rfl rfl rfl) (hr.mono (by decide)) (by rfl) (pa_cons (pv 0) (pa_cons (pv 1) (pa_cons (pv 2) pa_nil))))))), ?_⟩
    refine x_start (σ' := [some (.ref D), some v, some (.int lim)]) rfl ?_
    try dsimp only [cxOf]
    repeat walk_at "rd"
    refine x_cW ?_
    repeat walk_at "rd"
    exact ⟨D, v, d, slots, outs, lim, rfl, h⟩
end


section
variable {P : Program} {w : World} {K : PySem.W.Frag} {mg : Str → Option Value} {base : Heap}

structure NNx (K : PySem.W.Frag) (C_HeapError C_MissingError C_NoNode C_NoPosition C_NoReference C_NoSlot C_NotFreed C_UndoError : Addr) : Prop where
  xf : XfC K C_NoNode
  ec : ExcC K C_NoNode
  hno : PySem.W.findIn K (.ref C_NoNode) "node" = some none
  i1 : PySem.W.kitOne K (.ref C_NoNode) (.ref C_NoNode) = some true
  i2 : PySem.W.kitOne K (.ref C_NoNode) (.ref C_NoReference) = some false
  i3 : PySem.W.kitOne K (.ref C_NoNode) (.ref C_NoSlot) = some false
  i4 : PySem.W.kitAny K (.ref C_NoNode) [.ref C_HeapError, .ref C_NotFreed, .ref C_NoPosition, .ref C_UndoError] = some false
  i5 : PySem.W.kitOne K (.ref C_NoNode) (.type "LookupError") = some true
  te : PySem.W.exmAny K (.ref C_NoNode) [.ref C_HeapError, .ref C_MissingError] = some true
structure NRx (K : PySem.W.Frag) (C_HeapError C_MissingError C_NoNode C_NoPosition C_NoReference C_NoSlot C_NotFreed C_UndoError : Addr) : Prop where
  xf : XfC K C_NoReference
  ec : ExcC K C_NoReference
  hno : PySem.W.findIn K (.ref C_NoReference) "node" = some none
  i1 : PySem.W.kitOne K (.ref C_NoReference) (.ref C_NoNode) = some false
  i2 : PySem.W.kitOne K (.ref C_NoReference) (.ref C_NoReference) = some true
  i3 : PySem.W.kitOne K (.ref C_NoReference) (.ref C_NoSlot) = some false
  i4 : PySem.W.kitAny K (.ref C_NoReference) [.ref C_HeapError, .ref C_NotFreed, .ref C_NoPosition, .ref C_UndoError] = some false
  i5 : PySem.W.kitOne K (.ref C_NoReference) (.type "LookupError") = some true
  te : PySem.W.exmAny K (.ref C_NoReference) [.ref C_HeapError, .ref C_MissingError] = some true
structure NSx (K : PySem.W.Frag) (C_HeapError C_MissingError C_NoNode C_NoPosition C_NoReference C_NoSlot C_NotFreed C_UndoError : Addr) : Prop where
  xf : XfC K C_NoSlot
  ec : ExcC K C_NoSlot
  hno : PySem.W.findIn K (.ref C_NoSlot) "slot" = some none
  i1 : PySem.W.kitOne K (.ref C_NoSlot) (.ref C_NoNode) = some false
  i2 : PySem.W.kitOne K (.ref C_NoSlot) (.ref C_NoReference) = some false
  i3 : PySem.W.kitOne K (.ref C_NoSlot) (.ref C_NoSlot) = some true
  i4 : PySem.W.kitAny K (.ref C_NoSlot) [.ref C_HeapError, .ref C_NotFreed, .ref C_NoPosition, .ref C_UndoError] = some false
  i5 : PySem.W.kitOne K (.ref C_NoSlot) (.type "LookupError") = some true
  te : PySem.W.exmAny K (.ref C_NoSlot) [.ref C_HeapError, .ref C_MissingError] = some true

/-- how a call ends -/
inductive Out
  | fine
  | node (v : V)
  | ref (v : V)
  | slot (v : V)
/-- the lambda's run ends so -/
def OutE (CN CR CS : Addr) (o : Out) (E : XK) (Qn : VK) (H : Hp) : Prop := match o with
  | .fine => ∀ v H', Kx [] H H' → Qn v H'
  | .node v => ∀ dd H', H' dd = some (.xd [("node", v)]) → Kx [] H H' → E (.ref CN) (some dd) H'
  | .ref v => ∀ dd H', H' dd = some (.xd [("node", v)]) → Kx [] H H' → E (.ref CR) (some dd) H'
  | .slot v => ∀ dd H', H' dd = some (.xd [("slot", v)]) → Kx [] H H' → E (.ref CS) (some dd) H'
/-- and the word of it is this -/
def OutQ (o : Out) (Q : VK) (H : Hp) : Prop := match o with
  | .fine => ∀ H', Kx [] H H' → Q .non H'
  | .node v => ∀ L H', H L = none → Kx [] H H' → H' L = some (.tup [.str "node", v]) → Q (.ref L) H'
  | .ref v => ∀ L H', H L = none → Kx [] H H' → H' L = some (.tup [.str "reference", v]) → Q (.ref L) H'
  | .slot v => ∀ L H', H L = none → Kx [] H H' → H' L = some (.tup [.str "slot", v]) → Q (.ref L) H'
def TTm (CN CR CS : Addr) : (XK → Hp → VK → Prop) → Hp → VK → Prop := fun tl H Q => ∃ o : Out, (∀ (E : XK) (Qn : VK), OutE CN CR CS o E Qn H → tl E H Qn) ∧ OutQ o Q H
theorem gives_missing {X : Cx} {C_HeapError C_MissingError C_NoNode C_NoPosition C_NoReference C_NoSlot C_NotFreed C_UndoError g : Addr} {cdg : Value} {q : Str} {k : Nat} (T : Txt X.mg) (c_HeapError : X.mg "HeapError" = some (.ref C_HeapError)) (c_MissingError : X.mg "MissingError" = some (.ref C_MissingError)) (c_NoNode : X.mg "NoNode" = some (.ref C_NoNode)) (c_NoPosition : X.mg "NoPosition" = some (.ref C_NoPosition)) (c_NoReference : X.mg "NoReference" = some (.ref C_NoReference)) (c_NoSlot : X.mg "NoSlot" = some (.ref C_NoSlot)) (c_NotFreed : X.mg "NotFreed" = some (.ref C_NotFreed)) (c_UndoError : X.mg "UndoError" = some (.ref C_UndoError)) (NN : NNx X.K C_HeapError C_MissingError C_NoNode C_NoPosition C_NoReference C_NoSlot C_NotFreed C_UndoError) (NR : NRx X.K C_HeapError C_MissingError C_NoNode C_NoPosition C_NoReference C_NoSlot C_NotFreed C_UndoError) (NS : NSx X.K C_HeapError C_MissingError C_NoNode C_NoPosition C_NoReference C_NoSlot C_NotFreed C_UndoError) : Gives X ["_law_call", "_law_caught", "error", "_law_marks", "_law_others"] "_law_missing" sQMissing g cdg "_law_call" q k (TTm C_NoNode C_NoReference C_NoSlot) := by
  rintro f c' s H Q tl hr act hc ⟨o, hrun, hq⟩
  generalize X.prog = P at *
  generalize X.w = w at *
  generalize X.K = K at *
  generalize X.mg = mg at *
  generalize X.base = base at *
  generalize X.A = A at *
  generalize X.stack = stk at *
  refine ⟨_, (pss_cons (ps_set (i := 1) scQMissing.nd rfl (Or.inl rfl) pe_non)
      (pss_cons (ps_try_kp2 (i := 2) rfl rfl rfl scQMissing.nd rfl rfl ⟨rfl, by decide, Or.inl c_HeapError⟩ ⟨rfl, by decide, Or.inl c_MissingError⟩ (fun W pn xe tk po => (pss_one (ps_act (act W pn xe _ _ tk)))) (fun a oe cls d pn hz hf => by exact (pss_one (ps_set (i := 1) scQMissing.nd rfl (Or.inl rfl) (pv 2)))))
      (pss_cons (ps_if (pt_cmpR op_isN1 (pv 1) pe_non (nomark _)) (pss_one (ps_ret pe_non)) pss_nil)
      (pss_cons (ps_set (i := 3) scQMissing.nd rfl (Or.inl rfl) (pe_lst (pa_cons (pe_callB call_isK (by rfl) T.b_isinstance boot'_isinstance (pa_cons (pv 1) (pa_cons (pe_glob (v := .ref C_NoNode) (by rfl) c_NoNode rfl) pa_nil))) (pa_cons (pe_callB call_isK (by rfl) T.b_isinstance boot'_isinstance (pa_cons (pv 1) (pa_cons (pe_glob (v := .ref C_NoReference) (by rfl) c_NoReference rfl) pa_nil))) (pa_cons (pe_callB call_isK (by rfl) T.b_isinstance boot'_isinstance (pa_cons (pv 1) (pa_cons (pe_glob (v := .ref C_NoSlot) (by rfl) c_NoSlot rfl) pa_nil))) pa_nil)))))
      (pss_cons (ps_set (i := 4) scQMissing.nd rfl (Or.inl rfl) (pe_callB call_isK (by rfl) T.b_isinstance boot'_isinstance (pa_cons (pv 1) (pa_cons (pe_tup (pa_cons (pe_glob (v := .ref C_HeapError) (by rfl) c_HeapError rfl) (pa_cons (pe_glob (v := .ref C_NotFreed) (by rfl) c_NotFreed rfl) (pa_cons (pe_glob (v := .ref C_NoPosition) (by rfl) c_NoPosition rfl) (pa_cons (pe_glob (v := .ref C_UndoError) (by rfl) c_UndoError rfl) pa_nil))))) pa_nil))))
      (pss_cons (ps_if ((pw_or (pt_cmpR op_ne (pe_bm PySem.F.plainAttrs_list PySem.F.slot_list_count PySem.F.type_list_count (mt_countB hr.units) (pv 3) (pa_cons pe_bl pa_nil)) pe_int (nomark _)) (pw_or (pt_val (pv 4)) (pw_or1 (pt_not (pt_val (pe_callB call_isK (by rfl) T.b_isinstance boot'_isinstance (pa_cons (pv 1) (pa_cons (pe_bltn (v := .ty "LookupError") (by rfl) T.b_LookupError boot'_LookupError rfl) pa_nil))))))))).pt (pss_one (ps_ret (pe_tup (pa_cons pe_str pa_nil)))) pss_nil)
      (pss_cons (ps_if (pt_val (pe_ix ix_list (pv 3) pe_int (fun _ _ => rfl))) (pss_one (ps_ret (pe_tup (pa_cons pe_str (pa_cons (pe_xk (pv 1)) pa_nil))))) pss_nil)
      (pss_one (ps_ret (pe_tup (pa_cons (pe_ix ix_list (pe_lst (pa_cons pe_str (pa_cons pe_str pa_nil))) (pe_bm PySem.F.plainAttrs_list PySem.F.slot_list_index PySem.F.type_list_index mt_index (pv 3) (pa_cons pe_bl pa_nil)) (fun _ _ => rfl)) (pa_cons (pe_xk (pv 1)) pa_nil)))))))))))), ?_⟩
  refine x_start (σ' := [some (.ref f), none, none, none, none]) rfl ?_
  try dsimp only [cxOf]
  repeat walk_at "rd"
  refine ⟨rfl, hc, hrun _ _ ?_⟩
  cases o with
  | fine =>
    intro v H' k'
    repeat walk_at "rd"
    try refine iteP (by simp) ?_
    repeat walk_at "rd"
    exact hq H' k'
  | node v =>
    intro dd H4 edd k4
    refine ⟨NN.te, fun a4 na4 => ?_⟩
    repeat walk_at "rd"
    have k5 := k4.new (o := exk a4 (.ref C_NoNode) (some dd)) na4
    have ea : upd H4 a4 (exk a4 (.ref C_NoNode) (some dd)) a4 = some (exk a4 (.ref C_NoNode) (some dd)) := upd_same
    have ed := lk_ne (o := exk a4 (.ref C_NoNode) (some dd)) edd na4
    generalize upd H4 a4 (exk a4 (.ref C_NoNode) (some dd)) = H5 at *
    refine iteN (by simp) ?_
    repeat walk_at "rd"
    refine x_isK1 NN.ec ea ed (fun u h => h) NN.i1 ?_
    repeat walk_at "rd"
    refine x_isK1 NN.ec ea ed (fun u h => h) NN.i2 ?_
    repeat walk_at "rd"
    refine x_isK1 NN.ec ea ed (fun u h => h) NN.i3 ?_
    repeat walk_at "rd"
    rename_i M nM tt ntt
    have ea6 := lk_ne (o := .tup [V.ref C_HeapError, V.ref C_NotFreed, V.ref C_NoPosition, V.ref C_UndoError]) (lk_ne (o := .lst [V.bl true, V.bl false, V.bl false]) ea nM) ntt
    have ed6 := lk_ne (o := .tup [V.ref C_HeapError, V.ref C_NotFreed, V.ref C_NoPosition, V.ref C_UndoError]) (lk_ne (o := .lst [V.bl true, V.bl false, V.bl false]) ed nM) ntt
    have eM6 := lk_ne (o := .tup [V.ref C_HeapError, V.ref C_NotFreed, V.ref C_NoPosition, V.ref C_UndoError]) (upd_same (H := H5) (a := M) (o := .lst [V.bl true, V.bl false, V.bl false])) ntt
    have et6 := upd_same (H := upd H5 M (.lst [V.bl true, V.bl false, V.bl false])) (a := tt) (o := .tup [V.ref C_HeapError, V.ref C_NotFreed, V.ref C_NoPosition, V.ref C_UndoError])
    have k6 := (k5.new (o := .lst [V.bl true, V.bl false, V.bl false]) nM).new (o := .tup [V.ref C_HeapError, V.ref C_NotFreed, V.ref C_NoPosition, V.ref C_UndoError]) ntt
    generalize upd (upd H5 M (.lst [V.bl true, V.bl false, V.bl false])) tt (.tup [V.ref C_HeapError, V.ref C_NotFreed, V.ref C_NoPosition, V.ref C_UndoError]) = H6 at *
    refine x_isKT NN.ec ea6 ed6 (SqT.of et6) (vals_refs [C_HeapError, C_NotFreed, C_NoPosition, C_UndoError]) NN.i4 ?_
    repeat walk_at "rd"
    refine ⟨ty_list (SqL.of eM6), ?_⟩
    repeat walk_at "rd"
    refine ⟨M, [true, false, false], true, rfl, rfl, SqL.of eM6, ?_⟩
    repeat walk_at "rd"
    refine iteN (by decide) ?_
    repeat walk_at "rd"
    refine x_isK1 NN.ec ea6 ed6 (fun u h => h) NN.i5 ?_
    repeat walk_at "rd"
    refine iteN (by decide) ?_
    repeat walk_at "rd"
    rename_i W nW
    have ea7 := lk_ne (o := .lst [V.str "node", V.str "reference"]) ea6 nW
    have ed7 := lk_ne (o := .lst [V.str "node", V.str "reference"]) ed6 nW
    have eM7 := lk_ne (o := .lst [V.str "node", V.str "reference"]) eM6 nW
    have eW7 := upd_same (H := H6) (a := W) (o := .lst [V.str "node", V.str "reference"])
    have k7 := k6.new (o := .lst [V.str "node", V.str "reference"]) nW
    generalize upd H6 W (.lst [V.str "node", V.str "reference"]) = H7 at *
    refine ⟨ty_list (SqL.of eM7), ?_⟩
    repeat walk_at "rd"
    refine ⟨M, _, _, 0, _, rfl, rfl, SqL.of eM7, rfl, rfl, rfl, rfl, fun m z h => absurd h (Nat.not_lt_zero _), ?_⟩
    refine ⟨W, _, _, _, rfl, rfl, SqL.of eW7, rfl, ?_⟩
    repeat walk_at "rd"
    refine x_xk ?_
    repeat walk_at "rd"
    refine ⟨a4, C_NoNode, dd, _, v, rfl, NN.xf, NN.hno, ea7, ed7, rfl, ?_⟩
    repeat walk_at "rd"
    rename_i L nL
    exact hq L _ (k7.fresh (by simp) nL) (k7.new nL) upd_same
  | ref v =>
    intro dd H4 edd k4
    refine ⟨NR.te, fun a4 na4 => ?_⟩
    repeat walk_at "rd"
    have k5 := k4.new (o := exk a4 (.ref C_NoReference) (some dd)) na4
    have ea : upd H4 a4 (exk a4 (.ref C_NoReference) (some dd)) a4 = some (exk a4 (.ref C_NoReference) (some dd)) := upd_same
    have ed := lk_ne (o := exk a4 (.ref C_NoReference) (some dd)) edd na4
    generalize upd H4 a4 (exk a4 (.ref C_NoReference) (some dd)) = H5 at *
    refine iteN (by simp) ?_
    repeat walk_at "rd"
    refine x_isK1 NR.ec ea ed (fun u h => h) NR.i1 ?_
    repeat walk_at "rd"
    refine x_isK1 NR.ec ea ed (fun u h => h) NR.i2 ?_
    repeat walk_at "rd"
    refine x_isK1 NR.ec ea ed (fun u h => h) NR.i3 ?_
    repeat walk_at "rd"
    rename_i M nM tt ntt
    have ea6 := lk_ne (o := .tup [V.ref C_HeapError, V.ref C_NotFreed, V.ref C_NoPosition, V.ref C_UndoError]) (lk_ne (o := .lst [V.bl false, V.bl true, V.bl false]) ea nM) ntt
    have ed6 := lk_ne (o := .tup [V.ref C_HeapError, V.ref C_NotFreed, V.ref C_NoPosition, V.ref C_UndoError]) (lk_ne (o := .lst [V.bl false, V.bl true, V.bl false]) ed nM) ntt
    have eM6 := lk_ne (o := .tup [V.ref C_HeapError, V.ref C_NotFreed, V.ref C_NoPosition, V.ref C_UndoError]) (upd_same (H := H5) (a := M) (o := .lst [V.bl false, V.bl true, V.bl false])) ntt
    have et6 := upd_same (H := upd H5 M (.lst [V.bl false, V.bl true, V.bl false])) (a := tt) (o := .tup [V.ref C_HeapError, V.ref C_NotFreed, V.ref C_NoPosition, V.ref C_UndoError])
    have k6 := (k5.new (o := .lst [V.bl false, V.bl true, V.bl false]) nM).new (o := .tup [V.ref C_HeapError, V.ref C_NotFreed, V.ref C_NoPosition, V.ref C_UndoError]) ntt
    generalize upd (upd H5 M (.lst [V.bl false, V.bl true, V.bl false])) tt (.tup [V.ref C_HeapError, V.ref C_NotFreed, V.ref C_NoPosition, V.ref C_UndoError]) = H6 at *
    refine x_isKT NR.ec ea6 ed6 (SqT.of et6) (vals_refs [C_HeapError, C_NotFreed, C_NoPosition, C_UndoError]) NR.i4 ?_
    repeat walk_at "rd"
    refine ⟨ty_list (SqL.of eM6), ?_⟩
    repeat walk_at "rd"
    refine ⟨M, [false, true, false], true, rfl, rfl, SqL.of eM6, ?_⟩
    repeat walk_at "rd"
    refine iteN (by decide) ?_
    repeat walk_at "rd"
    refine x_isK1 NR.ec ea6 ed6 (fun u h => h) NR.i5 ?_
    repeat walk_at "rd"
    refine iteN (by decide) ?_
    repeat walk_at "rd"
    rename_i W nW
    have ea7 := lk_ne (o := .lst [V.str "node", V.str "reference"]) ea6 nW
    have ed7 := lk_ne (o := .lst [V.str "node", V.str "reference"]) ed6 nW
    have eM7 := lk_ne (o := .lst [V.str "node", V.str "reference"]) eM6 nW
    have eW7 := upd_same (H := H6) (a := W) (o := .lst [V.str "node", V.str "reference"])
    have k7 := k6.new (o := .lst [V.str "node", V.str "reference"]) nW
    generalize upd H6 W (.lst [V.str "node", V.str "reference"]) = H7 at *
    refine ⟨ty_list (SqL.of eM7), ?_⟩
    repeat walk_at "rd"
    refine ⟨M, _, _, 1, _, rfl, rfl, SqL.of eM7, rfl, rfl, rfl, rfl, (fun m z h e => by have hm : m = 0 := (by omega); subst hm; cases e; rfl), ?_⟩
    refine ⟨W, _, _, _, rfl, rfl, SqL.of eW7, rfl, ?_⟩
    repeat walk_at "rd"
    refine x_xk ?_
    repeat walk_at "rd"
    refine ⟨a4, C_NoReference, dd, _, v, rfl, NR.xf, NR.hno, ea7, ed7, rfl, ?_⟩
    repeat walk_at "rd"
    rename_i L nL
    exact hq L _ (k7.fresh (by simp) nL) (k7.new nL) upd_same
  | slot v =>
    intro dd H4 edd k4
    refine ⟨NS.te, fun a4 na4 => ?_⟩
    repeat walk_at "rd"
    have k5 := k4.new (o := exk a4 (.ref C_NoSlot) (some dd)) na4
    have ea : upd H4 a4 (exk a4 (.ref C_NoSlot) (some dd)) a4 = some (exk a4 (.ref C_NoSlot) (some dd)) := upd_same
    have ed := lk_ne (o := exk a4 (.ref C_NoSlot) (some dd)) edd na4
    generalize upd H4 a4 (exk a4 (.ref C_NoSlot) (some dd)) = H5 at *
    refine iteN (by simp) ?_
    repeat walk_at "rd"
    refine x_isK1 NS.ec ea ed (fun u h => h) NS.i1 ?_
    repeat walk_at "rd"
    refine x_isK1 NS.ec ea ed (fun u h => h) NS.i2 ?_
    repeat walk_at "rd"
    refine x_isK1 NS.ec ea ed (fun u h => h) NS.i3 ?_
    repeat walk_at "rd"
    rename_i M nM tt ntt
    have ea6 := lk_ne (o := .tup [V.ref C_HeapError, V.ref C_NotFreed, V.ref C_NoPosition, V.ref C_UndoError]) (lk_ne (o := .lst [V.bl false, V.bl false, V.bl true]) ea nM) ntt
    have ed6 := lk_ne (o := .tup [V.ref C_HeapError, V.ref C_NotFreed, V.ref C_NoPosition, V.ref C_UndoError]) (lk_ne (o := .lst [V.bl false, V.bl false, V.bl true]) ed nM) ntt
    have eM6 := lk_ne (o := .tup [V.ref C_HeapError, V.ref C_NotFreed, V.ref C_NoPosition, V.ref C_UndoError]) (upd_same (H := H5) (a := M) (o := .lst [V.bl false, V.bl false, V.bl true])) ntt
    have et6 := upd_same (H := upd H5 M (.lst [V.bl false, V.bl false, V.bl true])) (a := tt) (o := .tup [V.ref C_HeapError, V.ref C_NotFreed, V.ref C_NoPosition, V.ref C_UndoError])
    have k6 := (k5.new (o := .lst [V.bl false, V.bl false, V.bl true]) nM).new (o := .tup [V.ref C_HeapError, V.ref C_NotFreed, V.ref C_NoPosition, V.ref C_UndoError]) ntt
    generalize upd (upd H5 M (.lst [V.bl false, V.bl false, V.bl true])) tt (.tup [V.ref C_HeapError, V.ref C_NotFreed, V.ref C_NoPosition, V.ref C_UndoError]) = H6 at *
    refine x_isKT NS.ec ea6 ed6 (SqT.of et6) (vals_refs [C_HeapError, C_NotFreed, C_NoPosition, C_UndoError]) NS.i4 ?_
    repeat walk_at "rd"
    refine ⟨ty_list (SqL.of eM6), ?_⟩
    repeat walk_at "rd"
    refine ⟨M, [false, false, true], true, rfl, rfl, SqL.of eM6, ?_⟩
    repeat walk_at "rd"
    refine iteN (by decide) ?_
    repeat walk_at "rd"
    refine x_isK1 NS.ec ea6 ed6 (fun u h => h) NS.i5 ?_
    repeat walk_at "rd"
    refine iteN (by decide) ?_
    repeat walk_at "rd"
    try refine iteP rfl ?_
    repeat walk_at "rd"
    have ea7 := ea6
    have ed7 := ed6
    have k7 := k6
    repeat walk_at "rd"
    refine x_xk ?_
    repeat walk_at "rd"
    refine ⟨a4, C_NoSlot, dd, _, v, rfl, NS.xf, NS.hno, ea7, ed7, rfl, ?_⟩
    repeat walk_at "rd"
    rename_i L nL
    exact hq L _ (k7.fresh (by simp) nL) (k7.new nL) upd_same

end


section
variable {P : Program} {w : World} {K : PySem.W.Frag} {mg : Str → Option Value} {base : Heap}

/-- all but the tables of code objects and S stay -/
def Ky (S : List Addr) (H H' : Hp) : Prop := ∀ b o, b ∉ S → H b = some o → (∀ ps, o ≠ .tbl ps) → H' b = some o
theorem Ky.of {S : List Addr} {H H' : Hp} (k : Kx S H H') : Ky S H H' := fun b o n e _ => k b o n e
theorem Ky.ext {S : List Addr} {H H' : Hp} (e : LamX.ExtN H H') : Ky S H H' := fun b o _ h n => e b o h n
theorem Ky.trans {S : List Addr} {H H1 H2 : Hp} (a : Ky S H H1) (b : Ky S H1 H2) : Ky S H H2 := fun c o n e t => b c o n (a c o n e t) t
theorem Ky.extN {H H' : Hp} (k : Ky [] H H') : LamX.ExtN H H' := fun b o e n => k b o (by simp) e n
theorem extN_dummy : True := trivial
/-- v is the data d, as long as what lies at L stays -/
structure St (K : PySem.W.Frag) (H : Hp) (v : V) (d : PyData) (L : List Addr) : Prop where
  has : ∀ b ∈ L, ∃ o, H b = some o ∧ ∀ ps, o ≠ .tbl ps
  dp : ∀ H3, (∀ b ∈ L, H3 b = H b) → Dp K H3 v d
theorem St.keep {K : PySem.W.Frag} {H H' : Hp} {v : V} {d : PyData} {L : List Addr} (h : St K H v d L) (k : ∀ b ∈ L, ∀ o, H b = some o → (∀ ps, o ≠ .tbl ps) → H' b = some o) : St K H' v d L := by
  have e : ∀ b ∈ L, H' b = H b := fun b hb => by
    obtain ⟨o, e1, e2⟩ := h.has b hb
    rw [e1, k b hb o e1 e2]
  exact ⟨fun b hb => by rw [e b hb]; exact h.has b hb, fun H3 x => h.dp H3 fun b hb => (x b hb).trans (e b hb)⟩
theorem St.kx {K : PySem.W.Frag} {H H' : Hp} {v : V} {d : PyData} {L S : List Addr} (h : St K H v d L) (k : Kx S H H') (hL : ∀ b ∈ L, b ∉ S) : St K H' v d L := h.keep fun b hb o e _ => k b o (hL b hb) e
theorem St.ext {K : PySem.W.Frag} {H H' : Hp} {v : V} {d : PyData} {L : List Addr} (h : St K H v d L) (x : LamX.ExtN H H') : St K H' v d L := h.keep fun b _ o e n => x b o e n
theorem St.now {K : PySem.W.Frag} {H : Hp} {v : V} {d : PyData} {L : List Addr} (h : St K H v d L) : Dp K H v d := h.dp H fun _ _ => rfl
theorem GoodN.list {L : Nat} {ds : List PyData} {k w n : Nat} (h : ∀ d ∈ ds, GoodN L d k w) (hn : ds.length ≤ n) : GoodN L (.list ds) (k + 1) (n * (w + 1)) := by
  obtain ⟨a1, a2, a3, a4, a5⟩ := goodN_all h
  exact ⟨by simpa only [PyData.showable] using a1, by simpa only [PyData.hasDict] using a2, by simp only [PyData.depth]; omega, by simpa only [PyData.leavesShort] using a4, by simp only [PyData.weight]; exact Nat.le_trans a5 (Nat.mul_le_mul_right _ hn)⟩
theorem GoodN.mono {L : Nat} {d : PyData} {k w k' w' : Nat} (h : GoodN L d k w) (a : k ≤ k') (b : w ≤ w') : GoodN L d k' w' := ⟨h.sh, h.nd, Nat.le_trans h.dp a, h.sl, Nat.le_trans h.wt b⟩
def spOdd (K : PySem.W.Frag) : Sp := fun vs H Q _ => ∃ (p c : Addr) (n m : Nat), vs = [.ref p, .int m] ∧ PenAt H p c n ∧ n < 900000 ∧ m ≤ 40 ∧
  ∀ v d (L : List Addr) H', Kx [p] H H' → PenAt H' p c (n + 1) → (∀ b ∈ L, H b = none) → St K H' v d L → GoodN 130 d 1 1000 → Q v H'
theorem ok_odd {f : Addr} {fd : FuncData} (F : Fun K "_law_odd" "_law_odd" sQOdd f fd) (T : Txt mg) (l_law_draw : Lo P w K mg base "_law_draw" 1 ["_law_pen_here", "_law_most_one"] spDraw) : FnOk P w K mg base CX0 2 f fd ["_law_pen_here", "_law_size"] (spOdd K) := by
  refine F.ok scQOdd (fun vs H Q E h => ?_) (fun cdv A outer s H vs Q E hr h => ?_)
  · obtain ⟨p, c, n, m, rfl, _⟩ := h
    rfl
  · obtain ⟨p, c, n, m, rfl, hpen, hn, hm, k⟩ := h
    have e30 : (10 : Int) ^ (30 : Int).toNat = 1000000000000000000000000000000 := by decide +kernel
    have e60 : (10 : Int) ^ (60 : Int).toNat = 1000000000000000000000000000000000000000000000000000000000000 := by decide +kernel
    refine ⟨_, (pss_one (ps_ret (pe_ix ix_list (pe_lst (pa_cons (pv 1) (pa_cons (pe_un un_neg pe_int) (pa_cons pe_bl (pa_cons pe_bl (pa_cons pe_non (pa_cons pe_str (pa_cons (pe_tup (pa_cons pe_int pa_nil)) (pa_cons (pe_lst (pa_cons pe_int pa_nil)) (pa_cons (pe_op op_pow pe_int pe_int) (pa_cons (pe_op op_sub pe_int (pe_op op_pow pe_int pe_int)) (pa_cons (pe_tup pa_nil) (pa_cons pe_int pa_nil))))))))))))) (pe_lo l_law_draw (hr.mono (by decide)) (by rfl) (pa_cons (pv 0) (pa_cons pe_int pa_nil))) (fun _ _ => rfl)))), ?_⟩
    refine x_start (σ' := [some (.ref p), some (.int m)]) rfl ?_
    try dsimp only [cxOf]
    repeat walk_at "rd"
    rw [e30, e60]
    rename_i t1 nt1 l1 nl1 t2 nt2 q nq
    generalize hzs : [V.int (m : Nat), V.int (-1), V.bl true, V.bl false, V.non, V.str "0", V.ref t1, V.ref l1, V.int 1000000000000000000000000000000, V.int (0 - 1000000000000000000000000000000000000000000000000000000000000), V.ref t2, V.int 41] = zs at *
    have hzl : zs.length = 12 := by rw [← hzs]; rfl
    have et1 := lk_ne (o := .lst zs) (lk_ne (o := .tup []) (lk_ne (o := .lst [.int 0]) (upd_same (H := H) (a := t1) (o := .tup [.int 0])) nl1) nt2) nq
    have el1 := lk_ne (o := .lst zs) (lk_ne (o := .tup []) (upd_same (H := upd H t1 (.tup [.int 0])) (a := l1) (o := .lst [.int 0])) nt2) nq
    have et2 := lk_ne (o := .lst zs) (upd_same (H := upd (upd H t1 (.tup [.int 0])) l1 (.lst [.int 0])) (a := t2) (o := .tup [])) nq
    have eq := upd_same (H := upd (upd (upd H t1 (.tup [.int 0])) l1 (.lst [.int 0])) t2 (.tup [])) (a := q) (o := .lst zs)
    have kk := ((((Kx.refl [] H).new (o := .tup [.int 0]) nt1).new (o := .lst [.int 0]) nl1).new (o := .tup []) nt2).new (o := .lst zs) nq
    obtain ⟨⟨op, hp⟩, _⟩ := hpen.some
    have npt : ∀ b, H b = none → b ≠ p := fun b hb z => by rw [z, hp] at hb; cases hb
    have fl1 := ((Kx.refl [] H).new (o := .tup [.int 0]) nt1).fresh (by simp) nl1
    have ft2 := (((Kx.refl [] H).new (o := .tup [.int 0]) nt1).new (o := .lst [.int 0]) nl1).fresh (by simp) nt2
    have t1p := npt _ nt1
    have l1p : l1 ≠ p := npt _ (((Kx.refl [] H).new (o := .tup [.int 0]) nt1).fresh (by simp) nl1)
    have t2p : t2 ≠ p := npt _ ((((Kx.refl [] H).new (o := .tup [.int 0]) nt1).new (o := .lst [.int 0]) nl1).fresh (by simp) nt2)
    have qp : q ≠ p := npt _ (((((Kx.refl [] H).new (o := .tup [.int 0]) nt1).new (o := .lst [.int 0]) nl1).new (o := .tup []) nt2).fresh (by simp) nq)
    have P1 := hpen.keep (((((Kx.refl [] H).new (o := .tup [.int 0]) nt1).new (o := .lst [.int 0]) nl1).new (o := .tup []) nt2).new (o := .lst zs) nq) (by simp) (by simp) (Nat.le_refl _)
    generalize upd (upd (upd (upd H t1 (.tup [.int 0])) l1 (.lst [.int 0])) t2 (.tup [])) q (.lst zs) = H1 at *
    refine x_draw P1 (by omega) (by omega) (by omega) fun i H2 i0 i1 k2 P2 => ?_
    have eq2 := k2 q _ (by simpa using qp) eq
    have et12 := k2 t1 _ (by simpa using t1p) et1
    have el12 := k2 l1 _ (by simpa using l1p) el1
    have et22 := k2 t2 _ (by simpa using t2p) et2
    have hs : ∀ b ∈ [t1, l1, t2], ∃ o, H2 b = some o ∧ ∀ ps, o ≠ .tbl ps := fun b hb => by
      simp only [List.mem_cons, List.not_mem_nil, or_false] at hb
      rcases hb with rfl | rfl | rfl
      · exact ⟨_, et12, fun _ z => nomatch z⟩
      · exact ⟨_, el12, fun _ z => nomatch z⟩
      · exact ⟨_, et22, fun _ z => nomatch z⟩
    have hf : ∀ b ∈ [t1, l1, t2], H b = none := fun b hb => by
      simp only [List.mem_cons, List.not_mem_nil, or_false] at hb
      rcases hb with rfl | rfl | rfl
      · exact nt1
      · exact fl1
      · exact ft2
    have mkS : ∀ {v : V} {d : PyData}, (∀ H3, (∀ b ∈ [t1, l1, t2], H3 b = H2 b) → Dp K H3 v d) → St K H2 v d [t1, l1, t2] := fun h => ⟨hs, h⟩
    obtain ⟨n, rfl⟩ : ∃ n : Nat, i = n := ⟨i.toNat, by omega⟩
    have hn12 : n < 12 := by omega
    have hat : ∃ v d, zs[n]? = some v ∧ St K H2 v d [t1, l1, t2] ∧ GoodN 130 d 1 1000 := by
      have hz : ∀ {j : Nat} {v : V}, [V.int (m : Nat), V.int (-1), V.bl true, V.bl false, V.non, V.str "0", V.ref t1, V.ref l1, V.int 1000000000000000000000000000000, V.int (0 - 1000000000000000000000000000000000000000000000000000000000000), V.ref t2, V.int 41][j]? = some v → zs[j]? = some v := fun h => by rw [← hzs]; exact h
      have gi : ∀ {z : Int}, z.natAbs < 2 ^ 400 → GoodN 130 (.int z) 1 1000 := fun h => (GoodN.int h).mono (by decide) (by decide)
      rcases (show n = 0 ∨ n = 1 ∨ n = 2 ∨ n = 3 ∨ n = 4 ∨ n = 5 ∨ n = 6 ∨ n = 7 ∨ n = 8 ∨ n = 9 ∨ n = 10 ∨ n = 11 by omega) with e | e | e | e | e | e | e | e | e | e | e | e <;> subst e
      · exact ⟨_, _, hz rfl, mkS fun _ _ => .int _, gi (Nat.lt_of_le_of_lt (show (m : Int).natAbs ≤ 40 by omega) (by decide +kernel))⟩
      · exact ⟨_, _, hz rfl, mkS fun _ _ => .int _, gi (by decide +kernel)⟩
      · exact ⟨_, _, hz rfl, mkS fun _ _ => .bl true, by constructor <;> decide +kernel⟩
      · exact ⟨_, _, hz rfl, mkS fun _ _ => .bl false, by constructor <;> decide +kernel⟩
      · exact ⟨_, _, hz rfl, mkS fun _ _ => .non, by constructor <;> decide +kernel⟩
      · exact ⟨_, _, hz rfl, mkS fun _ _ => .str _, by constructor <;> decide +kernel⟩
      · exact ⟨_, .tuple [.int 0], hz rfl, mkS fun _ x => .tup (SqT.of ((x t1 (by simp)).trans et12)) (.cons (.int 0) .nil), by constructor <;> decide +kernel⟩
      · exact ⟨_, .list [.int 0], hz rfl, mkS fun _ x => .lst (SqL.of ((x l1 (by simp)).trans el12)) (.cons (.int 0) .nil), by constructor <;> decide +kernel⟩
      · exact ⟨_, _, hz rfl, mkS fun _ _ => .int _, gi (by decide +kernel)⟩
      · exact ⟨_, _, hz rfl, mkS fun _ _ => .int _, gi (by decide +kernel)⟩
      · exact ⟨_, .tuple [], hz rfl, mkS fun _ x => .tup (SqT.of ((x t2 (by simp)).trans et22)) .nil, by constructor <;> decide +kernel⟩
      · exact ⟨_, _, hz rfl, mkS fun _ _ => .int _, gi (by decide +kernel)⟩
    obtain ⟨v, d, hv, hd, hg⟩ := hat
    exact ⟨q, zs, _, _, rfl, rfl, SqL.of eq2, atI_nat hv, k v d _ H2 ((kk.mono (by simp)).trans k2) P2 hf hd hg⟩

/-- what is due: nothing, or a word and a value -/
def outD : Option (Str × PyData) → PyData
  | none => .none
  | some (wd, d) => .tuple [.str wd, d]
def spIsNode (K : PySem.W.Frag) : Sp := fun vs H Q _ => ∃ (D : Addr) (v : V) (d : PyData) (slots : List (Option Rw)) (outs : List Int), vs = [.ref D, v] ∧ HeapT K H D slots outs ∧ Dp K H v d ∧ Q (.bl (liveD slots d)) H
theorem ok_isNode {f : Addr} {fd : FuncData} (F : Fun K "_law_is_node" "_law_is_node" sQIsNode f fd) (T : Txt mg) : FnOk P w K mg base CX0 1 f fd ["_law_base_here", "_law_thing"] (spIsNode K) := by
  refine F.ok scQIsNode (fun vs H Q E h => ?_) (fun cdv A outer s H vs Q E hr h => ?_)
  · obtain ⟨D, v, d, slots, outs, rfl, _⟩ := h
    rfl
  · obtain ⟨D, v, d, slots, outs, rfl, hT, hd, k⟩ := h
    obtain ⟨S, O, vs, hD, hS, hO, hvl, hv⟩ := id hT.ex
    refine ⟨_, (pss_cons (ps_if ((pw_or (pt_not (pt_val (pe_callB call_isi (by rfl) T.b_isinstance boot'_isinstance (pa_cons (pv 1) (pa_cons (pe_bltn (v := .ty "int") (by rfl) T.b_int boot'_int rfl) pa_nil))))) (pw_or (pt_val (pe_callB call_isi (by rfl) T.b_isinstance boot'_isinstance (pa_cons (pv 1) (pa_cons (pe_bltn (v := .ty "bool") (by rfl) T.b_bool boot'_bool rfl) pa_nil)))) (pw_or1 (pt_not (pt_chain op_le op_lt pe_int (pv 1) (pe_callB call_len_seq (by rfl) T.b_len boot'_len (pa_cons (pe_ix ix_tup (pv 0) pe_int (fun _ _ => rfl)) pa_nil)))))))).pt (pss_one (ps_ret pe_bl)) pss_nil)
      (pss_one (ps_ret (pe_cmpR op_notN1 (pe_ix ix_tup (pe_ix ix_tup (pv 0) pe_int (fun _ _ => rfl)) (pv 1) (fun _ _ => rfl)) pe_non (nomark _))))), ?_⟩
    refine x_start (σ' := [some (.ref D), some v]) rfl ?_
    try dsimp only [cxOf]
    repeat walk_at "rd"
    have kf : liveD slots d = false → Q (.bl false) H := fun e => by rw [e] at k; exact k
    cases hI : isIB d with
    | false =>
      refine x_isiDI hd ?_
      rw [hI]
      repeat walk_at "rd"
      try refine iteP (by decide) ?_
      repeat walk_at "rd"
      exact kf (by cases d <;> first | rfl | cases hI)
    | true =>
      refine x_isiDI hd ?_
      rw [hI]
      repeat walk_at "rd"
      refine iteN (by decide) ?_
      repeat walk_at "rd"
      cases hB : isB d with
      | true =>
        refine x_isiDB hd ?_
        rw [hB]
        repeat walk_at "rd"
        try refine iteP (by decide) ?_
        repeat walk_at "rd"
        exact kf (by cases d <;> first | rfl | cases hB)
      | false =>
        have hdi : ∃ i, d = .int i := by
          cases d with
          | int i => exact ⟨i, rfl⟩
          | bool b => cases hB
          | _ => cases hI
        obtain ⟨i, rfl⟩ := hdi
        refine x_isiDB hd ?_
        rw [hB]
        repeat walk_at "rd"
        cases hd
        repeat walk_at "rd"
        by_cases h0 : 0 ≤ i
        · refine iteP (decide_eq_true h0) ?_
          repeat walk_at "rd"
          rw [hvl]
          by_cases h1 : i < (slots.length : Nat)
          · rw [decide_eq_true h1]
            repeat walk_at "rd"
            try refine iteN (by decide) ?_
            repeat walk_at "rd"
            obtain ⟨n, rfl⟩ : ∃ n : Nat, i = n := ⟨i.toNat, by omega⟩
            have hn : n < slots.length := by omega
            have es := List.getElem?_eq_getElem hn
            rcases hv n _ es with ⟨e, z⟩ | ⟨r, row, e, z, _⟩
            · have hz : atI vs (n : Int) = some .non := atI_nat z
              repeat walk_at "rd"
              exact kf (by rw [liveD_int, Int.toNat_natCast, es, e]; simp)
            · have hz : atI vs (n : Int) = some (.ref r) := atI_nat z
              have hl : liveD slots (.int (n : Int)) = true := by rw [liveD_int, Int.toNat_natCast, es, e]; simp
              rw [hl] at k
              repeat walk_at "rd"
              exact k
          · rw [decide_eq_false h1]
            repeat walk_at "rd"
            try refine iteP (by decide) ?_
            repeat walk_at "rd"
            exact kf (by rw [liveD_int, List.getElem?_eq_none (by omega)]; simp)
        · refine iteN (decide_eq_false h0) ?_
          repeat walk_at "rd"
          try refine iteP (by decide) ?_
          repeat walk_at "rd"
          exact kf (by rw [liveD_int, decide_eq_false h0]; rfl)
/-- what is due for dropping a value -/
def dueO (slots : List (Option Rw)) (outs : List Int) (d : PyData) : Option (Str × PyData) :=
  if liveD slots d = false then some ("node", d) else match d with
    | .int i => if 0 < (outs[i.toNat]?).getD 0 then none else some ("reference", d)
    | _ => none
def spDue (K : PySem.W.Frag) : Sp := fun vs H Q _ => ∃ (D : Addr) (v : V) (d : PyData) (slots : List (Option Rw)) (outs : List Int), vs = [.ref D, v] ∧ HeapT K H D slots outs ∧ Wf slots outs ∧ Dp K H v d ∧ ∀ r H', Kx [] H H' → Dp K H' r (outD (dueO slots outs d)) → Q r H'
theorem ok_due {f : Addr} {fd : FuncData} (F : Fun K "_law_due" "_law_due" sQDue f fd) (T : Txt mg) (l_law_is_node : Lo P w K mg base "_law_is_node" 1 ["_law_base_here", "_law_thing"] (spIsNode K)) : FnOk P w K mg base CX0 2 f fd ["_law_base_here", "_law_spot"] (spDue K) := by
  refine F.ok scQDue (fun vs H Q E h => ?_) (fun cdv A outer s H vs Q E hr h => ?_)
  · obtain ⟨D, v, d, slots, outs, rfl, _⟩ := h
    rfl
  · obtain ⟨D, v, d, slots, outs, rfl, hT, wf, hd, k⟩ := h
    obtain ⟨S, O, vs, hD, hS, hO, hvl, hv⟩ := id hT.ex
    refine ⟨_, (pss_cons (ps_if (pt_not (pt_val (pe_lo l_law_is_node (hr.mono (by decide)) (by rfl) (pa_cons (pv 0) (pa_cons (pv 1) pa_nil))))) (pss_one (ps_ret (pe_tup (pa_cons pe_str (pa_cons (pv 1) pa_nil))))) pss_nil)
      (pss_one (ps_ret (pe_ifExp (pt_cmpR op_gt (pe_ix ix_tup (pe_ix ix_tup (pv 0) pe_int (fun _ _ => rfl)) (pv 1) (fun _ _ => rfl)) pe_int (nomark _)) pe_non (pe_tup (pa_cons pe_str (pa_cons (pv 1) pa_nil))))))), ?_⟩
    refine x_start (σ' := [some (.ref D), some v]) rfl ?_
    try dsimp only [cxOf]
    repeat walk_at "rd"
    refine ⟨D, v, d, slots, outs, rfl, hT, hd, ?_⟩
    cases hl : liveD slots d with
    | false =>
      repeat walk_at "rd"
      try refine iteP (by decide) ?_
      repeat walk_at "rd"
      rename_i q nq
      refine k _ _ ((Kx.refl [] H).new nq) ?_
      unfold dueO
      rw [if_pos hl]
      exact .tup (SqT.of upd_same) (.cons (.str _) (.cons (dpK ((Kx.refl [] H).new nq) hd) .nil))
    | true =>
      have hdi : ∃ n : Nat, d = .int (n : Nat) ∧ n < slots.length := by
        cases d with
        | int i =>
          rw [liveD_int, Bool.and_eq_true] at hl
          have h0 := of_decide_eq_true hl.1
          refine ⟨i.toNat, by rw [show ((i.toNat : Nat) : Int) = i by omega], ?_⟩
          rcases Nat.lt_or_ge i.toNat slots.length with h | h
          · exact h
          · have := hl.2
            rw [List.getElem?_eq_none h] at this
            cases this
        | _ => cases hl
      obtain ⟨n, rfl, hn⟩ := hdi
      cases hd
      obtain ⟨z, ho⟩ : ∃ z, outs[n]? = some z := ⟨_, List.getElem?_eq_getElem (by rw [wf.len]; exact hn)⟩
      have hat : atI (outs.map V.int) (n : Int) = some (.int z) := atI_nat (by rw [List.getElem?_map, ho]; rfl)
      have hdue : dueO slots outs (.int (n : Nat)) = (if 0 < z then none else some (("reference" : Str), PyData.int (n : Nat)) : Option (Str × PyData)) := by
        unfold dueO
        rw [if_neg (by rw [hl]; simp)]
        show (if 0 < (outs[((n : Nat) : Int).toNat]?).getD 0 then _ else _) = _
        rw [Int.toNat_natCast, ho]
        rfl
      rw [hdue] at k
      repeat walk_at "rd"
      try refine iteN (by decide) ?_
      repeat walk_at "rd"
      by_cases hp : 0 < z
      · rw [if_pos hp] at k
        refine iteP (decide_eq_true hp) ?_
        repeat walk_at "rd"
        exact k _ _ (Kx.refl [] H) .non
      · rw [if_neg hp] at k
        refine iteN (decide_eq_false hp) ?_
        repeat walk_at "rd"
        rename_i q nq
        exact k _ _ ((Kx.refl [] H).new nq) (.tup (SqT.of upd_same) (.cons (.str _) (.cons (.int _) .nil)))
def isNon : PyData → Bool
  | .none => true
  | _ => false
/-- what is due for filling a slot -/
def dueS (slots : List (Option Rw)) (d1 d2 d3 : PyData) : Option (Str × PyData) :=
  if liveD slots d1 = false then some ("node", d1) else match d1 with
    | .int i => if btw 0 (((rowOf slots i.toNat).length : Nat) - 1 : Int) d2 = false then some ("slot", d2) else if (isNon d3 || liveD slots d3) = true then none else some ("node", d3)
    | _ => none
def spDueS (K : PySem.W.Frag) : Sp := fun vs H Q _ => ∃ (D : Addr) (v1 v2 v3 : V) (d1 d2 d3 : PyData) (slots : List (Option Rw)) (outs : List Int), vs = [.ref D, v1, v2, v3] ∧ HeapT K H D slots outs ∧ Wf slots outs ∧ Dp K H v1 d1 ∧ Dp K H v2 d2 ∧ Dp K H v3 d3 ∧ ∀ r H', Kx [] H H' → Dp K H' r (outD (dueS slots d1 d2 d3)) → Q r H'
theorem ok_dueS {f : Addr} {fd : FuncData} (F : Fun K "_law_due_slot" "_law_due_slot" sQDueSlot f fd) (T : Txt mg) (l_law_is_node : Lo P w K mg base "_law_is_node" 1 ["_law_base_here", "_law_thing"] (spIsNode K)) : FnOk P w K mg base CX0 2 f fd ["_law_base_here", "_law_spot", "_law_place", "_law_goal"] (spDueS K) := by
  refine F.ok scQDueSlot (fun vs H Q E h => ?_) (fun cdv A outer s H vs Q E hr h => ?_)
  · obtain ⟨D, v1, v2, v3, d1, d2, d3, slots, outs, rfl, _⟩ := h
    rfl
  · obtain ⟨D, v1, v2, v3, d1, d2, d3, slots, outs, rfl, hT, wf, h1, h2, h3, k⟩ := h
    obtain ⟨S, O, vs, hD, hS, hO, hvl, hv⟩ := id hT.ex
    refine ⟨_, (pss_cons (ps_if (pt_not (pt_val (pe_lo l_law_is_node (hr.mono (by decide)) (by rfl) (pa_cons (pv 0) (pa_cons (pv 1) pa_nil))))) (pss_one (ps_ret (pe_tup (pa_cons pe_str (pa_cons (pv 1) pa_nil))))) pss_nil)
      (pss_cons (ps_if ((pw_or (pt_not (pt_val (pe_callB call_isi (by rfl) T.b_isinstance boot'_isinstance (pa_cons (pv 2) (pa_cons (pe_bltn (v := .ty "int") (by rfl) T.b_int boot'_int rfl) pa_nil))))) (pw_or (pt_val (pe_callB call_isi (by rfl) T.b_isinstance boot'_isinstance (pa_cons (pv 2) (pa_cons (pe_bltn (v := .ty "bool") (by rfl) T.b_bool boot'_bool rfl) pa_nil)))) (pw_or1 (pt_not (pt_chain op_le op_lt pe_int (pv 2) (pe_callB call_len_seq (by rfl) T.b_len boot'_len (pa_cons (pe_ix ix_tup (pe_ix ix_tup (pv 0) pe_int (fun _ _ => rfl)) (pv 1) (fun _ _ => rfl)) pa_nil)))))))).pt (pss_one (ps_ret (pe_tup (pa_cons pe_str (pa_cons (pv 2) pa_nil))))) pss_nil)
      (pss_one (ps_ret (pe_ifExp ((pw_or (pt_cmpR op_isN1 (pv 3) pe_non (nomark _)) (pw_or1 (pt_val (pe_lo l_law_is_node (hr.mono (by decide)) (by rfl) (pa_cons (pv 0) (pa_cons (pv 3) pa_nil))))))).pt pe_non (pe_tup (pa_cons pe_str (pa_cons (pv 3) pa_nil)))))))), ?_⟩
    refine x_start (σ' := [some (.ref D), some v1, some v2, some v3]) rfl ?_
    try dsimp only [cxOf]
    repeat walk_at "rd"
    refine ⟨D, v1, d1, slots, outs, rfl, hT, h1, ?_⟩
    cases hl : liveD slots d1 with
    | false =>
      repeat walk_at "rd"
      try refine iteP (by decide) ?_
      repeat walk_at "rd"
      rename_i q nq
      refine k _ _ ((Kx.refl [] H).new nq) ?_
      unfold dueS
      rw [if_pos hl]
      exact .tup (SqT.of upd_same) (.cons (.str _) (.cons (dpK ((Kx.refl [] H).new nq) h1) .nil))
    | true =>
      have hdi : ∃ (n : Nat) (row : Rw), d1 = .int (n : Nat) ∧ slots[n]? = some (some row) := by
        cases d1 with
        | int i =>
          rw [liveD_int, Bool.and_eq_true] at hl
          have h0 := of_decide_eq_true hl.1
          have h9 := hl.2
          cases e : slots[i.toNat]? with
          | none => rw [e] at h9; cases h9
          | some o =>
            cases o with
            | none => rw [e] at h9; cases h9
            | some row => exact ⟨i.toNat, row, by rw [show ((i.toNat : Nat) : Int) = i by omega], e⟩
        | _ => cases hl
      obtain ⟨n, row, rfl, er⟩ := hdi
      cases h1
      rcases hv n _ er with ⟨e', _⟩ | ⟨r, row', e', zr, hR⟩
      · cases e'
      cases Option.some.inj e'
      have hatS : atI vs (n : Int) = some (V.ref r) := atI_nat zr
      have hrl : (rowV row).length = row.length := by unfold rowV; exact List.length_map _
      have hdue : dueS slots (.int (n : Nat)) d2 d3 = if btw 0 ((row.length : Nat) - 1 : Int) d2 = false then some (("slot" : Str), d2) else if (isNon d3 || liveD slots d3) = true then none else some (("node" : Str), d3) := by
        unfold dueS
        rw [if_neg (by rw [hl]; simp)]
        show (if btw 0 (((rowOf slots ((n : Nat) : Int).toNat).length : Nat) - 1 : Int) d2 = false then _ else _) = _
        rw [Int.toNat_natCast, rowOf_some er]
      rw [hdue] at k
      repeat walk_at "rd"
      try refine iteN (by decide) ?_
      repeat walk_at "rd"
      have kb : btw 0 ((row.length : Nat) - 1 : Int) d2 = false → ∀ q, H q = none → Q (.ref q) (upd H q (.tup [.str "slot", v2])) := fun hb q nq => by
        rw [if_pos hb] at k
        exact k _ _ ((Kx.refl [] H).new nq) (.tup (SqT.of upd_same) (.cons (.str _) (.cons (dpK ((Kx.refl [] H).new nq) h2) .nil)))
      cases hI : isIB d2 with
      | false =>
        refine x_isiDI h2 ?_
        rw [hI]
        repeat walk_at "rd"
        try refine iteP (by decide) ?_
        repeat walk_at "rd"
        rename_i q nq
        exact kb (by cases d2 <;> first | rfl | cases hI) q nq
      | true =>
        refine x_isiDI h2 ?_
        rw [hI]
        repeat walk_at "rd"
        refine iteN (by decide) ?_
        repeat walk_at "rd"
        cases hB : isB d2 with
        | true =>
          refine x_isiDB h2 ?_
          rw [hB]
          repeat walk_at "rd"
          try refine iteP (by decide) ?_
          repeat walk_at "rd"
          rename_i q nq
          exact kb (by cases d2 <;> first | rfl | cases hB) q nq
        | false =>
          have hdi : ∃ i, d2 = .int i := by
            cases d2 with
            | int i => exact ⟨i, rfl⟩
            | bool b => cases hB
            | _ => cases hI
          obtain ⟨i, rfl⟩ := hdi
          refine x_isiDB h2 ?_
          rw [hB]
          repeat walk_at "rd"
          cases h2
          repeat walk_at "rd"
          by_cases h0 : 0 ≤ i
          · refine iteP (decide_eq_true h0) ?_
            repeat walk_at "rd"
            rw [hrl]
            by_cases h1 : i < (row.length : Nat)
            · rw [decide_eq_true h1]
              rw [if_neg (by rw [btw_int, decide_eq_true h0, decide_eq_true (show i ≤ (row.length : Nat) - 1 by omega)]; simp)] at k
              repeat walk_at "rd"
              try refine iteN (by decide) ?_
              repeat walk_at "rd"
              by_cases hn : v3 = .non
              · subst hn
                cases h3
                repeat walk_at "rd"
                try refine iteP (by decide) ?_
                repeat walk_at "rd"
                exact k _ _ (Kx.refl [] H) .non
              · have hi3 : isNon d3 = false := by
                  cases h3 <;> first | rfl | exact absurd rfl hn
                rw [hi3, Bool.false_or] at k
                refine iteN (by simp [hn]) ?_
                repeat walk_at "rd"
                refine ⟨D, v3, d3, slots, outs, rfl, hT, h3, ?_⟩
                cases hl3 : liveD slots d3 with
                | true =>
                  rw [if_pos hl3] at k
                  repeat walk_at "rd"
                  try refine iteP (by decide) ?_
                  repeat walk_at "rd"
                  exact k _ _ (Kx.refl [] H) .non
                | false =>
                  rw [if_neg (by rw [hl3]; simp)] at k
                  repeat walk_at "rd"
                  try refine iteN (by decide) ?_
                  repeat walk_at "rd"
                  rename_i q nq
                  exact k _ _ ((Kx.refl [] H).new nq) (.tup (SqT.of upd_same) (.cons (.str _) (.cons (dpK ((Kx.refl [] H).new nq) h3) .nil)))
            · rw [decide_eq_false h1]
              repeat walk_at "rd"
              try refine iteP (by decide) ?_
              repeat walk_at "rd"
              rename_i q nq
              exact kb (by rw [btw_int, decide_eq_false (show ¬ i ≤ (row.length : Nat) - 1 by omega), Bool.and_false]) q nq
          · refine iteN (decide_eq_false h0) ?_
            repeat walk_at "rd"
            try refine iteP (by decide) ?_
            repeat walk_at "rd"
            rename_i q nq
            exact kb (by rw [btw_int, decide_eq_false h0]; rfl) q nq
end


section
variable {P : Program} {w : World} {K : PySem.W.Frag} {mg : Str → Option Value} {base : Heap}
theorem tabs_kx {T : List (Addr × Str)} {S : List Addr} {H H' : Hp} (k : Kx S H H') (hS : ∀ q ∈ S, ∃ xs, H q = some (.lst xs)) (t : LamX.Tabs T H) : LamX.Tabs T H' := by
  intro p hp
  obtain ⟨ps, h1, h2, h3⟩ := t p hp
  have out : ∀ {b : Addr} {o : HO}, H b = some o → (∀ xs, o ≠ .lst xs) → H' b = some o := fun {b o} e n => k b o (fun hm => by obtain ⟨xs, hx⟩ := hS b hm; rw [hx] at e; exact n xs (Option.some.inj e).symm) e
  refine ⟨ps, out h1 (fun _ z => nomatch z), h2, fun pos cv hc => ?_⟩
  obtain ⟨c, e1, e2⟩ := h3 pos cv hc
  exact ⟨c, e1, out e2 (fun _ z => by unfold LamX.CodeO at z; cases z)⟩
theorem tabs_k0 {T : List (Addr × Str)} {H H' : Hp} (k : Kx [] H H') (t : LamX.Tabs T H) : LamX.Tabs T H' := tabs_kx k (fun z hz => by cases hz) t
theorem extN_sqT {H H' : Hp} {a : Addr} {xs : List V} (e : LamX.ExtN H H') (h : SqT K H a xs) : SqT K H' a xs := by
  rcases h with (h | ⟨o, h⟩) | h
  · exact .inl (.inl (e _ _ h fun _ z => nomatch z))
  · exact .inl (.inr ⟨o, e _ _ h fun _ z => nomatch z⟩)
  · exact .inr h
theorem extN_heap {H H' : Hp} {D : Addr} {slots : List (Option Rw)} {outs : List Int} (e : LamX.ExtN H H') (h : HeapT K H D slots outs) : HeapT K H' D slots outs := by
  obtain ⟨S, O, vs, h1, h2, h3, h4, h5⟩ := h.ex
  refine ⟨S, O, vs, extN_sqT e h1, extN_sqT e h2, extN_sqT e h3, h4, fun i o hi => ?_⟩
  rcases h5 i o hi with z | ⟨r, row, e1, e2, e3⟩
  · exact .inl z
  · exact .inr ⟨r, row, e1, e2, extN_sqT e e3⟩
theorem extN_k {H H' : Hp} (k : Kx [] H H') : LamX.ExtN H H' := fun b o e _ => k b o (by simp) e
theorem extN_trans {H H1 H2 : Hp} (a : LamX.ExtN H H1) (b : LamX.ExtN H1 H2) : LamX.ExtN H H2 := fun c o e n => b c o (a c o e n) n
theorem extN_pen {H H' : Hp} {p c : Addr} {n : Nat} (e : LamX.ExtN H H') (h : PenAt H p c n) : PenAt H' p c n := by
  obtain ⟨cs, pl, r, h1, h2, h3⟩ := h
  exact ⟨cs, pl, r, e _ _ h1 (fun _ z => nomatch z), e _ _ h2 (fun _ z => nomatch z), h3⟩
theorem penLs {H : Hp} {p c : Addr} {n : Nat} (h : PenAt H p c n) : ∀ z ∈ [p], ∃ xs, H z = some (HO.lst xs) := fun z hz => by
  rw [List.mem_singleton.mp hz]
  obtain ⟨cs, pl, r, h, _⟩ := h
  exact ⟨_, h⟩
theorem heap_kx {H H' : Hp} {S : List Addr} {D : Addr} {slots : List (Option Rw)} {outs : List Int} (k : Kx S H H') (hS : ∀ q ∈ S, ∃ xs, H q = some (.lst xs)) (h : HeapT K H D slots outs) : HeapT K H' D slots outs := by
  have sq : ∀ {a : Addr} {xs : List V}, SqT K H a xs → SqT K H' a xs := fun {a xs} h => by
    have out : ∀ {b : Addr} {o : HO}, H b = some o → (∀ xs, o ≠ .lst xs) → H' b = some o := fun {b o} e n => k b o (fun hm => by obtain ⟨xs, hx⟩ := hS b hm; rw [hx] at e; exact n xs (Option.some.inj e).symm) e
    rcases h with (h | ⟨o, h⟩) | h
    · exact .inl (.inl (out h fun _ z => nomatch z))
    · exact .inl (.inr ⟨o, out h fun _ z => nomatch z⟩)
    · exact .inr h
  obtain ⟨S, O, vs, h1, h2, h3, h4, h5⟩ := h.ex
  refine ⟨S, O, vs, sq h1, sq h2, sq h3, h4, fun i o hi => ?_⟩
  rcases h5 i o hi with z | ⟨r, row, e1, e2, e3⟩
  · exact .inl z
  · exact .inr ⟨r, row, e1, e2, sq e3⟩
theorem good_small {n : Nat} (h : n ≤ 1000) : GoodN 130 (.int (n : Nat)) 1 1000 := (GoodN.int (Nat.lt_of_le_of_lt (show ((n : Nat) : Int).natAbs ≤ 1000 by omega) (by decide +kernel))).mono (by decide) (by decide)

def outOf : Option (Str × PyData) → V → Out
  | none, _ => .fine
  | some (wd, _), v => if wd = "node" then .node v else if wd = "reference" then .ref v else .slot v
/-- what may be due for a value of data d -/
def DueOk (due : Option (Str × PyData)) (d : PyData) : Prop := due = none ∨ due = some (("node" : Str), d) ∨ due = some (("reference" : Str), d) ∨ due = some (("slot" : Str), d)
theorem tt_of {tl : XK → Hp → VK → Prop} {H : Hp} {Q : VK} {CN CR CS : Addr} {v : V} {d : PyData} {due : Option (Str × PyData)} (hdue : DueOk due d) (hd : ∀ H', LamX.ExtN H H' → Dp K H' v d)
    (hrun : ∀ (E : XK) (Qn : VK), OutE CN CR CS (outOf due v) E Qn H → tl E H Qn) (hq : ∀ r H', Kx [] H H' → (∀ H2, LamX.ExtN H' H2 → Dp K H2 r (outD due)) → Q r H') : TTm CN CR CS tl H Q := by
  refine ⟨outOf due v, hrun, ?_⟩
  have tp : ∀ (wd : Str) (L : Addr) (H' : Hp), Kx [] H H' → H' L = some (.tup [.str wd, v]) → ∀ H2, LamX.ExtN H' H2 → Dp K H2 (.ref L) (.tuple [.str wd, d]) := fun wd L H' k e H2 x => .tup (SqT.of (x _ _ e fun _ z => nomatch z)) (.cons (.str _) (.cons (hd _ (extN_trans (extN_k k) x)) .nil))
  rcases hdue with rfl | rfl | rfl | rfl
  · exact fun H' k => hq _ _ k fun _ _ => .non
  · exact fun L H' nL k e => hq _ _ k (tp _ L H' k e)
  · exact fun L H' nL k e => hq _ _ k (tp _ L H' k e)
  · exact fun L H' nL k e => hq _ _ k (tp _ L H' k e)
theorem sh_out {due : Option (Str × PyData)} {d : PyData} (hdue : DueOk due d) (g : GoodN 130 d 1 1000) : ShOk (outD due) := by
  have tp : ∀ wd : Str, GoodN 130 (.str wd) 1 1000 → ShOk (.tuple [.str wd, d]) := fun wd g0 => by
    have g3 : GoodN 130 (.tuple [.str wd, d]) 2 (2 * (1000 + 1)) := GoodN.tuple (fun x hx => by
      simp only [List.mem_cons, List.not_mem_nil, or_false] at hx
      rcases hx with rfl | rfl
      · exact g0
      · exact g) (Nat.le_refl _)
    exact ⟨g3.sh, g3.nd, Nat.le_trans g3.dp (by decide), Nat.le_trans (PyData.shown_le 130 (by decide) _ g3.sl) (Nat.le_trans (Nat.add_le_add_right (Nat.mul_le_mul_left _ g3.wt) _) (by decide))⟩
  rcases hdue with rfl | rfl | rfl | rfl
  · exact trivial
  · exact tp _ (by constructor <;> decide +kernel)
  · exact tp _ (by constructor <;> decide +kernel)
  · exact tp _ (by constructor <;> decide +kernel)
theorem due_ok (slots : List (Option Rw)) (outs : List Int) (d : PyData) : DueOk (dueO slots outs d) d := by
  unfold dueO
  split
  · exact .inr (.inl rfl)
  · cases d with
    | int i =>
      show DueOk (if _ then none else _) _
      split
      · exact .inl rfl
      · exact .inr (.inr (.inl rfl))
    | _ => exact .inl rfl
/-! ### what the four functions promise, ended well or not -/
def spOkD (K : PySem.W.Frag) : Sp := fun vs H Q _ => ∃ (D : Addr) (slots : List (Option Rw)) (outs : List Int) (n : Nat) (z lim : Int), vs = [.ref D, .int n, .int lim] ∧ HeapT K H D slots outs ∧ Wf slots outs ∧ isLive slots n = true ∧ outs[n]? = some z ∧ 1 ≤ z ∧ 0 < lim ∧ ∀ v H', Kx [] H H' → Q v H'
def spOkE (K : PySem.W.Frag) : Sp := fun vs H Q _ => ∃ (D : Addr) (slots : List (Option Rw)) (outs : List Int) (node : Nat) (row : Rw) (z lim : Int), vs = [.ref D, .int node, .int lim] ∧ HeapT K H D slots outs ∧ Wf slots outs ∧ slots[node]? = some (some row) ∧ outs[node]? = some z ∧ 0 < lim ∧ ∀ v H', Kx [] H H' → Q v H'
def spOkS (K : PySem.W.Frag) : Sp := fun vs H Q _ => ∃ (D : Addr) (slots : List (Option Rw)) (outs : List Int) (node j : Nat) (row : Rw) (tgt : Option Nat) (lim : Int) (hj : j < row.length), vs = [.ref D, .int node, .int j, slotV tgt, .int lim] ∧ HeapT K H D slots outs ∧ Wf slots outs ∧ slots[node]? = some (some row) ∧ (∀ t, tgt = some t → isLive slots t = true) ∧ 0 < lim ∧ ∀ v H', Kx [] H H' → Q v H'
def spDropC (K : PySem.W.Frag) (CN CR CS : Addr) : Sp := fun vs H Q E => spOkD K vs H Q E ∨ spDropR K CN CR CS vs H Q E
def spEmpC (K : PySem.W.Frag) (CN : Addr) : Sp := fun vs H Q E => spOkE K vs H Q E ∨ spEmpR K CN vs H Q E
def spSetC (K : PySem.W.Frag) (CN CS : Addr) : Sp := fun vs H Q E => spOkS K vs H Q E ∨ spPutR K CN CS vs H Q E
theorem dropC_of {k : Nat} {f CN CR CS : Addr} {fd : FuncData} {ps : List Str} (F : FnOk P w K mg base CX0 k f fd ps (spDrop K)) (G : FnOk P w K mg base (L2.CX P w) k f fd ps (spDropR K CN CR CS)) : FnOk P w K mg base (L2.CX P w) k f fd ps (spDropC K CN CR CS) :=
  fn_or (fn_lift (F.imp fun vs H Q E h => by
    obtain ⟨D, slots, outs, n, z, lim, e, hT, wf, hl, hz, h1, h0, q⟩ := h
    exact ⟨D, slots, outs, n, z, lim, e, hT, wf, hl, hz, h1, h0, fun B L X k s' H' kk _ _ _ _ _ _ _ => q _ H' kk⟩)) G
theorem traceC_of {k : Nat} {f CN CR CS : Addr} {fd : FuncData} {ps : List Str} (F : FnOk P w K mg base CX0 k f fd ps (spTrace K)) (G : FnOk P w K mg base (L2.CX P w) k f fd ps (spDropR K CN CR CS)) : FnOk P w K mg base (L2.CX P w) k f fd ps (spDropC K CN CR CS) :=
  fn_or (fn_lift (F.imp fun vs H Q E h => by
    obtain ⟨D, slots, outs, n, z, lim, e, hT, wf, hl, hz, h1, h0, q⟩ := h
    exact ⟨D, slots, outs, n, z, lim, e, hT, wf, hl, hz, h1, h0, fun B us s' H' _ kk _ _ _ _ _ _ => q _ H' kk⟩)) G
theorem empC_of {k : Nat} {f CN : Addr} {fd : FuncData} {ps : List Str} (F : FnOk P w K mg base CX0 k f fd ps (spES K)) (G : FnOk P w K mg base (L2.CX P w) k f fd ps (spEmpR K CN)) : FnOk P w K mg base (L2.CX P w) k f fd ps (spEmpC K CN) :=
  fn_or (fn_lift (F.imp fun vs H Q E h => by
    obtain ⟨D, slots, outs, n, row, z, lim, e, hT, wf, er, hz, h0, q⟩ := h
    exact ⟨D, slots, outs, n, row, z, lim, e, hT, wf, er, hz, h0, fun B L X k E H' kk _ _ _ _ _ _ => q _ H' kk⟩)) G
theorem setC_of {k : Nat} {f CN CS : Addr} {fd : FuncData} {ps : List Str} (F : FnOk P w K mg base CX0 k f fd ps (spSet K)) (G : FnOk P w K mg base (L2.CX P w) k f fd ps (spPutR K CN CS)) : FnOk P w K mg base (L2.CX P w) k f fd ps (spSetC K CN CS) :=
  fn_or (fn_lift (F.imp fun vs H Q E h => by
    obtain ⟨D, slots, outs, node, j, row, tgt, lim, hj, e, hT, wf, er, ht, h0, q⟩ := h
    exact ⟨D, slots, outs, node, j, row, tgt, lim, hj, e, hT, wf, er, ht, h0, fun B L X k s' H' kk _ _ _ _ _ _ _ _ => q _ H' kk⟩)) G
theorem live_int {slots : List (Option Rw)} {d : PyData} (hl : liveD slots d = true) : ∃ (n : Nat) (row : Rw), d = .int (n : Nat) ∧ slots[n]? = some (some row) := by
  cases d with
  | int i =>
    rw [liveD_int, Bool.and_eq_true] at hl
    have h0 := of_decide_eq_true hl.1
    have h9 := hl.2
    cases e : slots[i.toNat]? with
    | none => rw [e] at h9; cases h9
    | some o =>
      cases o with
      | none => rw [e] at h9; cases h9
      | some row => exact ⟨i.toNat, row, by rw [show ((i.toNat : Nat) : Int) = i by omega], e⟩
  | _ => cases hl
theorem outs_at {slots : List (Option Rw)} {outs : List Int} {n : Nat} {row : Rw} (wf : Wf slots outs) (er : slots[n]? = some (some row)) : ∃ z, outs[n]? = some z ∧ 0 ≤ z :=
  have hn : n < outs.length := by rw [wf.len]; exact (List.getElem?_eq_some_iff.mp er).1
  ⟨_, List.getElem?_eq_getElem hn, (wf.outs _ (List.getElem_mem hn)).1⟩
theorem drop_ends {H : Hp} {Qn : VK} {E : XK} {D CN CR CS : Addr} {v : V} {d : PyData} {slots : List (Option Rw)} {outs : List Int} {lim : Int} (hT : HeapT K H D slots outs) (wf : Wf slots outs) (hd : Dp K H v d) (hlim : 0 < lim) (hE : OutE CN CR CS (outOf (dueO slots outs d) v) E Qn H) : spDropC K CN CR CS [.ref D, v, .int lim] H Qn E := by
  cases hl : liveD slots d with
  | false =>
    have e : dueO slots outs d = some (("node" : Str), d) := by unfold dueO; rw [if_pos hl]
    rw [e] at hE
    exact .inr ⟨D, v, d, slots, outs, lim, rfl, hT, hd, .inl ⟨hl, hE⟩⟩
  | true =>
    obtain ⟨n, row, rfl, er⟩ := live_int hl
    obtain ⟨z, ho, hz⟩ := outs_at wf er
    have e : dueO slots outs (.int (n : Nat)) = if 0 < z then none else some (("reference" : Str), PyData.int (n : Nat)) := by
      unfold dueO
      rw [if_neg (by rw [hl]; simp)]
      show (if 0 < (outs[((n : Nat) : Int).toNat]?).getD 0 then _ else _) = _
      rw [Int.toNat_natCast, ho]
      rfl
    rw [e] at hE
    have hlv : isLive slots n = true := by simp [isLive, er]
    by_cases hp : 0 < z
    · rw [if_pos hp] at hE
      cases hd
      exact .inl ⟨D, slots, outs, n, z, lim, rfl, hT, wf, hlv, ho, by omega, hlim, hE⟩
    · rw [if_neg hp] at hE
      obtain rfl : z = 0 := by omega
      exact .inr ⟨D, v, _, slots, outs, lim, rfl, hT, hd, .inr ⟨n, rfl, hlv, ho, hE⟩⟩
def loneO (slots : List (Option Rw)) (d : PyData) : Option (Str × PyData) := if liveD slots d = true then none else some (("node" : Str), d)
theorem lone_ok (slots : List (Option Rw)) (d : PyData) : DueOk (loneO slots d) d := by
  unfold loneO
  split
  · exact .inl rfl
  · exact .inr (.inl rfl)
theorem emp_ends {H : Hp} {Qn : VK} {E : XK} {D CN CR CS : Addr} {v : V} {d : PyData} {slots : List (Option Rw)} {outs : List Int} {lim : Int} (hT : HeapT K H D slots outs) (wf : Wf slots outs) (hd : Dp K H v d) (hlim : 0 < lim) (hE : OutE CN CR CS (outOf (loneO slots d) v) E Qn H) : spEmpC K CN [.ref D, v, .int lim] H Qn E := by
  unfold loneO at hE
  cases hl : liveD slots d with
  | false =>
    rw [if_neg (by rw [hl]; simp)] at hE
    exact .inr ⟨D, v, d, slots, outs, lim, rfl, hT, hd, hl, hE⟩
  | true =>
    rw [if_pos hl] at hE
    obtain ⟨n, row, rfl, er⟩ := live_int hl
    obtain ⟨z, ho, hz⟩ := outs_at wf er
    cases hd
    exact .inl ⟨D, slots, outs, n, row, z, lim, rfl, hT, wf, er, ho, hlim, hE⟩


end


section
variable {P : Program} {w : World} {K : PySem.W.Frag} {mg : Str → Option Value} {base : Heap}

def lamQ1 : Str := (envOfC "_law_one_right" (defScope sQOneRight) 0 0 .none).qual ++ "<lambda>"
def lamQ2 : Str := (envOfC "law" (defScope sLaw) 0 0 .none).qual ++ "<lambda>"
abbrev TT (PR1 PR2 : Addr) : List (Addr × Str) := [(PR1, lamQ1), (PR2, lamQ2)]
def spOne (K : PySem.W.Frag) (PR1 PR2 : Addr) : Sp := fun vs H Q _ => ∃ (D : Addr) (v : V) (d : PyData) (slots : List (Option Rw)) (outs : List Int) (lim : Int), vs = [.ref D, v, .int lim] ∧ HeapT K H D slots outs ∧ Wf slots outs ∧ 0 < lim ∧ (∀ H', LamX.ExtN H H' → Dp K H' v d) ∧ GoodN 130 d 1 1000 ∧ LamX.Tabs (TT PR1 PR2) H ∧
  ∀ H', LamX.ExtN H H' → LamX.Tabs (TT PR1 PR2) H' → Q (.bl true) H'
theorem ok_one {f gE cR1 PR1 PR2 C_HeapError C_MissingError C_NoNode C_NoPosition C_NoReference C_NoSlot C_NotFreed C_UndoError : Addr} {fd fdE : FuncData} {cdE : Value} (F : FunC K "_law_one_right" "_law_one_right" sQOneRight f fd (.ref cR1)) (T : Txt mg) (TB : LamX.TabB base mg cR1 PR1) (hne : PR1 ≠ PR2)
    (D_law_missing : LamD K mg "_law_missing" "_law_call" sQMissing gE fdE cdE ["_law_call", "_law_caught", "error", "_law_marks", "_law_others"]) (c_HeapError : mg "HeapError" = some (.ref C_HeapError)) (c_MissingError : mg "MissingError" = some (.ref C_MissingError)) (c_NoNode : mg "NoNode" = some (.ref C_NoNode)) (c_NoPosition : mg "NoPosition" = some (.ref C_NoPosition)) (c_NoReference : mg "NoReference" = some (.ref C_NoReference)) (c_NoSlot : mg "NoSlot" = some (.ref C_NoSlot)) (c_NotFreed : mg "NotFreed" = some (.ref C_NotFreed)) (c_UndoError : mg "UndoError" = some (.ref C_UndoError)) (NN : NNx K C_HeapError C_MissingError C_NoNode C_NoPosition C_NoReference C_NoSlot C_NotFreed C_UndoError) (NR : NRx K C_HeapError C_MissingError C_NoNode C_NoPosition C_NoReference C_NoSlot C_NotFreed C_UndoError) (NS : NSx K C_HeapError C_MissingError C_NoNode C_NoPosition C_NoReference C_NoSlot C_NotFreed C_UndoError)
    (l_law_is_node : Lo P w K mg base "_law_is_node" 1 ["_law_base_here", "_law_thing"] (spIsNode K)) (l_law_due : Lo P w K mg base "_law_due" 2 ["_law_base_here", "_law_spot"] (spDue K))
    (e_drop : LkxX P w K mg base "drop" 7 ["heap", "node", "limit"] ["limit"] (gApp 2 1) (spDropC K C_NoNode C_NoReference C_NoSlot)) (e_trace : LkxX P w K mg base "trace" 7 ["heap", "node", "limit"] ["limit"] (gApp 2 1) (spDropC K C_NoNode C_NoReference C_NoSlot))
    (e_empty_slots : LkxX P w K mg base "empty_slots" 8 ["heap", "node", "limit"] ["limit"] (gApp 2 1) (spEmpC K C_NoNode)) : FnG P w K mg base 11 f fd ["_law_base_here", "_law_spot", "_law_bound"] (spOne K PR1 PR2) := by
  refine FnG.bodyC F scQOneRight (fun vs H Q E h => ?_) (fun A outer s H vs Q E hgd hr h => ?_)
  · obtain ⟨D, v, d, slots, outs, lim, rfl, _⟩ := h
    rfl
  · obtain ⟨D, v, d, slots, outs, lim, rfl, hT, wf, hlim, hd, hg, tab, k⟩ := h
    have hmT : (PR1, lamQ1) ∈ TT PR1 PR2 := List.mem_cons_self
    have hu : ∀ q ∈ TT PR1 PR2, q.1 = PR1 → q.2 = lamQ1 := fun q hq e => by
      simp only [TT, List.mem_cons, List.not_mem_nil, or_false] at hq
      rcases hq with rfl | rfl
      · rfl
      · exact absurd e.symm hne
    have G_law_missing : ∀ {X : Cx} (eK : X.K = K) (em : X.mg = mg) (q : Str) (m : Nat), Gives X ["_law_call", "_law_caught", "error", "_law_marks", "_law_others"] "_law_missing" sQMissing gE cdE "_law_call" q m (TTm C_NoNode C_NoReference C_NoSlot) := fun {X} eK em q m => gives_missing (X := X) (by rw [em]; exact T) (by rw [em]; exact c_HeapError) (by rw [em]; exact c_MissingError) (by rw [em]; exact c_NoNode) (by rw [em]; exact c_NoPosition) (by rw [em]; exact c_NoReference) (by rw [em]; exact c_NoSlot) (by rw [em]; exact c_NotFreed) (by rw [em]; exact c_UndoError) (by rw [eK]; exact NN) (by rw [eK]; exact NR) (by rw [eK]; exact NS)
    refine ⟨_, (pss_cons (ps_set (i := 3) scQOneRight.nd rfl (Or.inl rfl) (pe_callB (call_reprD hgd hr.units) (by rfl) T.b_repr boot'_repr (pa_cons (pe_lo l_law_due (hr.mono (by decide)) (by rfl) (pa_cons (pv 0) (pa_cons (pv 1) pa_nil))) pa_nil)))
      (pss_cons (ps_set (i := 4) scQOneRight.nd rfl (Or.inl rfl) (pe_lamW (k := 8) D_law_missing (G_law_missing rfl rfl _ _) TB rfl hmT hu (hr.mono (by decide)) (by rfl) (LamX.lamS_by (by show LamX.lamSB (defScope sQOneRight) _ = true; decide +kernel)) (fun A outer s H E f c' hrL => by exact (pe_lkxX e_drop (takes_of rfl rfl rfl rfl) (hrL.mono (by decide)) (by rfl) (pa_cons (pv 0) (pa_cons (pv 1) pa_nil)) (pk_cons (pv 2) pk_nil)))))
      (pss_cons (ps_set (i := 5) scQOneRight.nd rfl (Or.inl rfl) (pe_lamW (k := 8) D_law_missing (G_law_missing rfl rfl _ _) TB rfl hmT hu (hr.mono (by decide)) (by rfl) (LamX.lamS_by (by show LamX.lamSB (defScope sQOneRight) _ = true; decide +kernel)) (fun A outer s H E f c' hrL => by exact (pe_lkxX e_trace (takes_of rfl rfl rfl rfl) (hrL.mono (by decide)) (by rfl) (pa_cons (pv 0) (pa_cons (pv 1) pa_nil)) (pk_cons (pv 2) pk_nil)))))
      (pss_cons (ps_set (i := 6) scQOneRight.nd rfl (Or.inl rfl) (pe_lamW (k := 8) D_law_missing (G_law_missing rfl rfl _ _) TB rfl hmT hu (hr.mono (by decide)) (by rfl) (LamX.lamS_by (by show LamX.lamSB (defScope sQOneRight) _ = true; decide +kernel)) (fun A outer s H E f c' hrL => by exact (pe_lkxX e_empty_slots (takes_of rfl rfl rfl rfl) (hrL.mono (by decide)) (by rfl) (pa_cons (pv 0) (pa_cons (pv 1) pa_nil)) (pk_cons (pv 2) pk_nil)))))
      (pss_cons (ps_set (i := 7) scQOneRight.nd rfl (Or.inl rfl) (pe_ifExp (pt_val (pe_lo l_law_is_node (hr.mono (by decide)) (by rfl) (pa_cons (pv 0) (pa_cons (pv 1) pa_nil)))) pe_non (pe_tup (pa_cons pe_str (pa_cons (pv 1) pa_nil)))))
      (pss_one (ps_ret (pe_and (pe_cmpR op_eq (pe_callB (call_reprD hgd hr.units) (by rfl) T.b_repr boot'_repr (pa_cons (pv 4) pa_nil)) (pv 3) (nomark _)) (pe_and (pe_cmpR op_eq (pe_callB (call_reprD hgd hr.units) (by rfl) T.b_repr boot'_repr (pa_cons (pv 5) pa_nil)) (pv 3) (nomark _)) (pe_one (pe_cmpR op_eq (pe_callB (call_reprD hgd hr.units) (by rfl) T.b_repr boot'_repr (pa_cons (pv 6) pa_nil)) (pe_callB (call_reprD hgd hr.units) (by rfl) T.b_repr boot'_repr (pa_cons (pv 7) pa_nil)) (nomark _)))))))))))), ?_⟩
    refine x_start (σ' := [some (.ref D), some v, some (.int lim), none, none, none, none, none]) rfl ?_
    try dsimp only [cxOf]
    have hdue := due_ok slots outs d
    have hlone := lone_ok slots d
    repeat walk_at "rd"
    refine ⟨D, v, d, slots, outs, rfl, hT, wf, hd H fun _ _ e _ => e, fun r0 H0 k0 hr0 => ?_⟩
    have tab0 := tabs_k0 k0 tab
    have X0 : LamX.ExtN H H0 := extN_k k0
    have hT0 := hT.keep k0
    repeat walk_at "rd"
    refine x_reprD hr0 (sh_out hdue hg) ?_
    generalize hex : shD (outD (dueO slots outs d)) = ex
    repeat walk_at "rd"
    refine ⟨tab0, fun H1a x1a tab1a => tt_of (v := v) (d := d) (due := dueO slots outs d) (hdue) (fun H' x => hd _ (extN_trans (extN_trans X0 x1a) x)) (fun E Qn hE => ?_) (fun r1 H1 k1 hr1 => ?_)⟩
    · refine x_cKW ?_
      repeat walk_at "rd"
      exact drop_ends (extN_heap x1a hT0) wf (hd _ (extN_trans X0 x1a)) hlim hE
    have tab1 := tabs_k0 k1 tab1a
    have E1 : LamX.ExtN H0 H1 := extN_trans x1a (extN_k k1)
    have X1 := extN_trans X0 (extN_trans x1a (extN_k k1))
    have hT1 := extN_heap (extN_trans x1a (extN_k k1)) hT0
    repeat walk_at "rd"
    refine ⟨tab1, fun H2a x2a tab2a => tt_of (v := v) (d := d) (due := dueO slots outs d) (hdue) (fun H' x => hd _ (extN_trans (extN_trans X1 x2a) x)) (fun E Qn hE => ?_) (fun r2 H2 k2 hr2 => ?_)⟩
    · refine x_cKW ?_
      repeat walk_at "rd"
      exact drop_ends (extN_heap x2a hT1) wf (hd _ (extN_trans X1 x2a)) hlim hE
    have tab2 := tabs_k0 k2 tab2a
    have E2 : LamX.ExtN H1 H2 := extN_trans x2a (extN_k k2)
    have X2 := extN_trans X1 (extN_trans x2a (extN_k k2))
    have hT2 := extN_heap (extN_trans x2a (extN_k k2)) hT1
    repeat walk_at "rd"
    refine ⟨tab2, fun H3a x3a tab3a => tt_of (v := v) (d := d) (due := loneO slots d) (hlone) (fun H' x => hd _ (extN_trans (extN_trans X2 x3a) x)) (fun E Qn hE => ?_) (fun r3 H3 k3 hr3 => ?_)⟩
    · refine x_cKW ?_
      repeat walk_at "rd"
      exact emp_ends (extN_heap x3a hT2) wf (hd _ (extN_trans X2 x3a)) hlim hE
    have tab3 := tabs_k0 k3 tab3a
    have E3 : LamX.ExtN H2 H3 := extN_trans x3a (extN_k k3)
    have X3 := extN_trans X2 (extN_trans x3a (extN_k k3))
    have hT3 := extN_heap (extN_trans x3a (extN_k k3)) hT2
    repeat walk_at "rd"
    refine ⟨D, v, d, slots, outs, rfl, hT3, hd _ X3, ?_⟩
    cases hl : liveD slots d with
    | true =>
      have el : loneO slots d = none := by unfold loneO; rw [if_pos hl]
      rw [el] at hr3
      repeat walk_at "rd"
      try refine iteP (by decide) ?_
      repeat walk_at "rd"
      refine x_reprD (hr1 _ (extN_trans E2 E3)) (sh_out hdue hg) ?_
      rw [hex]
      repeat walk_at "rd"
      refine iteP (by simp) ?_
      repeat walk_at "rd"
      refine x_reprD (hr2 _ E3) (sh_out hdue hg) ?_
      rw [hex]
      repeat walk_at "rd"
      refine iteP (by simp) ?_
      repeat walk_at "rd"
      refine x_reprD (hr3 _ fun _ _ e _ => e) trivial ?_
      repeat walk_at "rd"
      refine x_reprD .non trivial ?_
      generalize hlx : shD (outD none) = lx
      repeat walk_at "rd"
      try rw [show shD PyData.none = lx from hlx]
      rw [decide_eq_true (show V.str lx = V.str lx from rfl)]
      exact k _ X3 tab3
    | false =>
      have el : loneO slots d = some (("node" : Str), d) := by unfold loneO; rw [if_neg (by rw [hl]; simp)]
      rw [el] at hr3 hlone
      repeat walk_at "rd"
      try refine iteN (by decide) ?_
      repeat walk_at "rd"
      rename_i q nq
      have k4 : Kx [] H3 (upd H3 q (.tup [.str "node", v])) := (Kx.refl [] H3).new nq
      have E4 := extN_k k4
      have tab4 := tabs_k0 k4 tab3
      have eq4 := upd_same (H := H3) (a := q) (o := .tup [.str "node", v])
      generalize upd H3 q (.tup [.str "node", v]) = H4 at *
      refine x_reprD (hr1 _ (extN_trans E2 (extN_trans E3 E4))) (sh_out hdue hg) ?_
      rw [hex]
      repeat walk_at "rd"
      refine iteP (by simp) ?_
      repeat walk_at "rd"
      refine x_reprD (hr2 _ (extN_trans E3 E4)) (sh_out hdue hg) ?_
      rw [hex]
      repeat walk_at "rd"
      refine iteP (by simp) ?_
      repeat walk_at "rd"
      refine x_reprD (hr3 _ E4) (sh_out hlone hg) ?_
      generalize hlx : shD (outD (some (("node" : Str), d))) = lx
      repeat walk_at "rd"
      refine x_reprD (d := outD (some (("node" : Str), d))) (.tup (SqT.of eq4) (.cons (.str _) (.cons (hd _ (extN_trans X3 E4)) .nil))) (sh_out hlone hg) ?_
      rw [hlx]
      repeat walk_at "rd"
      rw [decide_eq_true (show V.str lx = V.str lx from rfl)]
      exact k _ (extN_trans X3 E4) tab4
end


section
variable {P : Program} {w : World} {K : PySem.W.Frag} {mg : Str → Option Value} {base : Heap}

theorem up_at {slots : List (Option Rw)} {i : Int} (h0 : 0 ≤ i) (h1 : i < ((liveUp slots slots.length).map V.int).length) : ∃ m : Nat, atI ((liveUp slots slots.length).map V.int) i = some (.int (m : Nat)) ∧ m < slots.length := by
  obtain ⟨z, hz, hz1, hz2⟩ := at_ints (zs := liveUp slots slots.length) h0 (by simpa using h1)
  unfold liveUp at hz
  obtain ⟨m, hm, rfl⟩ := List.mem_map.mp hz
  exact ⟨m, hz2, List.mem_range.mp (List.mem_filter.mp hm).1⟩
def spPick (K : PySem.W.Frag) : Sp := fun vs H Q _ => ∃ (p c D A : Addr) (n : Nat) (slots : List (Option Rw)) (outs : List Int), vs = [.ref p, .ref D, .ref A] ∧ PenAt H p c n ∧ n ≤ 800000 ∧ HeapT K H D slots outs ∧ slots.length ≤ 40 ∧ H A = some (.lst ((liveUp slots slots.length).map V.int)) ∧ A ≠ p ∧ 1 ≤ (liveUp slots slots.length).length ∧
  ∀ v d (L : List Addr) H', Kx [p] H H' → PenAt H' p c (n + 4) → (∀ b ∈ L, H b = none) → St K H' v d L → GoodN 130 d 1 1000 → Q v H'
theorem ok_pick {f : Addr} {fd : FuncData} (F : Fun K "_law_pick" "_law_pick" sQPick f fd) (T : Txt mg) (l_law_draw : Lo P w K mg base "_law_draw" 1 ["_law_pen_here", "_law_most_one"] spDraw) (l_law_odd : Lo P w K mg base "_law_odd" 2 ["_law_pen_here", "_law_size"] (spOdd K)) : FnOk P w K mg base CX0 3 f fd ["_law_pen_here", "_law_base_here", "_law_alive"] (spPick K) := by
  refine F.ok scQPick (fun vs H Q E h => ?_) (fun cdv A outer s H vs Q E hr h => ?_)
  · obtain ⟨p, c, D, A, n, slots, outs, rfl, _⟩ := h
    rfl
  · obtain ⟨p, c, D, A, n, slots, outs, rfl, hpen, hn, hT, h40, eA, nAp, h1, k⟩ := h
    refine ⟨_, (pss_one (ps_ret (pe_ix ix_list (pe_lst (pa_cons (pe_ix ix_list (pv 2) (pe_lo l_law_draw (hr.mono (by decide)) (by rfl) (pa_cons (pv 0) (pa_cons (pe_callB call_len_seq (by rfl) T.b_len boot'_len (pa_cons (pv 2) pa_nil)) pa_nil))) (fun _ _ => rfl)) (pa_cons (pe_lo l_law_draw (hr.mono (by decide)) (by rfl) (pa_cons (pv 0) (pa_cons pe_int pa_nil))) (pa_cons (pe_lo l_law_odd (hr.mono (by decide)) (by rfl) (pa_cons (pv 0) (pa_cons (pe_callB call_len_seq (by rfl) T.b_len boot'_len (pa_cons (pe_ix ix_tup (pv 1) pe_int (fun _ _ => rfl)) pa_nil)) pa_nil))) pa_nil)))) (pe_lo l_law_draw (hr.mono (by decide)) (by rfl) (pa_cons (pv 0) (pa_cons pe_int pa_nil))) (fun _ _ => rfl)))), ?_⟩
    refine x_start (σ' := [some (.ref p), some (.ref D), some (.ref A)]) rfl ?_
    try dsimp only [cxOf]
    have hll : (liveUp slots slots.length).length ≤ slots.length := liveUp_len _ _
    have hlm : ((liveUp slots slots.length).map V.int).length = (liveUp slots slots.length).length := List.length_map _
    repeat walk_at "rd"
    rw [hlm]
    refine x_draw hpen (by omega) (by omega) (by omega) fun i1 H1 i10 i11 k1 P1 => ?_
    have eA1 := k1 A _ (by simpa using nAp) eA
    obtain ⟨m1, hat1, hm1⟩ := up_at (slots := slots) i10 (by rw [hlm]; exact i11)
    repeat walk_at "rd"
    refine x_draw P1 (by omega) (by omega) (by omega) fun i2 H2 i20 i21 k2 P2 => ?_
    have hT2 := heap_kx (k1.trans k2) (penLs hpen) hT
    obtain ⟨S, O, vs, hD, hS, hO, hl, hv⟩ := id hT2.ex
    repeat walk_at "rd"
    rw [hl]
    refine ⟨p, c, _, slots.length, rfl, P2, by omega, h40, fun v3 d3 L3 H3 k3 P3 hf3 hd3 hg3 => ?_⟩
    repeat walk_at "rd"
    rename_i q nq
    generalize hzs : [V.int (m1 : Nat), V.int i2, v3] = zs at *
    have k4 : Kx [] H3 (upd H3 q (.lst zs)) := (Kx.refl [] H3).new nq
    have P4 := P3.keep k4 (by simp) (by simp) (Nat.le_refl _)
    have eq4 := upd_same (H := H3) (a := q) (o := .lst zs)
    have nqp : q ≠ p := fun z => by obtain ⟨⟨o, ho⟩, _⟩ := P3.some; rw [← z, nq] at ho; cases ho
    generalize upd H3 q (.lst zs) = H4 at *
    refine x_draw P4 (by omega) (by omega) (by omega) fun i5 H5 i50 i51 k5 P5 => ?_
    have eq5 := k5 q _ (by simpa using nqp) eq4
    have kA : Kx [p] H H5 := (((k1.trans k2).trans k3).trans (k4.mono (by simp))).trans k5
    have hfA : ∀ b ∈ L3, H b = none := fun b hb => by
      cases e : H b with
      | none => rfl
      | some o =>
        have h3 := hf3 b hb
        by_cases z : b = p
        · obtain ⟨⟨o', ho⟩, _⟩ := P2.some
          rw [z, ho] at h3
          cases h3
        · rw [(k1.trans k2) b o (by simpa using z) e] at h3
          cases h3
    have hLp : ∀ b ∈ L3, b ∉ [p] := fun b hb z => by
      obtain ⟨⟨o', ho⟩, _⟩ := hpen.some
      have := hfA b hb
      rw [List.mem_singleton.mp z, ho] at this
      cases this
    have hd5 := (hd3.kx k4 (by simp)).kx k5 hLp
    have hat : ∃ v d, atI zs i5 = some v ∧ (∃ L, (∀ b ∈ L, H b = none) ∧ St K H5 v d L) ∧ GoodN 130 d 1 1000 := by
      have hz : ∀ {j : Nat} {v : V}, [V.int (m1 : Nat), V.int i2, v3][j]? = some v → zs[j]? = some v := fun h => by rw [← hzs]; exact h
      obtain ⟨j, rfl⟩ : ∃ j : Nat, i5 = j := ⟨i5.toNat, by omega⟩
      rcases (show j = 0 ∨ j = 1 ∨ j = 2 by omega) with e | e | e <;> subst e
      · exact ⟨_, _, atI_nat (hz rfl), ⟨[], (fun b hb => by cases hb), (fun b hb => by cases hb), fun _ _ => .int _⟩, good_small (by omega)⟩
      · obtain ⟨m2, rfl⟩ : ∃ m2 : Nat, i2 = m2 := ⟨i2.toNat, by omega⟩
        exact ⟨_, _, atI_nat (hz rfl), ⟨[], (fun b hb => by cases hb), (fun b hb => by cases hb), fun _ _ => .int _⟩, good_small (by omega)⟩
      · exact ⟨_, d3, atI_nat (hz rfl), ⟨L3, hfA, hd5⟩, hg3⟩
    obtain ⟨v, d, hv5, ⟨L, hfL, hdL⟩, hg5⟩ := hat
    exact ⟨q, zs, _, _, rfl, rfl, SqL.of eq5, hv5, k v d L H5 kA P5 hfL hdL hg5⟩
theorem set_ends {slots : List (Option Rw)} {outs : List Int} (wf : Wf slots outs) (v1 v2 v3 : V) (d1 d2 d3 : PyData) : ∃ (v : V) (d : PyData), DueOk (dueS slots d1 d2 d3) d ∧ ((v = v1 ∧ d = d1) ∨ (v = v2 ∧ d = d2) ∨ (v = v3 ∧ d = d3)) ∧
    ∀ (H : Hp) (Qn : VK) (E : XK) (D CN CR CS : Addr) (lim : Int), HeapT K H D slots outs → Dp K H v1 d1 → Dp K H v2 d2 → Dp K H v3 d3 → 0 < lim → OutE CN CR CS (outOf (dueS slots d1 d2 d3) v) E Qn H → spSetC K CN CS [.ref D, v1, v2, v3, .int lim] H Qn E := by
  cases hl : liveD slots d1 with
  | false =>
    have e : dueS slots d1 d2 d3 = some (("node" : Str), d1) := by unfold dueS; rw [if_pos hl]
    rw [e]
    exact ⟨v1, d1, .inr (.inl rfl), .inl ⟨rfl, rfl⟩, fun H Qn E D CN CR CS lim hT h1 h2 h3 hlim hE => .inr ⟨D, v1, v2, v3, d1, d2, d3, slots, outs, lim, rfl, hT, h1, h2, h3, .inl ⟨hl, hE⟩⟩⟩
  | true =>
    obtain ⟨n, row, rfl, er⟩ := live_int hl
    have e : dueS slots (.int (n : Nat)) d2 d3 = if btw 0 ((row.length : Nat) - 1 : Int) d2 = false then some (("slot" : Str), d2) else if (isNon d3 || liveD slots d3) = true then none else some (("node" : Str), d3) := by
      unfold dueS
      rw [if_neg (by rw [hl]; simp)]
      show (if btw 0 (((rowOf slots ((n : Nat) : Int).toNat).length : Nat) - 1 : Int) d2 = false then _ else _) = _
      rw [Int.toNat_natCast, rowOf_some er]
    rw [e]
    cases hb : btw 0 ((row.length : Nat) - 1 : Int) d2 with
    | false =>
      rw [if_pos rfl]
      exact ⟨v2, d2, .inr (.inr (.inr rfl)), .inr (.inl ⟨rfl, rfl⟩), fun H Qn E D CN CR CS lim hT h1 h2 h3 hlim hE => .inr ⟨D, v1, v2, v3, _, d2, d3, slots, outs, lim, rfl, hT, h1, h2, h3, .inr ⟨n, row, rfl, er, .inl ⟨hb, hE⟩⟩⟩⟩
    | true =>
      rw [if_neg (by simp)]
      have hj : ∃ (j : Nat), d2 = .int (j : Nat) ∧ j < row.length := by
        cases d2 with
        | int i =>
          rw [btw_int, Bool.and_eq_true] at hb
          have a0 := of_decide_eq_true hb.1
          have a1 := of_decide_eq_true hb.2
          exact ⟨i.toNat, by rw [show ((i.toNat : Nat) : Int) = i by omega], by omega⟩
        | _ => cases hb
      obtain ⟨j, rfl, hj⟩ := hj
      cases hn : isNon d3 with
      | true =>
        have e3 : d3 = .none := by cases d3 <;> first | rfl | cases hn
        subst e3
        rw [Bool.true_or, if_pos rfl]
        refine ⟨v3, .none, .inl rfl, .inr (.inr ⟨rfl, rfl⟩), fun H Qn E D CN CR CS lim hT h1 h2 h3 hlim hE => ?_⟩
        cases h1
        cases h2
        cases h3
        exact .inl ⟨D, slots, outs, n, j, row, none, lim, hj, rfl, hT, wf, er, (fun t z => by cases z), hlim, hE⟩
      | false =>
        rw [Bool.false_or]
        cases hl3 : liveD slots d3 with
        | true =>
          rw [if_pos rfl]
          obtain ⟨t, row3, rfl, er3⟩ := live_int hl3
          refine ⟨v3, _, .inl rfl, .inr (.inr ⟨rfl, rfl⟩), fun H Qn E D CN CR CS lim hT h1 h2 h3 hlim hE => ?_⟩
          cases h1
          cases h2
          cases h3
          exact .inl ⟨D, slots, outs, n, j, row, some t, lim, hj, rfl, hT, wf, er, (fun t' z => by cases z; simp [isLive, er3]), hlim, hE⟩
        | false =>
          rw [if_neg (by simp)]
          refine ⟨v3, d3, .inr (.inl rfl), .inr (.inr ⟨rfl, rfl⟩), fun H Qn E D CN CR CS lim hT h1 h2 h3 hlim hE => .inr ⟨D, v1, v2, v3, _, _, d3, slots, outs, lim, rfl, hT, h1, h2, h3, .inr ⟨n, row, rfl, er, .inr ⟨hb, (fun z => by rw [z] at hn; cases hn), hl3, hE⟩⟩⟩⟩
end


section
variable {P : Program} {w : World} {K : PySem.W.Frag} {mg : Str → Option Value} {base : Heap}
theorem live_mem (slots : List (Option Rw)) (i : Int) : liveD slots (.int i) = decide (i ∈ liveUp slots slots.length) := by
  rw [liveD_int, Bool.eq_iff_iff, Bool.and_eq_true, decide_eq_true_iff, decide_eq_true_iff]
  unfold liveUp
  constructor
  · rintro ⟨h0, h1⟩
    refine List.mem_map.mpr ⟨i.toNat, List.mem_filter.mpr ⟨List.mem_range.mpr ?_, h1⟩, by omega⟩
    rcases Nat.lt_or_ge i.toNat slots.length with h | h
    · exact h
    · rw [List.getElem?_eq_none h] at h1
      cases h1
  · intro h
    obtain ⟨m, hm, rfl⟩ := List.mem_map.mp h
    exact ⟨by omega, by have := (List.mem_filter.mp hm).2; unfold isLive at this; rw [Int.toNat_natCast]; exact this⟩

def spLaw (K : PySem.W.Frag) (PR1 PR2 : Addr) : Sp := fun vs H Q _ => ∃ (a : Addr) (ns : List Int), vs = [.ref a] ∧ SqL K H a (ns.map V.int) ∧ LamX.Tabs (TT PR1 PR2) H ∧ ∀ H', Q (.bl true) H'
theorem ok_law {f gE cR2 PR1 PR2 C_HeapError C_MissingError C_NoNode C_NoPosition C_NoReference C_NoSlot C_NotFreed C_UndoError : Addr} {fd fdE : FuncData} {cdE : Value} (F : FunC K "law" "law" sLaw f fd (.ref cR2)) (T : Txt mg) (TB : LamX.TabB base mg cR2 PR2) (hne : PR1 ≠ PR2)
    (D_law_missing : LamD K mg "_law_missing" "_law_call" sQMissing gE fdE cdE ["_law_call", "_law_caught", "error", "_law_marks", "_law_others"]) (c_HeapError : mg "HeapError" = some (.ref C_HeapError)) (c_MissingError : mg "MissingError" = some (.ref C_MissingError)) (c_NoNode : mg "NoNode" = some (.ref C_NoNode)) (c_NoPosition : mg "NoPosition" = some (.ref C_NoPosition)) (c_NoReference : mg "NoReference" = some (.ref C_NoReference)) (c_NoSlot : mg "NoSlot" = some (.ref C_NoSlot)) (c_NotFreed : mg "NotFreed" = some (.ref C_NotFreed)) (c_UndoError : mg "UndoError" = some (.ref C_UndoError)) (NN : NNx K C_HeapError C_MissingError C_NoNode C_NoPosition C_NoReference C_NoSlot C_NotFreed C_UndoError) (NR : NRx K C_HeapError C_MissingError C_NoNode C_NoPosition C_NoReference C_NoSlot C_NotFreed C_UndoError) (NS : NSx K C_HeapError C_MissingError C_NoNode C_NoPosition C_NoReference C_NoSlot C_NotFreed C_UndoError)
    (l_law_pen : Lo P w K mg base "_law_pen" 1 ["_law_script"] (spPen K)) (l_law_base : Lo P w K mg base "_law_base" 3 ["_law_pen_here"] (spBase K)) (l_law_pick : Lo P w K mg base "_law_pick" 3 ["_law_pen_here", "_law_base_here", "_law_alive"] (spPick K))
    (l_law_due_slot : Lo P w K mg base "_law_due_slot" 2 ["_law_base_here", "_law_spot", "_law_place", "_law_goal"] (spDueS K)) (l_law_one_right : Lk P w K mg base "_law_one_right" 11 ["_law_base_here", "_law_spot", "_law_bound"] (spOne K PR1 PR2))
    (e_set_slot : LkxX P w K mg base "set_slot" 7 ["heap", "node", "slot", "target", "limit"] ["limit"] (gApp 4 1) (spSetC K C_NoNode C_NoSlot)) : FnG P w K mg base 12 f fd ["_law_script"] (spLaw K PR1 PR2) := by
  refine FnG.bodyC F scLaw (fun vs H Q E h => ?_) (fun A outer s H vs Q E hgd hr h => ?_)
  · obtain ⟨a, ns, rfl, _⟩ := h
    rfl
  · obtain ⟨a, ns, rfl, ha, hTab, k⟩ := h
    have hmT : (PR2, lamQ2) ∈ TT PR1 PR2 := List.mem_cons_of_mem _ List.mem_cons_self
    have hu : ∀ q ∈ TT PR1 PR2, q.1 = PR2 → q.2 = lamQ2 := fun q hq e => by
      simp only [TT, List.mem_cons, List.not_mem_nil, or_false] at hq
      rcases hq with rfl | rfl
      · exact absurd e hne
      · rfl
    have G_law_missing : ∀ {X : Cx} (eK : X.K = K) (em : X.mg = mg) (q : Str) (m : Nat), Gives X ["_law_call", "_law_caught", "error", "_law_marks", "_law_others"] "_law_missing" sQMissing gE cdE "_law_call" q m (TTm C_NoNode C_NoReference C_NoSlot) := fun {X} eK em q m => gives_missing (X := X) (by rw [em]; exact T) (by rw [em]; exact c_HeapError) (by rw [em]; exact c_MissingError) (by rw [em]; exact c_NoNode) (by rw [em]; exact c_NoPosition) (by rw [em]; exact c_NoReference) (by rw [em]; exact c_NoSlot) (by rw [em]; exact c_NotFreed) (by rw [em]; exact c_UndoError) (by rw [eK]; exact NN) (by rw [eK]; exact NR) (by rw [eK]; exact NS)
    refine ⟨_, (pss_cons (ps_set (i := 1) scLaw.nd rfl (Or.inr rfl) (pe_lo l_law_pen (hr.mono (by decide)) (by rfl) (pa_cons (pv 0) pa_nil)))
      (pss_cons (ps_for PassesOwn.never rfl (pi_range1 (by rfl) T.b_range (pa_cons pe_int pa_nil)) (pg_name (i := 2) scLaw.nd rfl (Or.inl rfl))
      (pss_cons (ps_set (i := 8) scLaw.nd rfl (Or.inr rfl) (pe_ix ix_tup (pe_lo l_law_base (hr.mono (by decide)) (by rfl) (pa_cons (pv 1) pa_nil)) pe_int (fun _ _ => rfl)))
      (pss_cons (ps_set (i := 3) scLaw.nd rfl (Or.inl rfl) (pe_callB (call_repr hgd hr.units) (by rfl) T.b_repr boot'_repr (pa_cons (pv 8) pa_nil)))
      (pss_cons (ps_set (i := 5) scLaw.nd rfl (Or.inr rfl) (pe_lc (own := [("_law_spot", 4), ("_law_row", 11)]) rfl scLaw.nd (pi_enumT (by rfl) T.b_enumerate (pa_cons (pe_ix ix_tup (pv 8) pe_int (fun _ _ => rfl)) pa_nil)) (blkOk_by (N := ["_law_script", "_law_pen_here", "_law_turn", "_law_before", "_law_spot", "_law_alive", "_law_change", "_law_due_here", "_law_base_here", "_law_goal", "_law_place", "_law_row", "_law_k"]) (sc := defScope sLaw) (by decide +kernel)) (fun _ _ _ _ _ => (pg_tupK (K := K) (n := 2) rfl rfl (pgs_cons (pg_name (i := 4) scLaw.nd rfl (Or.inl rfl)) (pgs_cons (pg_name (i := 11) scLaw.nd rfl (Or.inl rfl)) pgs_nil)))) (fun _ _ _ _ _ => (pts_one (pt_cmpR op_notN1 (pv 11) pe_non (nomark _)))) (fun _ _ _ _ _ => (pv 4))))
      (pss_cons (ps_for PassesOwn.never rfl (pi_range1 (by rfl) T.b_range (pa_cons (pe_callB call_len_seq (by rfl) T.b_len boot'_len (pa_cons (pe_ix ix_tup (pv 8) pe_int (fun _ _ => rfl)) pa_nil)) pa_nil)) (pg_name (i := 4) scLaw.nd rfl (Or.inr rfl))
      (pss_one (ps_if (pt_not (pt_val (pe_lk l_law_one_right hgd (hr.mono (by decide)) (by rfl) (pa_cons (pv 8) (pa_cons (pv 4) (pa_cons (pe_op op_add pe_int (pv 2)) pa_nil)))))) (pss_one (ps_ret pe_bl)) pss_nil)))
      (pss_one (ps_for PassesOwn.never rfl (pi_range1 (by rfl) T.b_range (pa_cons pe_int pa_nil)) (pg_name (i := 6) scLaw.nd rfl (Or.inl rfl))
      (pss_cons (ps_asg (pe_lc (own := [("_law_k", 12)]) rfl scLaw.nd (pi_range1 (by rfl) T.b_range (pa_cons pe_int pa_nil)) (blkOk_by (N := ["_law_script", "_law_pen_here", "_law_turn", "_law_before", "_law_spot", "_law_alive", "_law_change", "_law_due_here", "_law_base_here", "_law_goal", "_law_place", "_law_row", "_law_k"]) (sc := defScope sLaw) (by decide +kernel)) (fun _ _ _ _ _ => (pg_name (i := 12) scLaw.nd rfl (Or.inl rfl))) (fun _ _ _ _ _ => pts_nil) (fun _ _ _ _ _ => (pe_lo l_law_pick (hr.mono (by decide)) (by rfl) (pa_cons (pv 1) (pa_cons (pv 8) (pa_cons (pv 5) pa_nil)))))) (pg_lst rfl (pgs_cons (pg_name (i := 4) scLaw.nd rfl (Or.inr rfl)) (pgs_cons (pg_name (i := 10) scLaw.nd rfl (Or.inr rfl)) (pgs_cons (pg_name (i := 9) scLaw.nd rfl (Or.inr rfl)) pgs_nil)))))
      (pss_cons (ps_set (i := 7) scLaw.nd rfl (Or.inl rfl) (pe_callB (call_reprD hgd hr.units) (by rfl) T.b_repr boot'_repr (pa_cons (pe_lo l_law_due_slot (hr.mono (by decide)) (by rfl) (pa_cons (pv 8) (pa_cons (pv 4) (pa_cons (pv 10) (pa_cons (pv 9) pa_nil))))) pa_nil)))
      (pss_cons (ps_if (pt_cmpR op_ne (pe_callB (call_reprD hgd hr.units) (by rfl) T.b_repr boot'_repr (pa_cons (pe_lamW (k := 8) D_law_missing (G_law_missing rfl rfl _ _) TB rfl hmT hu (hr.mono (by decide)) (by rfl) (LamX.lamS_by (by show LamX.lamSB (defScope sLaw) _ = true; decide +kernel)) (fun A outer s H E f c' hrL => by exact (pe_lkxX e_set_slot (takes_of rfl rfl rfl rfl) (hrL.mono (by decide)) (by rfl) (pa_cons (pv 8) (pa_cons (pv 4) (pa_cons (pv 10) (pa_cons (pv 9) pa_nil)))) (pk_cons pe_int pk_nil)))) pa_nil)) (pv 7) (nomark _)) (pss_one (ps_ret pe_bl)) pss_nil)
      (pss_one (ps_if ((pw_or (pt_not (pt_val (pe_lk l_law_one_right hgd (hr.mono (by decide)) (by rfl) (pa_cons (pv 8) (pa_cons (pv 9) (pa_cons pe_int pa_nil)))))) (pw_or1 (pt_cmpR op_ne (pe_callB (call_repr hgd hr.units) (by rfl) T.b_repr boot'_repr (pa_cons (pv 8) pa_nil)) (pv 3) (nomark _))))).pt (pss_one (ps_ret pe_bl)) pss_nil))))))))))))
      (pss_cons (ps_if ((pw_or (pt_not (pt_val (pe_lk l_law_one_right hgd (hr.mono (by decide)) (by rfl) (pa_cons (pe_tup (pa_cons (pe_tup pa_nil) (pa_cons (pe_tup pa_nil) pa_nil))) (pa_cons pe_int (pa_cons pe_int pa_nil)))))) (pw_or1 (pt_not (pt_val (pe_lk l_law_one_right hgd (hr.mono (by decide)) (by rfl) (pa_cons (pe_tup (pa_cons (pe_tup (pa_cons pe_non pa_nil)) (pa_cons (pe_tup (pa_cons pe_int pa_nil)) pa_nil))) (pa_cons pe_int (pa_cons pe_int pa_nil))))))))).pt (pss_one (ps_ret pe_bl)) pss_nil)
      (pss_one (ps_ret (pe_cmpR (op_eqD hr.units) (pe_lamW (k := 8) D_law_missing (G_law_missing rfl rfl _ _) TB rfl hmT hu (hr.mono (by decide)) (by rfl) (LamX.lamS_by (by show LamX.lamSB (defScope sLaw) _ = true; decide +kernel)) (fun A outer s H E f c' hrL => by exact (pe_lkxX e_set_slot (takes_of rfl rfl rfl rfl) (hrL.mono (by decide)) (by rfl) (pa_cons (pe_tup (pa_cons (pe_tup (pa_cons (pe_tup pa_nil) pa_nil)) (pa_cons (pe_tup (pa_cons pe_int pa_nil)) pa_nil))) (pa_cons pe_int (pa_cons pe_int (pa_cons pe_int pa_nil)))) (pk_cons pe_int pk_nil)))) (pe_tup (pa_cons pe_str (pa_cons pe_int pa_nil))) (nomark _))))))), ?_⟩
    refine x_start (σ' := [some (.ref a), none, none, none, none, none, none, none, none, none, none, none, none]) rfl ?_
    try dsimp only [cxOf]
    repeat walk_at "rd"
    refine ⟨a, ns, rfl, ha, fun p c H1 np nc k1 P1 => ?_⟩
    have tab1 := tabs_k0 k1 hTab
    repeat walk_at "rd"
    refine y_forR1 (by decide) (by decide) ⟨fun i σ H2 => ∃ (y2 y3 y4 y5 y6 y7 y8 y9 y10 y11 y12 : Option V), σ = [some (.ref a), some (.ref p), y2, y3, y4, y5, y6, y7, y8, y9, y10, y11, y12] ∧ PenAt H2 p c (1000 * i) ∧ LamX.Tabs (TT PR1 PR2) H2, ⟨none, none, none, none, none, none, none, none, none, none, none, rfl, P1.keep (Kx.refl [] _) (by simp) (by simp) (by omega), tab1⟩, fun _ _ _ _ _ => trivial, ?_, ?_⟩
    · rintro i x σ H2 H2' hi ⟨y2, y3, y4, y5, y6, y7, y8, y9, y10, y11, y12, rfl, P2, tab2⟩ ⟨rfl, rfl⟩
      have hi2 : i < 2 := hi
      repeat walk_at "rd"
      refine ⟨p, c, _, rfl, P2, by omega, fun B D lab slots outs H3 hB hT wf hl1 hlab k3 P3 => ?_⟩
      replace hT := hT.toT
      have tab3 := tabs_kx k3 (penLs P2) tab2
      have h40 := wf.most
      have gH := good_heap wf
      obtain ⟨S, O, vs, hD, hS, hO, hl, hv⟩ := id hT.ex
      repeat walk_at "rd"
      refine x_repr hT.dp gH (by decide) (by decide) ?_
      generalize hbx : (heapD slots outs).shown = bx
      repeat walk_at "rd"
      refine y_lcET (xs := vs) hS (fun Z nZ => ⟨fun i H4 => Kx [] H3 H4 ∧ H4 Z = some (.lst ((liveUp slots i).map V.int)), ⟨(Kx.refl _ _).new nZ, upd_same⟩, ?_, ?_, ?_⟩)
      · rintro i H4 hi ⟨k4, _⟩
        exact k4.sqT (by simp) hS
      · rintro i x H4 H4' hi ⟨k4, e4⟩ ⟨U, x1, x2, rfl, nU, rfl, f1, f2⟩
        cases f1
        have nUZ : Z ≠ U := ne_of_none e4 nU
        repeat walk_at "rd"
        refine ⟨rfl, ?_⟩
        have hs : i < slots.length := by omega
        repeat walk_at "rd"
        have es := List.getElem?_eq_getElem hs
        have hlen := liveUp_len slots i
        rcases hv i _ es with ⟨e, z⟩ | ⟨r, row, e, z, _⟩
        · cases Option.some.inj (z.symm.trans f2)
          refine iteF ⟨(k4.new nU), ?_⟩
          rw [liveUp_succ, if_neg (by simp [isLive, es, e])]
          exact lk_ne e4 nU
        · cases Option.some.inj (z.symm.trans f2)
          refine iteT ?_
          repeat walk_at "rd"
          refine ⟨_, lk_ne e4 nU, small1000 (by rw [List.length_map]; omega), (k4.new nU).wr (.inl nZ), ?_⟩
          rw [upd_same, liveUp_succ, if_pos (by simp [isLive, es, e]), List.map_append]
          rfl
      rintro H4 ⟨k4, eA⟩
      rw [hl] at eA
      have tab4 := tabs_k0 k4 tab3
      have hT4 := hT.keep k4
      have P4 := P3.keep k4 (by simp) (by simp) (Nat.le_refl _)
      have nZp : Z ≠ p := fun z => by
        obtain ⟨⟨o, ho⟩, _⟩ := P3.some
        rw [z, ho] at nZ
        cases nZ
      have hll : (liveUp slots slots.length).length ≤ slots.length := liveUp_len _ _
      have hl0 : 1 ≤ (liveUp slots slots.length).length := by
        obtain ⟨row, z, h1, h2, h3⟩ := hlab
        have h9 : liveD slots (.int (lab : Nat)) = true := by rw [liveD_int, Int.toNat_natCast, h1]; simp
        rw [live_mem] at h9
        exact List.length_pos_of_mem (of_decide_eq_true h9)
      obtain ⟨S4, O4, vs4, hD4, hS4, hO4, hl4, hv4⟩ := id hT4.ex
      repeat walk_at "rd"
      rw [hl4]
      refine y_forR1 (by omega) (by omega) ⟨fun j σ H5 => ∃ (y4 : Option V), σ = [some (.ref a), some (.ref p), some (.int (0 + (i : Nat))), some (.str bx), y4, some (.ref Z), y6, y7, some (.ref D), y9, y10, y11, y12] ∧ PenAt H5 p c (1000 * i + 700) ∧ LamX.Tabs (TT PR1 PR2) H5 ∧ HeapT K H5 D slots outs ∧ H5 Z = some (.lst ((liveUp slots slots.length).map V.int)), ⟨_, rfl, P4, tab4, hT4, eA⟩, fun _ _ _ _ _ => trivial, ?_, ?_⟩
      · rintro j x σ H5 H5' hj ⟨y4, rfl, P5, tab5, hT5, eA5⟩ ⟨rfl, rfl⟩
        rw [Int.toNat_natCast] at hj
        repeat walk_at "rd"
        refine ⟨D, _, _, slots, outs, _, rfl, hT5, wf, by omega, fun _ _ => .int _, by rw [Int.zero_add]; exact good_small (by omega), tab5, fun H6 x6 tab6 => ?_⟩
        repeat walk_at "rd"
        try refine iteN (by decide) ?_
        repeat walk_at "rd"
        exact ⟨_, rfl, extN_pen x6 P5, tab6, extN_heap x6 hT5, x6 _ _ eA5 fun _ z => nomatch z⟩
      · rintro σ H5 ⟨y4, rfl, P5, tab5, hT5, eA5⟩
        repeat walk_at "rd"
        refine y_forR1 (by decide) (by decide) ⟨fun j σ H6 => ∃ (y4 y6 y7 y9 y10 : Option V), σ = [some (.ref a), some (.ref p), some (.int (0 + (i : Nat))), some (.str bx), y4, some (.ref Z), y6, y7, some (.ref D), y9, y10, y11, y12] ∧ PenAt H6 p c (1000 * i + 700 + 20 * j) ∧ LamX.Tabs (TT PR1 PR2) H6 ∧ HeapT K H6 D slots outs ∧ H6 Z = some (.lst ((liveUp slots slots.length).map V.int)), ⟨_, _, _, _, _, rfl, P5.keep (Kx.refl [] _) (by simp) (by simp) (by omega), tab5, hT5, eA5⟩, fun _ _ _ _ _ => trivial, ?_, ?_⟩
        · rintro j x σ H6 H6' hj ⟨y4, y6, y7, y9, y10, rfl, P6, tab6, hT6, eA6⟩ ⟨rfl, rfl⟩
          have hj8 : j < 8 := hj
          repeat walk_at "rd"
          obtain ⟨⟨op, hp⟩, oc, hc⟩ := P6.some
          refine y_lcR1 (by decide) (by decide) (fun U nU => ⟨fun t H7 => Kx [p] H6' H7 ∧ PenAt H7 p c (1000 * i + 700 + 20 * j + 4 * t) ∧ ∃ zs, H7 U = some (.lst zs) ∧ zs.length = t ∧ ∀ (m : Nat) v, zs[m]? = some v → ∃ d L, (∀ b ∈ L, b ≠ p ∧ b ≠ U) ∧ St K H7 v d L ∧ GoodN 130 d 1 1000,
            ⟨(Kx.refl [p] H6').new nU, P6.keep ((Kx.refl [] H6').new nU) (by simp) (by simp) (by omega), [], upd_same, rfl, fun m v h => by cases h⟩, fun _ _ _ _ => trivial, ?_, ?_⟩)
          · rintro t x H7 H7' ht ⟨k7, P7, zs, eU, hzl, hz⟩ ⟨rfl, rfl⟩
            have ht3 : t < 3 := ht
            have nUp : U ≠ p := fun z => by rw [z, hp] at nU; cases nU
            have nUc : U ≠ c := fun z => by rw [z, hc] at nU; cases nU
            repeat walk_at "rd"
            refine ⟨rfl, ?_⟩
            repeat walk_at "rd"
            refine ⟨p, c, D, Z, _, slots, outs, rfl, P7, by omega, heap_kx k7 (penLs P6) hT6, h40, k7 Z _ (by simpa using nZp) eA6, nZp, hl0, fun v d L H8 k8 P8 hfL hS hg => ?_⟩
            have eU8 := k8 U _ (by simpa using nUp) eU
            obtain ⟨⟨op7, hp7⟩, _⟩ := P7.some
            have hL : ∀ b ∈ L, b ≠ p ∧ b ≠ U := fun b hb => ⟨(fun z => by have := hfL b hb; rw [z, hp7] at this; cases this), (fun z => by have := hfL b hb; rw [z, eU] at this; cases this)⟩
            refine ⟨zs, eU8, small1000 (by omega), (k7.trans k8).wr (.inl nU), P8.up (upd_ne nUp.symm) (upd_ne nUc.symm) (by omega), zs ++ [v], upd_same, by rw [List.length_append, hzl]; rfl, fun m w hm => ?_⟩
            have ku : ∀ (L : List Addr), (∀ b ∈ L, b ≠ p ∧ b ≠ U) → ∀ b ∈ L, ∀ o, H8 b = some o → (∀ ps, o ≠ .tbl ps) → (upd H8 U (.lst (zs ++ [v]))) b = some o := fun L hL b hb o e _ => by
              rw [upd_ne (hL b hb).2]
              exact e
            rcases Nat.lt_or_ge m zs.length with lt | ge
            · rw [List.getElem?_append_left lt] at hm
              obtain ⟨d', L', hL', hS', hg'⟩ := hz m w hm
              exact ⟨d', L', hL', (hS'.kx k8 fun b hb => by simpa using (hL' b hb).1).keep (ku L' hL'), hg'⟩
            · rw [List.getElem?_append_right ge] at hm
              have : m - zs.length = 0 := by
                rcases Nat.lt_or_ge (m - zs.length) 1 with h | h
                · omega
                · rw [List.getElem?_eq_none (by simpa using h)] at hm
                  cases hm
              rw [this] at hm
              cases hm
              exact ⟨d, L, hL, hS.keep (ku L hL), hg⟩
          · rintro H7 ⟨k7, P7, zs, eU, hzl, hz⟩
            have nUp : U ≠ p := fun z => by rw [z, hp] at nU; cases nU
            obtain ⟨v1, v2, v3, rfl⟩ : ∃ v1 v2 v3, zs = [v1, v2, v3] := by
              match zs, hzl with
              | [a, b, c], _ => exact ⟨a, b, c, rfl⟩
            obtain ⟨d1, L1, hL1, S1, g1⟩ := hz 0 v1 rfl
            obtain ⟨d2, L2, hL2, S2, g2⟩ := hz 1 v2 rfl
            obtain ⟨d3, L3, hL3, S3, g3⟩ := hz 2 v3 rfl
            have tab7 := tabs_kx k7 (penLs P6) tab6
            have hT7 := heap_kx k7 (penLs P6) hT6
            have eA7 := k7 Z _ (by simpa using nZp) eA6
            obtain ⟨v, d, hdue, hvd, hends⟩ := set_ends wf v1 v2 v3 d1 d2 d3
            obtain ⟨LV, SV, hg⟩ : ∃ LV, St K H7 v d LV ∧ GoodN 130 d 1 1000 := by
              rcases hvd with ⟨rfl, rfl⟩ | ⟨rfl, rfl⟩ | ⟨rfl, rfl⟩
              · exact ⟨_, S1, g1⟩
              · exact ⟨_, S2, g2⟩
              · exact ⟨_, S3, g3⟩
            repeat walk_at "rd"
            refine ⟨D, v1, v2, v3, d1, d2, d3, slots, outs, rfl, hT7, wf, S1.now, S2.now, S3.now, fun r0 H8 k8 hr0 => ?_⟩
            have tab8 := tabs_k0 k8 tab7
            have E8 : LamX.ExtN H7 H8 := extN_k k8
            repeat walk_at "rd"
            refine x_reprD hr0 (sh_out hdue hg) ?_
            generalize hex : shD (outD (dueS slots d1 d2 d3)) = ex
            repeat walk_at "rd"
            refine ⟨tab8, fun H9 x9 tab9 => tt_of (v := v) (d := d) (due := dueS slots d1 d2 d3) hdue (fun H' x => (SV.ext (extN_trans (extN_trans E8 x9) x)).now) (fun E Qn hE => ?_) (fun r1 H10 k10 hr1 => ?_)⟩
            · refine x_cKW ?_
              repeat walk_at "rd"
              exact hends _ _ _ D _ _ _ _ (extN_heap (extN_trans E8 x9) hT7) (S1.ext (extN_trans E8 x9)).now (S2.ext (extN_trans E8 x9)).now (S3.ext (extN_trans E8 x9)).now (by decide) hE
            have tab10 := tabs_k0 k10 tab9
            have X10 : LamX.ExtN H7 H10 := extN_trans (extN_trans E8 x9) (extN_k k10)
            repeat walk_at "rd"
            refine x_reprD (hr1 _ fun _ _ e _ => e) (sh_out hdue hg) ?_
            rw [hex]
            repeat walk_at "rd"
            try refine iteN (by simp) ?_
            repeat walk_at "rd"
            refine ⟨D, v3, d3, slots, outs, 3, rfl, extN_heap X10 hT7, wf, by decide, fun H' x => (S3.ext (extN_trans X10 x)).now, g3, tab10, fun H11 x11 tab11 => ?_⟩
            have X11 := extN_trans X10 x11
            repeat walk_at "rd"
            try refine iteN (by decide) ?_
            repeat walk_at "rd"
            refine x_repr (extN_heap X11 hT7).dp gH (by decide) (by decide) ?_
            rw [hbx]
            repeat walk_at "rd"
            try refine iteN (by simp) ?_
            repeat walk_at "rd"
            exact ⟨_, _, _, _, _, rfl, (extN_pen X11 P7).keep (Kx.refl [] _) (by simp) (by simp) (by show 1000 * i + 700 + 20 * j + 4 * 3 ≤ _; omega), tab11, extN_heap X11 hT7, X11 _ _ eA7 fun _ z => nomatch z⟩
        · rintro σ H6 ⟨y4, y6, y7, y9, y10, rfl, P6, tab6, hT6, eA6⟩
          repeat walk_at "rd"
          exact ⟨_, _, _, _, _, _, _, _, _, _, _, rfl, P6.keep (Kx.refl [] _) (by simp) (by simp) (show 1000 * i + 700 + 20 * 8 ≤ 1000 * (i + 1) by omega), tab6⟩
    · rintro σ H2 ⟨y2, y3, y4, y5, y6, y7, y8, y9, y10, y11, y12, rfl, P2, tab2⟩
      repeat walk_at "rd"
      rename_i s0 ns0 o0 no0 D0 nD0
      have kk := (((Kx.refl [] H2).new (o := .tup []) ns0).new (o := .tup []) no0).new (o := .tup [.ref s0, .ref o0]) nD0
      have eD := upd_same (H := upd (upd H2 s0 (.tup [])) o0 (.tup [])) (a := D0) (o := .tup [.ref s0, .ref o0])
      have es := lk_ne (o := .tup [.ref s0, .ref o0]) (lk_ne (o := .tup []) (upd_same (H := H2) (a := s0) (o := .tup [])) no0) nD0
      have eo := lk_ne (o := .tup [.ref s0, .ref o0]) (upd_same (H := upd H2 s0 (.tup [])) (a := o0) (o := .tup [])) nD0
      have tab3 := tabs_k0 kk tab2
      generalize upd (upd (upd H2 s0 (.tup [])) o0 (.tup [])) D0 (.tup [.ref s0, .ref o0]) = H3 at *
      have hT0 : HeapT K H3 D0 [] [] := ⟨s0, o0, [], SqT.of eD, SqT.of es, SqT.of eo, rfl, fun i o h => by cases h⟩
      have wf0 : Wf [] [] := ⟨rfl, Nat.zero_le _, (fun m h => by cases h), (fun z h => by cases h), (fun r h => by cases h), (fun r h => by cases h)⟩
      have g0 : GoodN 130 (.int 0) 1 1000 := by constructor <;> decide +kernel
      refine ⟨D0, _, _, [], [], 1, rfl, hT0, wf0, by decide, fun _ _ => .int _, g0, tab3, fun H4 x4 tab4 => ?_⟩
      repeat walk_at "rd"
      try refine iteN (by decide) ?_
      repeat walk_at "rd"
      rename_i s1 ns1 o1 no1 D1 nD1
      have kk1 := (((Kx.refl [] H4).new (o := .tup [.non]) ns1).new (o := .tup [.int 0]) no1).new (o := .tup [.ref s1, .ref o1]) nD1
      have eD1 := upd_same (H := upd (upd H4 s1 (.tup [.non])) o1 (.tup [.int 0])) (a := D1) (o := .tup [.ref s1, .ref o1])
      have es1 := lk_ne (o := .tup [.ref s1, .ref o1]) (lk_ne (o := .tup [.int 0]) (upd_same (H := H4) (a := s1) (o := .tup [.non])) no1) nD1
      have eo1 := lk_ne (o := .tup [.ref s1, .ref o1]) (upd_same (H := upd H4 s1 (.tup [.non])) (a := o1) (o := .tup [.int 0])) nD1
      have tab5 := tabs_k0 kk1 tab4
      generalize upd (upd (upd H4 s1 (.tup [.non])) o1 (.tup [.int 0])) D1 (.tup [.ref s1, .ref o1]) = H5 at *
      have hT5 : HeapT K H5 D1 [none] [0] := ⟨s1, o1, [.non], SqT.of eD1, SqT.of es1, SqT.of eo1, rfl, fun i o h => by
        match i, h with
        | 0, h => exact .inl ⟨(Option.some.inj h).symm, rfl⟩
        | _ + 1, h => cases h⟩
      have wf5 : Wf [none] [0] := by
        refine ⟨rfl, by decide, fun m h => ?_, fun z h => ?_, fun r h => ?_, fun r h kq hk => ?_⟩
        · match m, h with
          | 0, h => rfl
          | _ + 1, h => cases h
        · rw [List.mem_singleton.mp h]
          omega
        · cases List.mem_singleton.mp h
        · cases List.mem_singleton.mp h
      refine ⟨D1, _, _, [none], [0], 1, rfl, hT5, wf5, by decide, fun _ _ => .int _, g0, tab5, fun H6 x6 tab6 => ?_⟩
      repeat walk_at "rd"
      try refine iteN (by decide) ?_
      repeat walk_at "rd"
      refine ⟨tab6, fun H9 x9 tab9 => tt_of (K := K) (v := .int 0) (d := .int 0) (due := some (("slot" : Str), PyData.int 0)) (.inr (.inr (.inr rfl))) (fun _ _ => .int 0) (fun E Qn hE => ?_) (fun r1 H10 k10 hr1 => ?_)⟩
      · refine x_cKW ?_
        repeat walk_at "rd"
        rename_i t0 nt0 ts nts tos ntos tD ntD
        have kk2 := ((((Kx.refl [] H9).new (o := .tup []) nt0).new (o := .tup [.ref t0]) nts).new (o := .tup [.int 1]) ntos).new (o := .tup [.ref ts, .ref tos]) ntD
        have e1 := lk_ne (o := .tup [.ref ts, .ref tos]) (lk_ne (o := .tup [.int 1]) (lk_ne (o := .tup [.ref t0]) (upd_same (H := H9) (a := t0) (o := .tup [])) nts) ntos) ntD
        have e2 := lk_ne (o := .tup [.ref ts, .ref tos]) (lk_ne (o := .tup [.int 1]) (upd_same (H := upd H9 t0 (.tup [])) (a := ts) (o := .tup [.ref t0])) ntos) ntD
        have e3 := lk_ne (o := .tup [.ref ts, .ref tos]) (upd_same (H := upd (upd H9 t0 (.tup [])) ts (.tup [.ref t0])) (a := tos) (o := .tup [.int 1])) ntD
        have e4 := upd_same (H := upd (upd (upd H9 t0 (.tup [])) ts (.tup [.ref t0])) tos (.tup [.int 1])) (a := tD) (o := .tup [.ref ts, .ref tos])
        generalize upd (upd (upd (upd H9 t0 (.tup [])) ts (.tup [.ref t0])) tos (.tup [.int 1])) tD (.tup [.ref ts, .ref tos]) = H9b at *
        have hT9 : HeapT K H9b tD [some []] [1] := ⟨ts, tos, [.ref t0], SqT.of e4, SqT.of e2, SqT.of e3, rfl, fun i o h => by
          match i, h with
          | 0, h => exact .inr ⟨t0, [], (Option.some.inj h).symm, rfl, SqT.of e1⟩
          | _ + 1, h => cases h⟩
        exact .inr ⟨tD, .int 0, .int 0, .int 7, .int 0, .int 0, .int 7, [some []], [1], 1, rfl, hT9, .int 0, .int 0, .int 7, .inr ⟨0, [], rfl, rfl, .inl ⟨by decide, fun dd H' e k' => hE dd H' e (kk2.trans k')⟩⟩⟩
      repeat walk_at "rd"
      rename_i tq ntq
      refine ⟨.tuple [.str "slot", .int 0], .tuple [.str "slot", .int 0], hr1 _ (extN_k ((Kx.refl [] H10).new ntq)), .tup (SqT.of upd_same) (.cons (.str _) (.cons (.int 0) .nil)), by decide +kernel, by decide +kernel, ?_⟩
      rw [show PyData.eqv (.tuple [.str "slot", .int 0]) (.tuple [.str "slot", .int 0]) = true by decide +kernel]
      exact k _
end

theorem all_mk {l : PySem.W.OpenLaw} {w : World} {K : PySem.W.Frag} {h : Heap} {mg : Str → Option Value} {fa : Addr} (X : K.In h) (G : h.Ns mainGlobals mg) (hfa : mg "law" = some (.ref fa))
    {C : Addr} (aC : PySem.W.nsIn K mainGlobals "Releasing" = some (some (.ref C))) (pg : PySem.W.plainGet K C Str.empty = true) (hd : PySem.W.hasDictIn K C = true) (po : PySem.W.plainOver K C = true) (sa : PySem.W.findIn K (.ref C) "__setattr__" = some (some (.builtin "object.__setattr__"))) (mk : PySem.W.makesIn K C = true) (kc : PySem.W.keepIn K (.ref C) = true)
    (n_slots : PySem.W.findIn K (.ref C) "slots" = some none)
    (n_outside : PySem.W.findIn K (.ref C) "outside" = some none)
    (n_references : PySem.W.findIn K (.ref C) "references" = some none)
    (n_limit : PySem.W.findIn K (.ref C) "limit" = some none)
    (n_emptied : PySem.W.findIn K (.ref C) "emptied" = some none)
    (n_shelf : PySem.W.findIn K (.ref C) "shelf" = some none)
    (n_events : PySem.W.findIn K (.ref C) "events" = some none)
    {f_slot_uses : Addr} {od_slot_uses an_slot_uses : Option Addr} {sl_slot_uses : Array (Option Value)} {oc_slot_uses kV_slot_uses dc_slot_uses pm_slot_uses cd_slot_uses ct_slot_uses : Value}
    (a_slot_uses : PySem.W.nsIn K mainGlobals "slot_uses" = some (some (.ref f_slot_uses))) (l_slot_uses : K.lookup f_slot_uses = some ⟨oc_slot_uses, od_slot_uses, .func (PySem.W.fnOf "slot_uses" "slot_uses" (defArgs sSlotUses) (defBody sSlotUses) (defScope sSlotUses) .none kV_slot_uses dc_slot_uses pm_slot_uses an_slot_uses cd_slot_uses ct_slot_uses), sl_slot_uses⟩)
    (c_slot_uses : PySem.W.codeIn K cd_slot_uses "slot_uses" = true) (k_slot_uses : PySem.W.keepIn K (.ref f_slot_uses) = true)
    {f_counts : Addr} {od_counts an_counts : Option Addr} {sl_counts : Array (Option Value)} {oc_counts kV_counts dc_counts pm_counts cd_counts ct_counts : Value}
    (a_counts : PySem.W.nsIn K mainGlobals "counts" = some (some (.ref f_counts))) (l_counts : K.lookup f_counts = some ⟨oc_counts, od_counts, .func (PySem.W.fnOf "counts" "counts" (defArgs sCounts) (defBody sCounts) (defScope sCounts) .none kV_counts dc_counts pm_counts an_counts cd_counts ct_counts), sl_counts⟩)
    (c_counts : PySem.W.codeIn K cd_counts "counts" = true) (k_counts : PySem.W.keepIn K (.ref f_counts) = true)
    {f_is_integer : Addr} {od_is_integer an_is_integer : Option Addr} {sl_is_integer : Array (Option Value)} {oc_is_integer kV_is_integer dc_is_integer pm_is_integer cd_is_integer ct_is_integer : Value}
    (a_is_integer : PySem.W.nsIn K mainGlobals "is_integer" = some (some (.ref f_is_integer))) (l_is_integer : K.lookup f_is_integer = some ⟨oc_is_integer, od_is_integer, .func (PySem.W.fnOf "is_integer" "is_integer" (defArgs sIsInteger) (defBody sIsInteger) (defScope sIsInteger) .none kV_is_integer dc_is_integer pm_is_integer an_is_integer cd_is_integer ct_is_integer), sl_is_integer⟩)
    (c_is_integer : PySem.W.codeIn K cd_is_integer "is_integer" = true) (k_is_integer : PySem.W.keepIn K (.ref f_is_integer) = true)
    {f_is_between : Addr} {od_is_between an_is_between : Option Addr} {sl_is_between : Array (Option Value)} {oc_is_between kV_is_between dc_is_between pm_is_between cd_is_between ct_is_between : Value}
    (a_is_between : PySem.W.nsIn K mainGlobals "is_between" = some (some (.ref f_is_between))) (l_is_between : K.lookup f_is_between = some ⟨oc_is_between, od_is_between, .func (PySem.W.fnOf "is_between" "is_between" (defArgs sIsBetween) (defBody sIsBetween) (defScope sIsBetween) .none kV_is_between dc_is_between pm_is_between an_is_between cd_is_between ct_is_between), sl_is_between⟩)
    (c_is_between : PySem.W.codeIn K cd_is_between "is_between" = true) (k_is_between : PySem.W.keepIn K (.ref f_is_between) = true)
    {f_is_live : Addr} {od_is_live an_is_live : Option Addr} {sl_is_live : Array (Option Value)} {oc_is_live kV_is_live dc_is_live pm_is_live cd_is_live ct_is_live : Value}
    (a_is_live : PySem.W.nsIn K mainGlobals "is_live" = some (some (.ref f_is_live))) (l_is_live : K.lookup f_is_live = some ⟨oc_is_live, od_is_live, .func (PySem.W.fnOf "is_live" "is_live" (defArgs sIsLive) (defBody sIsLive) (defScope sIsLive) .none kV_is_live dc_is_live pm_is_live an_is_live cd_is_live ct_is_live), sl_is_live⟩)
    (c_is_live : PySem.W.codeIn K cd_is_live "is_live" = true) (k_is_live : PySem.W.keepIn K (.ref f_is_live) = true)
    {f_need_live : Addr} {od_need_live an_need_live : Option Addr} {sl_need_live : Array (Option Value)} {oc_need_live kV_need_live dc_need_live pm_need_live cd_need_live ct_need_live : Value}
    (a_need_live : PySem.W.nsIn K mainGlobals "need_live" = some (some (.ref f_need_live))) (l_need_live : K.lookup f_need_live = some ⟨oc_need_live, od_need_live, .func (PySem.W.fnOf "need_live" "need_live" (defArgs sNeedLive) (defBody sNeedLive) (defScope sNeedLive) .none kV_need_live dc_need_live pm_need_live an_need_live cd_need_live ct_need_live), sl_need_live⟩)
    (c_need_live : PySem.W.codeIn K cd_need_live "need_live" = true) (k_need_live : PySem.W.keepIn K (.ref f_need_live) = true)
    {f_need_reference : Addr} {od_need_reference an_need_reference : Option Addr} {sl_need_reference : Array (Option Value)} {oc_need_reference kV_need_reference dc_need_reference pm_need_reference cd_need_reference ct_need_reference : Value}
    (a_need_reference : PySem.W.nsIn K mainGlobals "need_reference" = some (some (.ref f_need_reference))) (l_need_reference : K.lookup f_need_reference = some ⟨oc_need_reference, od_need_reference, .func (PySem.W.fnOf "need_reference" "need_reference" (defArgs sNeedReference) (defBody sNeedReference) (defScope sNeedReference) .none kV_need_reference dc_need_reference pm_need_reference an_need_reference cd_need_reference ct_need_reference), sl_need_reference⟩)
    (c_need_reference : PySem.W.codeIn K cd_need_reference "need_reference" = true) (k_need_reference : PySem.W.keepIn K (.ref f_need_reference) = true)
    {f_Releasing_destroy : Addr} {od_Releasing_destroy an_Releasing_destroy : Option Addr} {sl_Releasing_destroy : Array (Option Value)} {oc_Releasing_destroy kV_Releasing_destroy dc_Releasing_destroy pm_Releasing_destroy cd_Releasing_destroy ct_Releasing_destroy : Value}
    (a_Releasing_destroy : PySem.W.findIn K (.ref C) "_destroy" = some (some (.ref f_Releasing_destroy))) (i_Releasing_destroy : PySem.W.isFn K (.ref f_Releasing_destroy) = true) (l_Releasing_destroy : K.lookup f_Releasing_destroy = some ⟨oc_Releasing_destroy, od_Releasing_destroy, .func (PySem.W.fnOf "_destroy" "Releasing._destroy" (defArgs sReleasingDestroy) (defBody sReleasingDestroy) (defScope sReleasingDestroy) .none kV_Releasing_destroy dc_Releasing_destroy pm_Releasing_destroy an_Releasing_destroy cd_Releasing_destroy ct_Releasing_destroy), sl_Releasing_destroy⟩)
    (c_Releasing_destroy : PySem.W.codeIn K cd_Releasing_destroy "Releasing._destroy" = true) (k_Releasing_destroy : PySem.W.keepIn K (.ref f_Releasing_destroy) = true)
    {f_Releasing_release : Addr} {od_Releasing_release an_Releasing_release : Option Addr} {sl_Releasing_release : Array (Option Value)} {oc_Releasing_release kV_Releasing_release dc_Releasing_release pm_Releasing_release cd_Releasing_release ct_Releasing_release : Value}
    (a_Releasing_release : PySem.W.findIn K (.ref C) "_release" = some (some (.ref f_Releasing_release))) (i_Releasing_release : PySem.W.isFn K (.ref f_Releasing_release) = true) (l_Releasing_release : K.lookup f_Releasing_release = some ⟨oc_Releasing_release, od_Releasing_release, .func (PySem.W.fnOf "_release" "Releasing._release" (defArgs sReleasingRelease) (defBody sReleasingRelease) (defScope sReleasingRelease) .none kV_Releasing_release dc_Releasing_release pm_Releasing_release an_Releasing_release cd_Releasing_release ct_Releasing_release), sl_Releasing_release⟩)
    (c_Releasing_release : PySem.W.codeIn K cd_Releasing_release "Releasing._release" = true) (k_Releasing_release : PySem.W.keepIn K (.ref f_Releasing_release) = true)
    {f_Releasing_release_all : Addr} {od_Releasing_release_all an_Releasing_release_all : Option Addr} {sl_Releasing_release_all : Array (Option Value)} {oc_Releasing_release_all kV_Releasing_release_all dc_Releasing_release_all pm_Releasing_release_all cd_Releasing_release_all ct_Releasing_release_all : Value}
    (a_Releasing_release_all : PySem.W.findIn K (.ref C) "_release_all" = some (some (.ref f_Releasing_release_all))) (i_Releasing_release_all : PySem.W.isFn K (.ref f_Releasing_release_all) = true) (l_Releasing_release_all : K.lookup f_Releasing_release_all = some ⟨oc_Releasing_release_all, od_Releasing_release_all, .func (PySem.W.fnOf "_release_all" "Releasing._release_all" (defArgs sReleasingReleaseAll) (defBody sReleasingReleaseAll) (defScope sReleasingReleaseAll) .none kV_Releasing_release_all dc_Releasing_release_all pm_Releasing_release_all an_Releasing_release_all cd_Releasing_release_all ct_Releasing_release_all), sl_Releasing_release_all⟩)
    (c_Releasing_release_all : PySem.W.codeIn K cd_Releasing_release_all "Releasing._release_all" = true) (k_Releasing_release_all : PySem.W.keepIn K (.ref f_Releasing_release_all) = true)
    {f_Releasing_drop : Addr} {od_Releasing_drop an_Releasing_drop : Option Addr} {sl_Releasing_drop : Array (Option Value)} {oc_Releasing_drop kV_Releasing_drop dc_Releasing_drop pm_Releasing_drop cd_Releasing_drop ct_Releasing_drop : Value}
    (a_Releasing_drop : PySem.W.findIn K (.ref C) "drop" = some (some (.ref f_Releasing_drop))) (i_Releasing_drop : PySem.W.isFn K (.ref f_Releasing_drop) = true) (l_Releasing_drop : K.lookup f_Releasing_drop = some ⟨oc_Releasing_drop, od_Releasing_drop, .func (PySem.W.fnOf "drop" "Releasing.drop" (defArgs sReleasingDrop) (defBody sReleasingDrop) (defScope sReleasingDrop) .none kV_Releasing_drop dc_Releasing_drop pm_Releasing_drop an_Releasing_drop cd_Releasing_drop ct_Releasing_drop), sl_Releasing_drop⟩)
    (c_Releasing_drop : PySem.W.codeIn K cd_Releasing_drop "Releasing.drop" = true) (k_Releasing_drop : PySem.W.keepIn K (.ref f_Releasing_drop) = true)
    {f_Releasing_init : Addr} {od_Releasing_init an_Releasing_init : Option Addr} {sl_Releasing_init : Array (Option Value)} {oc_Releasing_init kV_Releasing_init dc_Releasing_init pm_Releasing_init cd_Releasing_init ct_Releasing_init : Value}
    (a_Releasing_init : PySem.W.findIn K (.ref C) "__init__" = some (some (.ref f_Releasing_init))) (i_Releasing_init : PySem.W.isFn K (.ref f_Releasing_init) = true) (l_Releasing_init : K.lookup f_Releasing_init = some ⟨oc_Releasing_init, od_Releasing_init, .func (PySem.W.fnOf "__init__" "Releasing.__init__" (defArgs sReleasingInit) (defBody sReleasingInit) (defScope sReleasingInit) .none kV_Releasing_init dc_Releasing_init pm_Releasing_init an_Releasing_init cd_Releasing_init ct_Releasing_init), sl_Releasing_init⟩)
    (c_Releasing_init : PySem.W.codeIn K cd_Releasing_init "Releasing.__init__" = true) (k_Releasing_init : PySem.W.keepIn K (.ref f_Releasing_init) = true)
    {f_Releasing_put : Addr} {od_Releasing_put an_Releasing_put : Option Addr} {sl_Releasing_put : Array (Option Value)} {oc_Releasing_put kV_Releasing_put dc_Releasing_put pm_Releasing_put cd_Releasing_put ct_Releasing_put : Value}
    (a_Releasing_put : PySem.W.findIn K (.ref C) "put" = some (some (.ref f_Releasing_put))) (i_Releasing_put : PySem.W.isFn K (.ref f_Releasing_put) = true) (l_Releasing_put : K.lookup f_Releasing_put = some ⟨oc_Releasing_put, od_Releasing_put, .func (PySem.W.fnOf "put" "Releasing.put" (defArgs sReleasingPut) (defBody sReleasingPut) (defScope sReleasingPut) .none kV_Releasing_put dc_Releasing_put pm_Releasing_put an_Releasing_put cd_Releasing_put ct_Releasing_put), sl_Releasing_put⟩)
    (c_Releasing_put : PySem.W.codeIn K cd_Releasing_put "Releasing.put" = true) (k_Releasing_put : PySem.W.keepIn K (.ref f_Releasing_put) = true)
    {f_Releasing_empty : Addr} {od_Releasing_empty an_Releasing_empty : Option Addr} {sl_Releasing_empty : Array (Option Value)} {oc_Releasing_empty kV_Releasing_empty dc_Releasing_empty pm_Releasing_empty cd_Releasing_empty ct_Releasing_empty : Value}
    (a_Releasing_empty : PySem.W.findIn K (.ref C) "empty" = some (some (.ref f_Releasing_empty))) (i_Releasing_empty : PySem.W.isFn K (.ref f_Releasing_empty) = true) (l_Releasing_empty : K.lookup f_Releasing_empty = some ⟨oc_Releasing_empty, od_Releasing_empty, .func (PySem.W.fnOf "empty" "Releasing.empty" (defArgs sReleasingEmpty) (defBody sReleasingEmpty) (defScope sReleasingEmpty) .none kV_Releasing_empty dc_Releasing_empty pm_Releasing_empty an_Releasing_empty cd_Releasing_empty ct_Releasing_empty), sl_Releasing_empty⟩)
    (c_Releasing_empty : PySem.W.codeIn K cd_Releasing_empty "Releasing.empty" = true) (k_Releasing_empty : PySem.W.keepIn K (.ref f_Releasing_empty) = true)
    {f_Releasing_result : Addr} {od_Releasing_result an_Releasing_result : Option Addr} {sl_Releasing_result : Array (Option Value)} {oc_Releasing_result kV_Releasing_result dc_Releasing_result pm_Releasing_result cd_Releasing_result ct_Releasing_result : Value}
    (a_Releasing_result : PySem.W.findIn K (.ref C) "result" = some (some (.ref f_Releasing_result))) (i_Releasing_result : PySem.W.isFn K (.ref f_Releasing_result) = true) (l_Releasing_result : K.lookup f_Releasing_result = some ⟨oc_Releasing_result, od_Releasing_result, .func (PySem.W.fnOf "result" "Releasing.result" (defArgs sReleasingResult) (defBody sReleasingResult) (defScope sReleasingResult) .none kV_Releasing_result dc_Releasing_result pm_Releasing_result an_Releasing_result cd_Releasing_result ct_Releasing_result), sl_Releasing_result⟩)
    (c_Releasing_result : PySem.W.codeIn K cd_Releasing_result "Releasing.result" = true) (k_Releasing_result : PySem.W.keepIn K (.ref f_Releasing_result) = true)
    {f_run_drop : Addr} {od_run_drop an_run_drop : Option Addr} {sl_run_drop : Array (Option Value)} {oc_run_drop kV_run_drop dc_run_drop pm_run_drop cd_run_drop ct_run_drop : Value}
    (a_run_drop : PySem.W.nsIn K mainGlobals "run_drop" = some (some (.ref f_run_drop))) (l_run_drop : K.lookup f_run_drop = some ⟨oc_run_drop, od_run_drop, .func (PySem.W.fnOf "run_drop" "run_drop" (defArgs sRunDrop) (defBody sRunDrop) (defScope sRunDrop) .none kV_run_drop dc_run_drop pm_run_drop an_run_drop cd_run_drop ct_run_drop), sl_run_drop⟩)
    (c_run_drop : PySem.W.codeIn K cd_run_drop "run_drop" = true) (k_run_drop : PySem.W.keepIn K (.ref f_run_drop) = true)
    {f_run_put : Addr} {od_run_put an_run_put : Option Addr} {sl_run_put : Array (Option Value)} {oc_run_put kV_run_put dc_run_put pm_run_put cd_run_put ct_run_put : Value}
    (a_run_put : PySem.W.nsIn K mainGlobals "run_put" = some (some (.ref f_run_put))) (l_run_put : K.lookup f_run_put = some ⟨oc_run_put, od_run_put, .func (PySem.W.fnOf "run_put" "run_put" (defArgs sRunPut) (defBody sRunPut) (defScope sRunPut) .none kV_run_put dc_run_put pm_run_put an_run_put cd_run_put ct_run_put), sl_run_put⟩)
    (c_run_put : PySem.W.codeIn K cd_run_put "run_put" = true) (k_run_put : PySem.W.keepIn K (.ref f_run_put) = true)
    {f_run_empty : Addr} {od_run_empty an_run_empty : Option Addr} {sl_run_empty : Array (Option Value)} {oc_run_empty kV_run_empty dc_run_empty pm_run_empty cd_run_empty ct_run_empty : Value}
    (a_run_empty : PySem.W.nsIn K mainGlobals "run_empty" = some (some (.ref f_run_empty))) (l_run_empty : K.lookup f_run_empty = some ⟨oc_run_empty, od_run_empty, .func (PySem.W.fnOf "run_empty" "run_empty" (defArgs sRunEmpty) (defBody sRunEmpty) (defScope sRunEmpty) .none kV_run_empty dc_run_empty pm_run_empty an_run_empty cd_run_empty ct_run_empty), sl_run_empty⟩)
    (c_run_empty : PySem.W.codeIn K cd_run_empty "run_empty" = true) (k_run_empty : PySem.W.keepIn K (.ref f_run_empty) = true)
    {f_drop : Addr} {od_drop an_drop : Option Addr} {sl_drop : Array (Option Value)} {oc_drop kV_drop dc_drop pm_drop cd_drop ct_drop : Value}
    (a_drop : PySem.W.nsIn K mainGlobals "drop" = some (some (.ref f_drop))) (l_drop : K.lookup f_drop = some ⟨oc_drop, od_drop, .func (PySem.W.fnOf "drop" "drop" (defArgs sDrop) (defBody sDrop) (defScope sDrop) .none kV_drop dc_drop pm_drop an_drop cd_drop ct_drop), sl_drop⟩)
    (c_drop : PySem.W.codeIn K cd_drop "drop" = true) (k_drop : PySem.W.keepIn K (.ref f_drop) = true)
    {f_trace : Addr} {od_trace an_trace : Option Addr} {sl_trace : Array (Option Value)} {oc_trace kV_trace dc_trace pm_trace cd_trace ct_trace : Value}
    (a_trace : PySem.W.nsIn K mainGlobals "trace" = some (some (.ref f_trace))) (l_trace : K.lookup f_trace = some ⟨oc_trace, od_trace, .func (PySem.W.fnOf "trace" "trace" (defArgs sTrace) (defBody sTrace) (defScope sTrace) .none kV_trace dc_trace pm_trace an_trace cd_trace ct_trace), sl_trace⟩)
    (c_trace : PySem.W.codeIn K cd_trace "trace" = true) (k_trace : PySem.W.keepIn K (.ref f_trace) = true)
    {f_set_slot : Addr} {od_set_slot an_set_slot : Option Addr} {sl_set_slot : Array (Option Value)} {oc_set_slot kV_set_slot dc_set_slot pm_set_slot cd_set_slot ct_set_slot : Value}
    (a_set_slot : PySem.W.nsIn K mainGlobals "set_slot" = some (some (.ref f_set_slot))) (l_set_slot : K.lookup f_set_slot = some ⟨oc_set_slot, od_set_slot, .func (PySem.W.fnOf "set_slot" "set_slot" (defArgs sSetSlot) (defBody sSetSlot) (defScope sSetSlot) .none kV_set_slot dc_set_slot pm_set_slot an_set_slot cd_set_slot ct_set_slot), sl_set_slot⟩)
    (c_set_slot : PySem.W.codeIn K cd_set_slot "set_slot" = true) (k_set_slot : PySem.W.keepIn K (.ref f_set_slot) = true)
    {f_empty_slots : Addr} {od_empty_slots an_empty_slots : Option Addr} {sl_empty_slots : Array (Option Value)} {oc_empty_slots kV_empty_slots dc_empty_slots pm_empty_slots cd_empty_slots ct_empty_slots : Value}
    (a_empty_slots : PySem.W.nsIn K mainGlobals "empty_slots" = some (some (.ref f_empty_slots))) (l_empty_slots : K.lookup f_empty_slots = some ⟨oc_empty_slots, od_empty_slots, .func (PySem.W.fnOf "empty_slots" "empty_slots" (defArgs sEmptySlots) (defBody sEmptySlots) (defScope sEmptySlots) .none kV_empty_slots dc_empty_slots pm_empty_slots an_empty_slots cd_empty_slots ct_empty_slots), sl_empty_slots⟩)
    (c_empty_slots : PySem.W.codeIn K cd_empty_slots "empty_slots" = true) (k_empty_slots : PySem.W.keepIn K (.ref f_empty_slots) = true)
    {f_law_pen : Addr} {od_law_pen an_law_pen : Option Addr} {sl_law_pen : Array (Option Value)} {oc_law_pen kV_law_pen dc_law_pen pm_law_pen cd_law_pen ct_law_pen : Value}
    (a_law_pen : PySem.W.nsIn K mainGlobals "_law_pen" = some (some (.ref f_law_pen))) (l_law_pen : K.lookup f_law_pen = some ⟨oc_law_pen, od_law_pen, .func (PySem.W.fnOf "_law_pen" "_law_pen" (defArgs sQPen) (defBody sQPen) (defScope sQPen) .none kV_law_pen dc_law_pen pm_law_pen an_law_pen cd_law_pen ct_law_pen), sl_law_pen⟩)
    (c_law_pen : PySem.W.codeIn K cd_law_pen "_law_pen" = true) (k_law_pen : PySem.W.keepIn K (.ref f_law_pen) = true)
    {f_law_draw : Addr} {od_law_draw an_law_draw : Option Addr} {sl_law_draw : Array (Option Value)} {oc_law_draw kV_law_draw dc_law_draw pm_law_draw cd_law_draw ct_law_draw : Value}
    (a_law_draw : PySem.W.nsIn K mainGlobals "_law_draw" = some (some (.ref f_law_draw))) (l_law_draw : K.lookup f_law_draw = some ⟨oc_law_draw, od_law_draw, .func (PySem.W.fnOf "_law_draw" "_law_draw" (defArgs sQDraw) (defBody sQDraw) (defScope sQDraw) .none kV_law_draw dc_law_draw pm_law_draw an_law_draw cd_law_draw ct_law_draw), sl_law_draw⟩)
    (c_law_draw : PySem.W.codeIn K cd_law_draw "_law_draw" = true) (k_law_draw : PySem.W.keepIn K (.ref f_law_draw) = true)
    {f_law_shuffled : Addr} {od_law_shuffled an_law_shuffled : Option Addr} {sl_law_shuffled : Array (Option Value)} {oc_law_shuffled kV_law_shuffled dc_law_shuffled pm_law_shuffled cd_law_shuffled ct_law_shuffled : Value}
    (a_law_shuffled : PySem.W.nsIn K mainGlobals "_law_shuffled" = some (some (.ref f_law_shuffled))) (l_law_shuffled : K.lookup f_law_shuffled = some ⟨oc_law_shuffled, od_law_shuffled, .func (PySem.W.fnOf "_law_shuffled" "_law_shuffled" (defArgs sQShuffled) (defBody sQShuffled) (defScope sQShuffled) .none kV_law_shuffled dc_law_shuffled pm_law_shuffled an_law_shuffled cd_law_shuffled ct_law_shuffled), sl_law_shuffled⟩)
    (c_law_shuffled : PySem.W.codeIn K cd_law_shuffled "_law_shuffled" = true) (k_law_shuffled : PySem.W.keepIn K (.ref f_law_shuffled) = true)
    {f_law_linked : Addr} {od_law_linked an_law_linked : Option Addr} {sl_law_linked : Array (Option Value)} {oc_law_linked kV_law_linked dc_law_linked pm_law_linked cd_law_linked ct_law_linked : Value}
    (a_law_linked : PySem.W.nsIn K mainGlobals "_law_linked" = some (some (.ref f_law_linked))) (l_law_linked : K.lookup f_law_linked = some ⟨oc_law_linked, od_law_linked, .func (PySem.W.fnOf "_law_linked" "_law_linked" (defArgs sQLinked) (defBody sQLinked) (defScope sQLinked) .none kV_law_linked dc_law_linked pm_law_linked an_law_linked cd_law_linked ct_law_linked), sl_law_linked⟩)
    (c_law_linked : PySem.W.codeIn K cd_law_linked "_law_linked" = true) (k_law_linked : PySem.W.keepIn K (.ref f_law_linked) = true)
    {f_law_base : Addr} {od_law_base an_law_base : Option Addr} {sl_law_base : Array (Option Value)} {oc_law_base kV_law_base dc_law_base pm_law_base cd_law_base ct_law_base : Value}
    (a_law_base : PySem.W.nsIn K mainGlobals "_law_base" = some (some (.ref f_law_base))) (l_law_base : K.lookup f_law_base = some ⟨oc_law_base, od_law_base, .func (PySem.W.fnOf "_law_base" "_law_base" (defArgs sQBase) (defBody sQBase) (defScope sQBase) .none kV_law_base dc_law_base pm_law_base an_law_base cd_law_base ct_law_base), sl_law_base⟩)
    (c_law_base : PySem.W.codeIn K cd_law_base "_law_base" = true) (k_law_base : PySem.W.keepIn K (.ref f_law_base) = true)
    {f_law_odd : Addr} {od_law_odd an_law_odd : Option Addr} {sl_law_odd : Array (Option Value)} {oc_law_odd kV_law_odd dc_law_odd pm_law_odd cd_law_odd ct_law_odd : Value}
    (a_law_odd : PySem.W.nsIn K mainGlobals "_law_odd" = some (some (.ref f_law_odd))) (l_law_odd : K.lookup f_law_odd = some ⟨oc_law_odd, od_law_odd, .func (PySem.W.fnOf "_law_odd" "_law_odd" (defArgs sQOdd) (defBody sQOdd) (defScope sQOdd) .none kV_law_odd dc_law_odd pm_law_odd an_law_odd cd_law_odd ct_law_odd), sl_law_odd⟩)
    (c_law_odd : PySem.W.codeIn K cd_law_odd "_law_odd" = true) (k_law_odd : PySem.W.keepIn K (.ref f_law_odd) = true)
    {f_law_missing : Addr} {od_law_missing an_law_missing : Option Addr} {sl_law_missing : Array (Option Value)} {oc_law_missing kV_law_missing dc_law_missing pm_law_missing cd_law_missing ct_law_missing : Value}
    (a_law_missing : PySem.W.nsIn K mainGlobals "_law_missing" = some (some (.ref f_law_missing))) (l_law_missing : K.lookup f_law_missing = some ⟨oc_law_missing, od_law_missing, .func (PySem.W.fnOf "_law_missing" "_law_missing" (defArgs sQMissing) (defBody sQMissing) (defScope sQMissing) .none kV_law_missing dc_law_missing pm_law_missing an_law_missing cd_law_missing ct_law_missing), sl_law_missing⟩)
    (c_law_missing : PySem.W.codeIn K cd_law_missing "_law_missing" = true) (k_law_missing : PySem.W.keepIn K (.ref f_law_missing) = true)
    {f_law_is_node : Addr} {od_law_is_node an_law_is_node : Option Addr} {sl_law_is_node : Array (Option Value)} {oc_law_is_node kV_law_is_node dc_law_is_node pm_law_is_node cd_law_is_node ct_law_is_node : Value}
    (a_law_is_node : PySem.W.nsIn K mainGlobals "_law_is_node" = some (some (.ref f_law_is_node))) (l_law_is_node : K.lookup f_law_is_node = some ⟨oc_law_is_node, od_law_is_node, .func (PySem.W.fnOf "_law_is_node" "_law_is_node" (defArgs sQIsNode) (defBody sQIsNode) (defScope sQIsNode) .none kV_law_is_node dc_law_is_node pm_law_is_node an_law_is_node cd_law_is_node ct_law_is_node), sl_law_is_node⟩)
    (c_law_is_node : PySem.W.codeIn K cd_law_is_node "_law_is_node" = true) (k_law_is_node : PySem.W.keepIn K (.ref f_law_is_node) = true)
    {f_law_due : Addr} {od_law_due an_law_due : Option Addr} {sl_law_due : Array (Option Value)} {oc_law_due kV_law_due dc_law_due pm_law_due cd_law_due ct_law_due : Value}
    (a_law_due : PySem.W.nsIn K mainGlobals "_law_due" = some (some (.ref f_law_due))) (l_law_due : K.lookup f_law_due = some ⟨oc_law_due, od_law_due, .func (PySem.W.fnOf "_law_due" "_law_due" (defArgs sQDue) (defBody sQDue) (defScope sQDue) .none kV_law_due dc_law_due pm_law_due an_law_due cd_law_due ct_law_due), sl_law_due⟩)
    (c_law_due : PySem.W.codeIn K cd_law_due "_law_due" = true) (k_law_due : PySem.W.keepIn K (.ref f_law_due) = true)
    {f_law_due_slot : Addr} {od_law_due_slot an_law_due_slot : Option Addr} {sl_law_due_slot : Array (Option Value)} {oc_law_due_slot kV_law_due_slot dc_law_due_slot pm_law_due_slot cd_law_due_slot ct_law_due_slot : Value}
    (a_law_due_slot : PySem.W.nsIn K mainGlobals "_law_due_slot" = some (some (.ref f_law_due_slot))) (l_law_due_slot : K.lookup f_law_due_slot = some ⟨oc_law_due_slot, od_law_due_slot, .func (PySem.W.fnOf "_law_due_slot" "_law_due_slot" (defArgs sQDueSlot) (defBody sQDueSlot) (defScope sQDueSlot) .none kV_law_due_slot dc_law_due_slot pm_law_due_slot an_law_due_slot cd_law_due_slot ct_law_due_slot), sl_law_due_slot⟩)
    (c_law_due_slot : PySem.W.codeIn K cd_law_due_slot "_law_due_slot" = true) (k_law_due_slot : PySem.W.keepIn K (.ref f_law_due_slot) = true)
    {f_law_pick : Addr} {od_law_pick an_law_pick : Option Addr} {sl_law_pick : Array (Option Value)} {oc_law_pick kV_law_pick dc_law_pick pm_law_pick cd_law_pick ct_law_pick : Value}
    (a_law_pick : PySem.W.nsIn K mainGlobals "_law_pick" = some (some (.ref f_law_pick))) (l_law_pick : K.lookup f_law_pick = some ⟨oc_law_pick, od_law_pick, .func (PySem.W.fnOf "_law_pick" "_law_pick" (defArgs sQPick) (defBody sQPick) (defScope sQPick) .none kV_law_pick dc_law_pick pm_law_pick an_law_pick cd_law_pick ct_law_pick), sl_law_pick⟩)
    (c_law_pick : PySem.W.codeIn K cd_law_pick "_law_pick" = true) (k_law_pick : PySem.W.keepIn K (.ref f_law_pick) = true)
    {f_law_one_right : Addr} {od_law_one_right an_law_one_right : Option Addr} {sl_law_one_right : Array (Option Value)} {oc_law_one_right kV_law_one_right dc_law_one_right pm_law_one_right cd_law_one_right ct_law_one_right : Value}
    (a_law_one_right : PySem.W.nsIn K mainGlobals "_law_one_right" = some (some (.ref f_law_one_right))) (l_law_one_right : K.lookup f_law_one_right = some ⟨oc_law_one_right, od_law_one_right, .func (PySem.W.fnOf "_law_one_right" "_law_one_right" (defArgs sQOneRight) (defBody sQOneRight) (defScope sQOneRight) .none kV_law_one_right dc_law_one_right pm_law_one_right an_law_one_right cd_law_one_right ct_law_one_right), sl_law_one_right⟩)
    (c_law_one_right : PySem.W.codeIn K cd_law_one_right "_law_one_right" = true) (k_law_one_right : PySem.W.keepIn K (.ref f_law_one_right) = true)
    {f_law : Addr} {od_law an_law : Option Addr} {sl_law : Array (Option Value)} {oc_law kV_law dc_law pm_law cd_law ct_law : Value}
    (a_law : PySem.W.nsIn K mainGlobals "law" = some (some (.ref f_law))) (l_law : K.lookup f_law = some ⟨oc_law, od_law, .func (PySem.W.fnOf "law" "law" (defArgs sLaw) (defBody sLaw) (defScope sLaw) .none kV_law dc_law pm_law an_law cd_law ct_law), sl_law⟩)
    (c_law : PySem.W.codeIn K cd_law "law" = true) (k_law : PySem.W.keepIn K (.ref f_law) = true)
    (z_len : PySem.W.nsIn K mainGlobals "len" = some none)
    (z_LookupError : PySem.W.nsIn K mainGlobals "LookupError" = some none)
    (z_abs : PySem.W.nsIn K mainGlobals "abs" = some none)
    (z_int : PySem.W.nsIn K mainGlobals "int" = some none)
    (z_bool : PySem.W.nsIn K mainGlobals "bool" = some none)
    (z_list : PySem.W.nsIn K mainGlobals "list" = some none)
    (z_tuple : PySem.W.nsIn K mainGlobals "tuple" = some none)
    (z_min : PySem.W.nsIn K mainGlobals "min" = some none)
    (z_max : PySem.W.nsIn K mainGlobals "max" = some none)
    (z_sum : PySem.W.nsIn K mainGlobals "sum" = some none)
    (z_any : PySem.W.nsIn K mainGlobals "any" = some none)
    (z_all : PySem.W.nsIn K mainGlobals "all" = some none)
    (z_repr : PySem.W.nsIn K mainGlobals "repr" = some none)
    (z_sorted : PySem.W.nsIn K mainGlobals "sorted" = some none)
    (z_isinstance : PySem.W.nsIn K mainGlobals "isinstance" = some none)
    (z_range : PySem.W.nsIn K mainGlobals "range" = some none)
    (z_enumerate : PySem.W.nsIn K mainGlobals "enumerate" = some none)
    {C_HeapError : Addr} (c_HeapError : PySem.W.nsIn K mainGlobals "HeapError" = some (some (.ref C_HeapError)))
    {C_MissingError : Addr} (c_MissingError : PySem.W.nsIn K mainGlobals "MissingError" = some (some (.ref C_MissingError)))
    {C_NoNode : Addr} (c_NoNode : PySem.W.nsIn K mainGlobals "NoNode" = some (some (.ref C_NoNode)))
    {C_NoPosition : Addr} (c_NoPosition : PySem.W.nsIn K mainGlobals "NoPosition" = some (some (.ref C_NoPosition)))
    {C_NoReference : Addr} (c_NoReference : PySem.W.nsIn K mainGlobals "NoReference" = some (some (.ref C_NoReference)))
    {C_NoSlot : Addr} (c_NoSlot : PySem.W.nsIn K mainGlobals "NoSlot" = some (some (.ref C_NoSlot)))
    {C_NotFreed : Addr} (c_NotFreed : PySem.W.nsIn K mainGlobals "NotFreed" = some (some (.ref C_NotFreed)))
    {C_UndoError : Addr} (c_UndoError : PySem.W.nsIn K mainGlobals "UndoError" = some (some (.ref C_UndoError)))
    (xi_NoNode : PySem.W.excInitIn K C_NoNode bmLE "LookupError.__new__" = true) (xo_NoNode : PySem.W.excOver K C_NoNode bmLE = true) (xd_NoNode : PySem.W.hasDictIn K C_NoNode = true) (xs_NoNode : PySem.W.findIn K (.ref C_NoNode) "__setattr__" = some (some (.builtin "object.__setattr__")))
    (xe_NoNode : PySem.W.subIn K (.ref C_NoNode) (.type "BaseException") = some true) (xt_NoNode : PySem.W.typeIn K (.ref C_NoNode) = some (.type "type")) (xk_NoNode : PySem.W.keepIn K (.ref C_NoNode) = true) (xn_NoNode : PySem.W.takerIn K C_NoNode "node" = some none)
    (xg_NoNode : PySem.W.findIn K (.ref C_NoNode) "__getattribute__" = some (some (.builtin "BaseException.__getattribute__"))) (xG_NoNode : PySem.W.findIn K (.ref C_NoNode) "__getattr__" = some none) (xf_NoNode : PySem.W.findIn K (.ref C_NoNode) "node" = some none)
    (xc_NoNode : PySem.W.findIn K (.ref C_NoNode) "__class__" = some (some (.builtin "object.__class__"))) (xh_NoNode : PySem.W.specialIn K (.builtin "object.__class__") "__get__" = some (some (.builtin "getset_descriptor.__get__"))) (xT_NoNode : PySem.W.takesIn K (.builtin "object.__class__") = some true) (xm_NoNode : PySem.W.mroIn K C_NoNode (.type "object") = some true)
    {f_iNoNode : Addr} {od_iNoNode an_iNoNode : Option Addr} {sl_iNoNode : Array (Option Value)} {oc_iNoNode kV_iNoNode dc_iNoNode pm_iNoNode cd_iNoNode ct_iNoNode : Value}
    (a_iNoNode : PySem.W.findIn K (.ref C_NoNode) "__init__" = some (some (.ref f_iNoNode))) (t_iNoNode : PySem.W.typeIn K (.ref f_iNoNode) = some (.type "function"))
    (l_iNoNode : K.lookup f_iNoNode = some ⟨oc_iNoNode, od_iNoNode, .func (PySem.W.fnOf "__init__" "NoNode.__init__" (defArgs sNoNodeInit) (defBody sNoNodeInit) (defScope sNoNodeInit) .none kV_iNoNode dc_iNoNode pm_iNoNode an_iNoNode cd_iNoNode ct_iNoNode), sl_iNoNode⟩)
    (c_iNoNode : PySem.W.codeIn K cd_iNoNode "NoNode.__init__" = true) (k_iNoNode : PySem.W.keepIn K (.ref f_iNoNode) = true)
    (q1NN : PySem.W.kitOne K (.ref C_NoNode) (.ref C_NoNode) = some true) (q2NN : PySem.W.kitOne K (.ref C_NoNode) (.ref C_NoReference) = some false) (q3NN : PySem.W.kitOne K (.ref C_NoNode) (.ref C_NoSlot) = some false)
    (q4NN : PySem.W.kitAny K (.ref C_NoNode) [.ref C_HeapError, .ref C_NotFreed, .ref C_NoPosition, .ref C_UndoError] = some false) (q5NN : PySem.W.kitOne K (.ref C_NoNode) (.type "LookupError") = some true) (q6NN : PySem.W.exmAny K (.ref C_NoNode) [.ref C_HeapError, .ref C_MissingError] = some true)
    (xi_NoReference : PySem.W.excInitIn K C_NoReference bmLE "LookupError.__new__" = true) (xo_NoReference : PySem.W.excOver K C_NoReference bmLE = true) (xd_NoReference : PySem.W.hasDictIn K C_NoReference = true) (xs_NoReference : PySem.W.findIn K (.ref C_NoReference) "__setattr__" = some (some (.builtin "object.__setattr__")))
    (xe_NoReference : PySem.W.subIn K (.ref C_NoReference) (.type "BaseException") = some true) (xt_NoReference : PySem.W.typeIn K (.ref C_NoReference) = some (.type "type")) (xk_NoReference : PySem.W.keepIn K (.ref C_NoReference) = true) (xn_NoReference : PySem.W.takerIn K C_NoReference "node" = some none)
    (xg_NoReference : PySem.W.findIn K (.ref C_NoReference) "__getattribute__" = some (some (.builtin "BaseException.__getattribute__"))) (xG_NoReference : PySem.W.findIn K (.ref C_NoReference) "__getattr__" = some none) (xf_NoReference : PySem.W.findIn K (.ref C_NoReference) "node" = some none)
    (xc_NoReference : PySem.W.findIn K (.ref C_NoReference) "__class__" = some (some (.builtin "object.__class__"))) (xh_NoReference : PySem.W.specialIn K (.builtin "object.__class__") "__get__" = some (some (.builtin "getset_descriptor.__get__"))) (xT_NoReference : PySem.W.takesIn K (.builtin "object.__class__") = some true) (xm_NoReference : PySem.W.mroIn K C_NoReference (.type "object") = some true)
    {f_iNoReference : Addr} {od_iNoReference an_iNoReference : Option Addr} {sl_iNoReference : Array (Option Value)} {oc_iNoReference kV_iNoReference dc_iNoReference pm_iNoReference cd_iNoReference ct_iNoReference : Value}
    (a_iNoReference : PySem.W.findIn K (.ref C_NoReference) "__init__" = some (some (.ref f_iNoReference))) (t_iNoReference : PySem.W.typeIn K (.ref f_iNoReference) = some (.type "function"))
    (l_iNoReference : K.lookup f_iNoReference = some ⟨oc_iNoReference, od_iNoReference, .func (PySem.W.fnOf "__init__" "NoReference.__init__" (defArgs sNoReferenceInit) (defBody sNoReferenceInit) (defScope sNoReferenceInit) .none kV_iNoReference dc_iNoReference pm_iNoReference an_iNoReference cd_iNoReference ct_iNoReference), sl_iNoReference⟩)
    (c_iNoReference : PySem.W.codeIn K cd_iNoReference "NoReference.__init__" = true) (k_iNoReference : PySem.W.keepIn K (.ref f_iNoReference) = true)
    (q1NR : PySem.W.kitOne K (.ref C_NoReference) (.ref C_NoNode) = some false) (q2NR : PySem.W.kitOne K (.ref C_NoReference) (.ref C_NoReference) = some true) (q3NR : PySem.W.kitOne K (.ref C_NoReference) (.ref C_NoSlot) = some false)
    (q4NR : PySem.W.kitAny K (.ref C_NoReference) [.ref C_HeapError, .ref C_NotFreed, .ref C_NoPosition, .ref C_UndoError] = some false) (q5NR : PySem.W.kitOne K (.ref C_NoReference) (.type "LookupError") = some true) (q6NR : PySem.W.exmAny K (.ref C_NoReference) [.ref C_HeapError, .ref C_MissingError] = some true)
    (xi_NoSlot : PySem.W.excInitIn K C_NoSlot bmLE "LookupError.__new__" = true) (xo_NoSlot : PySem.W.excOver K C_NoSlot bmLE = true) (xd_NoSlot : PySem.W.hasDictIn K C_NoSlot = true) (xs_NoSlot : PySem.W.findIn K (.ref C_NoSlot) "__setattr__" = some (some (.builtin "object.__setattr__")))
    (xe_NoSlot : PySem.W.subIn K (.ref C_NoSlot) (.type "BaseException") = some true) (xt_NoSlot : PySem.W.typeIn K (.ref C_NoSlot) = some (.type "type")) (xk_NoSlot : PySem.W.keepIn K (.ref C_NoSlot) = true) (xn_NoSlot : PySem.W.takerIn K C_NoSlot "slot" = some none)
    (xg_NoSlot : PySem.W.findIn K (.ref C_NoSlot) "__getattribute__" = some (some (.builtin "BaseException.__getattribute__"))) (xG_NoSlot : PySem.W.findIn K (.ref C_NoSlot) "__getattr__" = some none) (xf_NoSlot : PySem.W.findIn K (.ref C_NoSlot) "slot" = some none)
    (xc_NoSlot : PySem.W.findIn K (.ref C_NoSlot) "__class__" = some (some (.builtin "object.__class__"))) (xh_NoSlot : PySem.W.specialIn K (.builtin "object.__class__") "__get__" = some (some (.builtin "getset_descriptor.__get__"))) (xT_NoSlot : PySem.W.takesIn K (.builtin "object.__class__") = some true) (xm_NoSlot : PySem.W.mroIn K C_NoSlot (.type "object") = some true)
    {f_iNoSlot : Addr} {od_iNoSlot an_iNoSlot : Option Addr} {sl_iNoSlot : Array (Option Value)} {oc_iNoSlot kV_iNoSlot dc_iNoSlot pm_iNoSlot cd_iNoSlot ct_iNoSlot : Value}
    (a_iNoSlot : PySem.W.findIn K (.ref C_NoSlot) "__init__" = some (some (.ref f_iNoSlot))) (t_iNoSlot : PySem.W.typeIn K (.ref f_iNoSlot) = some (.type "function"))
    (l_iNoSlot : K.lookup f_iNoSlot = some ⟨oc_iNoSlot, od_iNoSlot, .func (PySem.W.fnOf "__init__" "NoSlot.__init__" (defArgs sNoSlotInit) (defBody sNoSlotInit) (defScope sNoSlotInit) .none kV_iNoSlot dc_iNoSlot pm_iNoSlot an_iNoSlot cd_iNoSlot ct_iNoSlot), sl_iNoSlot⟩)
    (c_iNoSlot : PySem.W.codeIn K cd_iNoSlot "NoSlot.__init__" = true) (k_iNoSlot : PySem.W.keepIn K (.ref f_iNoSlot) = true)
    (q1NS : PySem.W.kitOne K (.ref C_NoSlot) (.ref C_NoNode) = some false) (q2NS : PySem.W.kitOne K (.ref C_NoSlot) (.ref C_NoReference) = some false) (q3NS : PySem.W.kitOne K (.ref C_NoSlot) (.ref C_NoSlot) = some true)
    (q4NS : PySem.W.kitAny K (.ref C_NoSlot) [.ref C_HeapError, .ref C_NotFreed, .ref C_NoPosition, .ref C_UndoError] = some false) (q5NS : PySem.W.kitOne K (.ref C_NoSlot) (.type "LookupError") = some true) (q6NS : PySem.W.exmAny K (.ref C_NoSlot) [.ref C_HeapError, .ref C_MissingError] = some true)
    {cA1 PR1 cA2 PR2 : Addr} (eR1 : cd_law_one_right = .ref cA1) (hTb1 : h.get? PR1 = some { cls := .none, data := .fields #[] }) (nTb1 : K.lookup PR1 = none) (cdR1 : PySem.W.codeHdIn K cA1 PR1 = true)
    (eR2 : cd_law = .ref cA2) (hTb2 : h.get? PR2 = some { cls := .none, data := .fields #[] }) (nTb2 : K.lookup PR2 = none) (cdR2 : PySem.W.codeHdIn K cA2 PR2 = true) (nPP : PR1 ≠ PR2) :
    ∃ (fd : FuncData) (cs : List (Addr × Addr)) (sp : Sp), (∀ p ∈ cs, h.get? p.2 = some { cls := .none, data := .fields #[] }) ∧ (∀ p ∈ cs, K.lookup p.2 = none) ∧ (∀ p ∈ cs, PySem.W.CodeHd h p.1 p.2) ∧ (∀ (s : Shared) (u : Value), BindsTo s fd ⟨[u], []⟩ [("_law_script", u)]) ∧
        (∀ (H : Hp) (a : Addr) (ns : List Int), ns.length ≤ 63 → OnlyT (cs.map (·.2)) H → (∀ p ∈ cs, H p.2 = some (.tbl #[])) → SqL K H a (ns.map V.int) → sp [.ref a] H (fun v _ => v = .bl true) E0) ∧
        ∀ base : Heap, K.In base → base.Ns mainGlobals mg → (∀ p ∈ cs, LamX.TabB base mg p.1 p.2) → FnG l.prog w K mg base 12 fa fd ["_law_script"] sp := by
  have e := hfa.symm.trans (PySem.W.mg_of X G a_law)
  cases e
  have T : Txt mg := ⟨PySem.W.mg_none_of X G z_len, PySem.W.mg_none_of X G z_LookupError, PySem.W.mg_none_of X G z_abs, PySem.W.mg_none_of X G z_int, PySem.W.mg_none_of X G z_bool, PySem.W.mg_none_of X G z_list, PySem.W.mg_none_of X G z_tuple, PySem.W.mg_none_of X G z_min, PySem.W.mg_none_of X G z_max, PySem.W.mg_none_of X G z_sum, PySem.W.mg_none_of X G z_any, PySem.W.mg_none_of X G z_all, PySem.W.mg_none_of X G z_repr, PySem.W.mg_none_of X G z_sorted, PySem.W.mg_none_of X G z_isinstance, PySem.W.mg_none_of X G z_range, PySem.W.mg_none_of X G z_enumerate⟩
  have F_slot_uses := fun_mk (st := sSlotUses) l_slot_uses c_slot_uses k_slot_uses
  have F_counts := fun_mk (st := sCounts) l_counts c_counts k_counts
  have F_is_integer := fun_mk (st := sIsInteger) l_is_integer c_is_integer k_is_integer
  have F_is_between := fun_mk (st := sIsBetween) l_is_between c_is_between k_is_between
  have F_is_live := fun_mk (st := sIsLive) l_is_live c_is_live k_is_live
  have F_need_live := fun_mk (st := sNeedLive) l_need_live c_need_live k_need_live
  have F_need_reference := fun_mk (st := sNeedReference) l_need_reference c_need_reference k_need_reference
  have F_Releasing_destroy := fun_mk (st := sReleasingDestroy) l_Releasing_destroy c_Releasing_destroy k_Releasing_destroy
  have F_Releasing_release := fun_mk (st := sReleasingRelease) l_Releasing_release c_Releasing_release k_Releasing_release
  have F_Releasing_release_all := fun_mk (st := sReleasingReleaseAll) l_Releasing_release_all c_Releasing_release_all k_Releasing_release_all
  have F_Releasing_drop := fun_mk (st := sReleasingDrop) l_Releasing_drop c_Releasing_drop k_Releasing_drop
  have F_Releasing_init := fun_mk (st := sReleasingInit) l_Releasing_init c_Releasing_init k_Releasing_init
  have F_Releasing_put := fun_mk (st := sReleasingPut) l_Releasing_put c_Releasing_put k_Releasing_put
  have F_Releasing_empty := fun_mk (st := sReleasingEmpty) l_Releasing_empty c_Releasing_empty k_Releasing_empty
  have F_Releasing_result := fun_mk (st := sReleasingResult) l_Releasing_result c_Releasing_result k_Releasing_result
  have F_run_drop := fun_mk (st := sRunDrop) l_run_drop c_run_drop k_run_drop
  have F_run_put := fun_mk (st := sRunPut) l_run_put c_run_put k_run_put
  have F_run_empty := fun_mk (st := sRunEmpty) l_run_empty c_run_empty k_run_empty
  have F_drop := fun_mk (st := sDrop) l_drop c_drop k_drop
  have F_trace := fun_mk (st := sTrace) l_trace c_trace k_trace
  have F_set_slot := fun_mk (st := sSetSlot) l_set_slot c_set_slot k_set_slot
  have F_empty_slots := fun_mk (st := sEmptySlots) l_empty_slots c_empty_slots k_empty_slots
  have F_law_pen := fun_mk (st := sQPen) l_law_pen c_law_pen k_law_pen
  have F_law_draw := fun_mk (st := sQDraw) l_law_draw c_law_draw k_law_draw
  have F_law_shuffled := fun_mk (st := sQShuffled) l_law_shuffled c_law_shuffled k_law_shuffled
  have F_law_linked := fun_mk (st := sQLinked) l_law_linked c_law_linked k_law_linked
  have F_law_base := fun_mk (st := sQBase) l_law_base c_law_base k_law_base
  have F_law_odd := fun_mk (st := sQOdd) l_law_odd c_law_odd k_law_odd
  have F_law_missing := fun_mk (st := sQMissing) l_law_missing c_law_missing k_law_missing
  have F_law_is_node := fun_mk (st := sQIsNode) l_law_is_node c_law_is_node k_law_is_node
  have F_law_due := fun_mk (st := sQDue) l_law_due c_law_due k_law_due
  have F_law_due_slot := fun_mk (st := sQDueSlot) l_law_due_slot c_law_due_slot k_law_due_slot
  have F_law_pick := fun_mk (st := sQPick) l_law_pick c_law_pick k_law_pick
  have F_law_one_right := fun_mk (st := sQOneRight) l_law_one_right c_law_one_right k_law_one_right
  have F_law := fun_mk (st := sLaw) l_law c_law k_law
  have cR : Cls K C := ⟨pg, hd, po, sa⟩
  have hC : ClR K C := ⟨cR, n_slots, n_outside, n_references, n_limit, n_emptied, n_shelf, n_events⟩
  have eNN : ExB K C_NoNode bmLE "LookupError.__new__" := ⟨xi_NoNode, xo_NoNode, xd_NoNode, xs_NoNode, xe_NoNode, xt_NoNode, xk_NoNode⟩
  have F_iNoNode := fun_mk (st := sNoNodeInit) l_iNoNode c_iNoNode k_iNoNode
  have nNN : NNx K C_HeapError C_MissingError C_NoNode C_NoPosition C_NoReference C_NoSlot C_NotFreed C_UndoError := ⟨⟨xg_NoNode, xG_NoNode, xe_NoNode, xd_NoNode⟩, ⟨xg_NoNode, xG_NoNode, xe_NoNode, xd_NoNode, xc_NoNode, xh_NoNode, xT_NoNode, xm_NoNode⟩, xf_NoNode, q1NN, q2NN, q3NN, q4NN, q5NN, q6NN⟩
  have eNR : ExB K C_NoReference bmLE "LookupError.__new__" := ⟨xi_NoReference, xo_NoReference, xd_NoReference, xs_NoReference, xe_NoReference, xt_NoReference, xk_NoReference⟩
  have F_iNoReference := fun_mk (st := sNoReferenceInit) l_iNoReference c_iNoReference k_iNoReference
  have nNR : NRx K C_HeapError C_MissingError C_NoNode C_NoPosition C_NoReference C_NoSlot C_NotFreed C_UndoError := ⟨⟨xg_NoReference, xG_NoReference, xe_NoReference, xd_NoReference⟩, ⟨xg_NoReference, xG_NoReference, xe_NoReference, xd_NoReference, xc_NoReference, xh_NoReference, xT_NoReference, xm_NoReference⟩, xf_NoReference, q1NR, q2NR, q3NR, q4NR, q5NR, q6NR⟩
  have eNS : ExB K C_NoSlot bmLE "LookupError.__new__" := ⟨xi_NoSlot, xo_NoSlot, xd_NoSlot, xs_NoSlot, xe_NoSlot, xt_NoSlot, xk_NoSlot⟩
  have F_iNoSlot := fun_mk (st := sNoSlotInit) l_iNoSlot c_iNoSlot k_iNoSlot
  have nNS : NSx K C_HeapError C_MissingError C_NoNode C_NoPosition C_NoReference C_NoSlot C_NotFreed C_UndoError := ⟨⟨xg_NoSlot, xG_NoSlot, xe_NoSlot, xd_NoSlot⟩, ⟨xg_NoSlot, xG_NoSlot, xe_NoSlot, xd_NoSlot, xc_NoSlot, xh_NoSlot, xT_NoSlot, xm_NoSlot⟩, xf_NoSlot, q1NS, q2NS, q3NS, q4NS, q5NS, q6NS⟩
  subst eR1 eR2
  have FC1 := funC_mk (st := sQOneRight) l_law_one_right c_law_one_right k_law_one_right
  have FC2 := funC_mk (st := sLaw) l_law c_law k_law
  have DE : LamD K mg "_law_missing" "_law_call" sQMissing f_law_missing _ cd_law_missing ["_law_call", "_law_caught", "error", "_law_marks", "_law_others"] := ⟨funC_mk (st := sQMissing) l_law_missing c_law_missing k_law_missing, PySem.W.mg_of X G a_law_missing, F_law_missing.binds (ps := ["_law_call"]) (fun _ _ _ _ _ _ us hl => match us, hl with | [_], _ => rfl), scQMissing, rfl, Or.inl rfl⟩
  have inC : ∀ p ∈ [(cA1, PR1), (cA2, PR2)], p = (cA1, PR1) ∨ p = (cA2, PR2) := fun p hp => by simpa using hp
  refine ⟨PySem.W.fnOf "law" "law" (defArgs sLaw) (defBody sLaw) (defScope sLaw) .none kV_law dc_law pm_law an_law (.ref cA2) ct_law, [(cA1, PR1), (cA2, PR2)], spLaw K PR1 PR2, fun p hp => (inC p hp).elim (fun e => by rw [e]; exact hTb1) (fun e => by rw [e]; exact hTb2), fun p hp => (inC p hp).elim (fun e => by rw [e]; exact nTb1) (fun e => by rw [e]; exact nTb2), fun p hp => (inC p hp).elim (fun e => by rw [e]; exact PySem.W.codeHd_of_K X cdR1) (fun e => by rw [e]; exact PySem.W.codeHd_of_K X cdR2), fun s v => .of_eq rfl,
    fun H a ns _ _ hH hS => ⟨a, ns, rfl, hS, fun p hp => by
      rcases (show p = (PR1, lamQ1) ∨ p = (PR2, lamQ2) by simpa [TT] using hp) with e | e
      · rw [e]
        exact LamX.TabS.nil (hH (cA1, PR1) List.mem_cons_self)
      · rw [e]
        exact LamX.TabS.nil (hH (cA2, PR2) (List.mem_cons_of_mem _ List.mem_cons_self)), fun _ => rfl⟩, fun base _ _ TBs => ?_⟩
  have TB1 := TBs _ List.mem_cons_self
  have TB2 := TBs _ (List.mem_cons_of_mem _ List.mem_cons_self)
  have b_slot_uses := F_slot_uses.binds (ps := ["slots"]) fun _ _ _ _ _ _ us hl => match us, hl with | [_], _ => rfl
  have l_slot_uses : Lo l.prog w K mg base "slot_uses" 1 ["slots"] (spUses K) := ⟨f_slot_uses, _, ok_uses F_slot_uses T, PySem.W.mg_of X G a_slot_uses, k_slot_uses, b_slot_uses⟩
  have b_counts := F_counts.binds (ps := ["heap"]) fun _ _ _ _ _ _ us hl => match us, hl with | [_], _ => rfl
  have l_counts : Lo l.prog w K mg base "counts" 2 ["heap"] (spCounts K) := ⟨f_counts, _, ok_counts F_counts T l_slot_uses, PySem.W.mg_of X G a_counts, k_counts, b_counts⟩
  have b_is_integer := F_is_integer.binds (ps := ["value"]) fun _ _ _ _ _ _ us hl => match us, hl with | [_], _ => rfl
  have l_is_integer : Lo l.prog w K mg base "is_integer" 1 ["value"] (spIsInt) := ⟨f_is_integer, _, ok_isInt F_is_integer T, PySem.W.mg_of X G a_is_integer, k_is_integer, b_is_integer⟩
  have b_is_between := F_is_between.binds (ps := ["value", "low", "high"]) fun _ _ _ _ _ _ us hl => match us, hl with | [_, _, _], _ => rfl
  have l_is_between : Lo l.prog w K mg base "is_between" 2 ["value", "low", "high"] (spBetween) := ⟨f_is_between, _, ok_between F_is_between T l_is_integer, PySem.W.mg_of X G a_is_between, k_is_between, b_is_between⟩
  have b_is_live := F_is_live.binds (ps := ["heap", "value"]) fun _ _ _ _ _ _ us hl => match us, hl with | [_, _], _ => rfl
  have l_is_live : Lo l.prog w K mg base "is_live" 3 ["heap", "value"] (spIsLive K) := ⟨f_is_live, _, ok_isLive F_is_live T l_is_between, PySem.W.mg_of X G a_is_live, k_is_live, b_is_live⟩
  have b_need_live := F_need_live.binds (ps := ["heap", "node"]) fun _ _ _ _ _ _ us hl => match us, hl with | [_, _], _ => rfl
  have l_need_live : Lo l.prog w K mg base "need_live" 4 ["heap", "node"] (spNeedLive K) := ⟨f_need_live, _, ok_needLive F_need_live T l_is_live, PySem.W.mg_of X G a_need_live, k_need_live, b_need_live⟩
  have b_need_reference := F_need_reference.binds (ps := ["heap", "node"]) fun _ _ _ _ _ _ us hl => match us, hl with | [_, _], _ => rfl
  have l_need_reference : Lo l.prog w K mg base "need_reference" 5 ["heap", "node"] (spNeedRef K) := ⟨f_need_reference, _, ok_needRef F_need_reference T l_need_live, PySem.W.mg_of X G a_need_reference, k_need_reference, b_need_reference⟩
  have b_Releasing_destroy := F_Releasing_destroy.binds (ps := ["self", "node", "depth"]) fun _ _ _ _ _ _ us hl => match us, hl with | [_, _, _], _ => rfl
  have m_destroy : Lm l.prog w K mg base C "_destroy" 1 ["self", "node", "depth"] (spDestroy K C) := ⟨f_Releasing_destroy, _, ok_destroy F_Releasing_destroy T, ⟨a_Releasing_destroy, i_Releasing_destroy, k_Releasing_destroy⟩, b_Releasing_destroy⟩
  have b_Releasing_release := F_Releasing_release.binds (ps := ["self", "holder", "slot", "node", "depth"]) fun _ _ _ _ _ _ us hl => match us, hl with | [_, _, _, _, _], _ => rfl
  have m_release : Lm l.prog w K mg base C "_release" 2 ["self", "holder", "slot", "node", "depth"] (spRelease K C) := ⟨f_Releasing_release, _, ok_release F_Releasing_release T m_destroy cR, ⟨a_Releasing_release, i_Releasing_release, k_Releasing_release⟩, b_Releasing_release⟩
  have b_Releasing_release_all := F_Releasing_release_all.binds (ps := ["self"]) fun _ _ _ _ _ _ us hl => match us, hl with | [_], _ => rfl
  have m_release_all : Lm l.prog w K mg base C "_release_all" 3 ["self"] (spReleaseAll K C) := ⟨f_Releasing_release_all, _, ok_releaseAll F_Releasing_release_all T m_release cR, ⟨a_Releasing_release_all, i_Releasing_release_all, k_Releasing_release_all⟩, b_Releasing_release_all⟩
  have b_Releasing_drop := F_Releasing_drop.binds (ps := ["self", "node"]) fun _ _ _ _ _ _ us hl => match us, hl with | [_, _], _ => rfl
  have m_drop : Lm l.prog w K mg base C "drop" 4 ["self", "node"] (spMDrop K C) := ⟨f_Releasing_drop, _, ok_mdrop F_Releasing_drop T m_release_all m_destroy cR, ⟨a_Releasing_drop, i_Releasing_drop, k_Releasing_drop⟩, b_Releasing_drop⟩
  have b_Releasing_init := F_Releasing_init.binds (ps := ["self", "heap", "limit"]) fun _ _ _ _ _ _ us hl => match us, hl with | [_, _, _], _ => rfl
  have n_Releasing : Ln l.prog w K mg base C "Releasing" 3 ["self", "heap", "limit"] (spMInit K C) := ⟨f_Releasing_init, _, ok_minit F_Releasing_init T l_counts, ⟨mk, a_Releasing_init, i_Releasing_init, kc⟩, PySem.W.mg_of X G aC, b_Releasing_init⟩
  have b_Releasing_put := F_Releasing_put.binds (ps := ["self", "node", "slot", "target"]) fun _ _ _ _ _ _ us hl => match us, hl with | [_, _, _, _], _ => rfl
  have m_put : Lm l.prog w K mg base C "put" 5 ["self", "node", "slot", "target"] (spPut K C) := ⟨f_Releasing_put, _, ok_put F_Releasing_put T m_drop cR, ⟨a_Releasing_put, i_Releasing_put, k_Releasing_put⟩, b_Releasing_put⟩
  have b_Releasing_empty := F_Releasing_empty.binds (ps := ["self", "node"]) fun _ _ _ _ _ _ us hl => match us, hl with | [_, _], _ => rfl
  have m_empty : Lm l.prog w K mg base C "empty" 6 ["self", "node"] (spEmpty K C) := ⟨f_Releasing_empty, _, ok_empty F_Releasing_empty T m_put m_drop cR, ⟨a_Releasing_empty, i_Releasing_empty, k_Releasing_empty⟩, b_Releasing_empty⟩
  have b_Releasing_result := F_Releasing_result.binds (ps := ["self"]) fun _ _ _ _ _ _ us hl => match us, hl with | [_], _ => rfl
  have m_result : Lm l.prog w K mg base C "result" 1 ["self"] (spResult K C) := ⟨f_Releasing_result, _, ok_result F_Releasing_result T, ⟨a_Releasing_result, i_Releasing_result, k_Releasing_result⟩, b_Releasing_result⟩
  have b_run_drop := F_run_drop.binds (ps := ["heap", "node", "limit"]) fun _ _ _ _ _ _ us hl => match us, hl with | [_, _, _], _ => rfl
  have l_run_drop : Lo l.prog w K mg base "run_drop" 6 ["heap", "node", "limit"] (spRun K C) := ⟨f_run_drop, _, ok_run F_run_drop T hC cR l_need_reference n_Releasing m_drop, PySem.W.mg_of X G a_run_drop, k_run_drop, b_run_drop⟩
  have b_run_put := F_run_put.binds (ps := ["heap", "node", "slot", "target", "limit"]) fun _ _ _ _ _ _ us hl => match us, hl with | [_, _, _, _, _], _ => rfl
  have l_run_put : Lo l.prog w K mg base "run_put" 6 ["heap", "node", "slot", "target", "limit"] (spRunPut K C) := ⟨f_run_put, _, ok_runPut F_run_put T hC cR l_need_live l_is_between l_is_live n_Releasing m_put, PySem.W.mg_of X G a_run_put, k_run_put, b_run_put⟩
  have b_run_empty := F_run_empty.binds (ps := ["heap", "node", "limit"]) fun _ _ _ _ _ _ us hl => match us, hl with | [_, _, _], _ => rfl
  have l_run_empty : Lo l.prog w K mg base "run_empty" 7 ["heap", "node", "limit"] (spRunEmpty K C) := ⟨f_run_empty, _, ok_runEmpty F_run_empty T hC cR l_need_live n_Releasing m_empty, PySem.W.mg_of X G a_run_empty, k_run_empty, b_run_empty⟩
  have b_law_pen := F_law_pen.binds (ps := ["_law_script"]) fun _ _ _ _ _ _ us hl => match us, hl with | [_], _ => rfl
  have l_law_pen : Lo l.prog w K mg base "_law_pen" 1 ["_law_script"] (spPen K) := ⟨f_law_pen, _, ok_pen F_law_pen T, PySem.W.mg_of X G a_law_pen, k_law_pen, b_law_pen⟩
  have b_law_draw := F_law_draw.binds (ps := ["_law_pen_here", "_law_most_one"]) fun _ _ _ _ _ _ us hl => match us, hl with | [_, _], _ => rfl
  have l_law_draw : Lo l.prog w K mg base "_law_draw" 1 ["_law_pen_here", "_law_most_one"] (spDraw) := ⟨f_law_draw, _, ok_draw F_law_draw T, PySem.W.mg_of X G a_law_draw, k_law_draw, b_law_draw⟩
  have b_law_shuffled := F_law_shuffled.binds (ps := ["_law_pen_here", "_law_row"]) fun _ _ _ _ _ _ us hl => match us, hl with | [_, _], _ => rfl
  have l_law_shuffled : Lo l.prog w K mg base "_law_shuffled" 2 ["_law_pen_here", "_law_row"] (spShuf K) := ⟨f_law_shuffled, _, ok_shuf F_law_shuffled T l_law_draw, PySem.W.mg_of X G a_law_shuffled, k_law_shuffled, b_law_shuffled⟩
  have b_law_linked := F_law_linked.binds (ps := ["_law_pen_here", "_law_labels", "_law_alive"]) fun _ _ _ _ _ _ us hl => match us, hl with | [_, _, _], _ => rfl
  have l_law_linked : Lo l.prog w K mg base "_law_linked" 2 ["_law_pen_here", "_law_labels", "_law_alive"] (spLinked K) := ⟨f_law_linked, _, ok_linked F_law_linked T l_law_draw, PySem.W.mg_of X G a_law_linked, k_law_linked, b_law_linked⟩
  have b_law_base := F_law_base.binds (ps := ["_law_pen_here"]) fun _ _ _ _ _ _ us hl => match us, hl with | [_], _ => rfl
  have l_law_base : Lo l.prog w K mg base "_law_base" 3 ["_law_pen_here"] (spBase K) := ⟨f_law_base, _, ok_base F_law_base T l_law_draw l_law_shuffled l_law_linked, PySem.W.mg_of X G a_law_base, k_law_base, b_law_base⟩
  have b_law_odd := F_law_odd.binds (ps := ["_law_pen_here", "_law_size"]) fun _ _ _ _ _ _ us hl => match us, hl with | [_, _], _ => rfl
  have l_law_odd : Lo l.prog w K mg base "_law_odd" 2 ["_law_pen_here", "_law_size"] (spOdd K) := ⟨f_law_odd, _, ok_odd F_law_odd T l_law_draw, PySem.W.mg_of X G a_law_odd, k_law_odd, b_law_odd⟩
  have b_law_is_node := F_law_is_node.binds (ps := ["_law_base_here", "_law_thing"]) fun _ _ _ _ _ _ us hl => match us, hl with | [_, _], _ => rfl
  have l_law_is_node : Lo l.prog w K mg base "_law_is_node" 1 ["_law_base_here", "_law_thing"] (spIsNode K) := ⟨f_law_is_node, _, ok_isNode F_law_is_node T, PySem.W.mg_of X G a_law_is_node, k_law_is_node, b_law_is_node⟩
  have b_law_due := F_law_due.binds (ps := ["_law_base_here", "_law_spot"]) fun _ _ _ _ _ _ us hl => match us, hl with | [_, _], _ => rfl
  have l_law_due : Lo l.prog w K mg base "_law_due" 2 ["_law_base_here", "_law_spot"] (spDue K) := ⟨f_law_due, _, ok_due F_law_due T l_law_is_node, PySem.W.mg_of X G a_law_due, k_law_due, b_law_due⟩
  have b_law_due_slot := F_law_due_slot.binds (ps := ["_law_base_here", "_law_spot", "_law_place", "_law_goal"]) fun _ _ _ _ _ _ us hl => match us, hl with | [_, _, _, _], _ => rfl
  have l_law_due_slot : Lo l.prog w K mg base "_law_due_slot" 2 ["_law_base_here", "_law_spot", "_law_place", "_law_goal"] (spDueS K) := ⟨f_law_due_slot, _, ok_dueS F_law_due_slot T l_law_is_node, PySem.W.mg_of X G a_law_due_slot, k_law_due_slot, b_law_due_slot⟩
  have b_law_pick := F_law_pick.binds (ps := ["_law_pen_here", "_law_base_here", "_law_alive"]) fun _ _ _ _ _ _ us hl => match us, hl with | [_, _, _], _ => rfl
  have l_law_pick : Lo l.prog w K mg base "_law_pick" 3 ["_law_pen_here", "_law_base_here", "_law_alive"] (spPick K) := ⟨f_law_pick, _, ok_pick F_law_pick T l_law_draw l_law_odd, PySem.W.mg_of X G a_law_pick, k_law_pick, b_law_pick⟩
  have b_iNoNode := F_iNoNode.binds (ps := ["self", "node"]) fun _ _ _ _ _ _ us hl => match us, hl with | [_, _], _ => rfl
  have n_NoNode : LxB l.prog w K mg base "NoNode" C_NoNode 1 ["self", "node"] (spI1 C_NoNode "node") bmLE "LookupError.__new__" := ⟨⟨_, _, exF_LE⟩, eNN, ⟨f_iNoNode, _, ok_iNN F_iNoNode eNN xn_NoNode, a_iNoNode, t_iNoNode, b_iNoNode⟩, PySem.W.mg_of X G c_NoNode⟩
  have b_iNoReference := F_iNoReference.binds (ps := ["self", "node"]) fun _ _ _ _ _ _ us hl => match us, hl with | [_, _], _ => rfl
  have n_NoReference : LxB l.prog w K mg base "NoReference" C_NoReference 1 ["self", "node"] (spI1 C_NoReference "node") bmLE "LookupError.__new__" := ⟨⟨_, _, exF_LE⟩, eNR, ⟨f_iNoReference, _, ok_iNR F_iNoReference eNR xn_NoReference, a_iNoReference, t_iNoReference, b_iNoReference⟩, PySem.W.mg_of X G c_NoReference⟩
  have b_iNoSlot := F_iNoSlot.binds (ps := ["self", "slot"]) fun _ _ _ _ _ _ us hl => match us, hl with | [_, _], _ => rfl
  have n_NoSlot : LxB l.prog w K mg base "NoSlot" C_NoSlot 1 ["self", "slot"] (spI1 C_NoSlot "slot") bmLE "LookupError.__new__" := ⟨⟨_, _, exF_LE⟩, eNS, ⟨f_iNoSlot, _, ok_iNS F_iNoSlot eNS xn_NoSlot, a_iNoSlot, t_iNoSlot, b_iNoSlot⟩, PySem.W.mg_of X G c_NoSlot⟩
  have l_is_integerD : Lo l.prog w K mg base "is_integer" 1 ["value"] (spIsIntD K) := ⟨f_is_integer, _, ok_isIntD F_is_integer T, PySem.W.mg_of X G a_is_integer, k_is_integer, b_is_integer⟩
  have l_is_betweenD : Lo l.prog w K mg base "is_between" 2 ["value", "low", "high"] (spBtw K) := ⟨f_is_between, _, ok_btw F_is_between T l_is_integerD, PySem.W.mg_of X G a_is_between, k_is_between, b_is_between⟩
  have l_is_liveD : Lo l.prog w K mg base "is_live" 3 ["heap", "value"] (spIsLiveD K) := ⟨f_is_live, _, ok_isLiveD F_is_live T l_is_betweenD, PySem.W.mg_of X G a_is_live, k_is_live, b_is_live⟩
  have e_need_live : LoX l.prog w K mg base "need_live" 4 ["heap", "node"] (spNeedLX K C_NoNode) := ⟨f_need_live, _, ok_needLX F_need_live T l_is_liveD n_NoNode, PySem.W.mg_of X G a_need_live, k_need_live, b_need_live⟩
  have e_need_reference : LoX l.prog w K mg base "need_reference" 5 ["heap", "node"] (spNeedRX K C_NoNode C_NoReference C_NoSlot) := ⟨f_need_reference, _, ok_needRX F_need_reference T e_need_live n_NoReference, PySem.W.mg_of X G a_need_reference, k_need_reference, b_need_reference⟩
  have e_run_drop : LoX l.prog w K mg base "run_drop" 6 ["heap", "node", "limit"] (spDropR K C_NoNode C_NoReference C_NoSlot) := ⟨f_run_drop, _, ok_runR F_run_drop T hC cR e_need_reference n_Releasing m_drop, PySem.W.mg_of X G a_run_drop, k_run_drop, b_run_drop⟩
  have e_drop : LkxX l.prog w K mg base "drop" 7 ["heap", "node", "limit"] ["limit"] (gApp 2 1) (spDropC K C_NoNode C_NoReference C_NoSlot) := ⟨f_drop, _, gApp 2 1, dropC_of (ok_drop F_drop T hC cR l_run_drop m_result) (ok_dropR F_drop T cR e_run_drop m_result), PySem.W.mg_of X G a_drop, k_drop, ⟨fun s us ws _ hl => by have h := gApp_to (n := 2) (m := 1) hl (by decide); obtain ⟨_, _, rfl⟩ := len2 h.1; obtain ⟨_, rfl⟩ := len1 h.2; exact .of_eq rfl, gApp_rel⟩⟩
  have e_trace : LkxX l.prog w K mg base "trace" 7 ["heap", "node", "limit"] ["limit"] (gApp 2 1) (spDropC K C_NoNode C_NoReference C_NoSlot) := ⟨f_trace, _, gApp 2 1, traceC_of (ok_trace F_trace T hC cR l_run_drop) (ok_traceR F_trace T cR e_run_drop), PySem.W.mg_of X G a_trace, k_trace, ⟨fun s us ws _ hl => by have h := gApp_to (n := 2) (m := 1) hl (by decide); obtain ⟨_, _, rfl⟩ := len2 h.1; obtain ⟨_, rfl⟩ := len1 h.2; exact .of_eq rfl, gApp_rel⟩⟩
  have e_run_put : LoX l.prog w K mg base "run_put" 6 ["heap", "node", "slot", "target", "limit"] (spPutR K C_NoNode C_NoSlot) := ⟨f_run_put, _, ok_runPutR F_run_put T hC cR e_need_live l_is_betweenD l_is_liveD n_NoNode n_NoSlot n_Releasing m_put, PySem.W.mg_of X G a_run_put, k_run_put, b_run_put⟩
  have e_set_slot : LkxX l.prog w K mg base "set_slot" 7 ["heap", "node", "slot", "target", "limit"] ["limit"] (gApp 4 1) (spSetC K C_NoNode C_NoSlot) := ⟨f_set_slot, _, gApp 4 1, setC_of (ok_set F_set_slot T hC cR l_run_put m_result) (ok_setR F_set_slot T cR e_run_put m_result), PySem.W.mg_of X G a_set_slot, k_set_slot, ⟨fun s us ws _ hl => by have h := gApp_to (n := 4) (m := 1) hl (by decide); obtain ⟨_, _, _, _, rfl⟩ := len4 h.1; obtain ⟨_, rfl⟩ := len1 h.2; exact .of_eq rfl, gApp_rel⟩⟩
  have e_run_empty : LoX l.prog w K mg base "run_empty" 7 ["heap", "node", "limit"] (spEmpR K C_NoNode) := ⟨f_run_empty, _, ok_runEmpR F_run_empty T hC cR e_need_live n_Releasing m_empty, PySem.W.mg_of X G a_run_empty, k_run_empty, b_run_empty⟩
  have e_empty_slots : LkxX l.prog w K mg base "empty_slots" 8 ["heap", "node", "limit"] ["limit"] (gApp 2 1) (spEmpC K C_NoNode) := ⟨f_empty_slots, _, gApp 2 1, empC_of (ok_es F_empty_slots T hC cR l_run_empty m_result) (ok_esR F_empty_slots T cR e_run_empty m_result), PySem.W.mg_of X G a_empty_slots, k_empty_slots, ⟨fun s us ws _ hl => by have h := gApp_to (n := 2) (m := 1) hl (by decide); obtain ⟨_, _, rfl⟩ := len2 h.1; obtain ⟨_, rfl⟩ := len1 h.2; exact .of_eq rfl, gApp_rel⟩⟩
  have b_law_one_right := F_law_one_right.binds (ps := ["_law_base_here", "_law_spot", "_law_bound"]) fun _ _ _ _ _ _ us hl => match us, hl with | [_, _, _], _ => rfl
  have l_law_one_right : Lk l.prog w K mg base "_law_one_right" 11 ["_law_base_here", "_law_spot", "_law_bound"] (spOne K PR1 PR2) := ⟨f_law_one_right, _, ok_one FC1 T TB1 nPP DE (PySem.W.mg_of X G c_HeapError) (PySem.W.mg_of X G c_MissingError) (PySem.W.mg_of X G c_NoNode) (PySem.W.mg_of X G c_NoPosition) (PySem.W.mg_of X G c_NoReference) (PySem.W.mg_of X G c_NoSlot) (PySem.W.mg_of X G c_NotFreed) (PySem.W.mg_of X G c_UndoError) nNN nNR nNS l_law_is_node l_law_due e_drop e_trace e_empty_slots, PySem.W.mg_of X G a_law_one_right, k_law_one_right, b_law_one_right⟩
  exact ok_law FC2 T TB2 nPP DE (PySem.W.mg_of X G c_HeapError) (PySem.W.mg_of X G c_MissingError) (PySem.W.mg_of X G c_NoNode) (PySem.W.mg_of X G c_NoPosition) (PySem.W.mg_of X G c_NoReference) (PySem.W.mg_of X G c_NoSlot) (PySem.W.mg_of X G c_NotFreed) (PySem.W.mg_of X G c_UndoError) nNN nNR nNS l_law_pen l_law_base l_law_pick l_law_due_slot l_law_one_right e_set_slot
end SF
open PySem PySem.W PyProof.Rows in
set_option maxRecDepth 100000 in
set_option maxHeartbeats 0 in
theorem PySem.Challenge.cw_slotfall_k11_refused_nodes_and_slots_holds : PySem.Challenge.rw_slotfall_k11_refused_nodes_and_slots.Holds := by
  w_on; o_law; k_head; (case hw => w_witness2)
  k_fill
  refine SF.walkGT (l := PySem.Challenge.rw_slotfall_k11_refused_nodes_and_slots) (n := 63) (k := 12) (x := "_law_script") rfl (by decide) rfl ⟨rfl, by decide, by decide⟩ (fun w h Y => PySem.W.km_in_of Y) ?F
  case F =>
    intro w mg fa h Y KX G hmg
    refine' SF.all_mk KX G hmg ?aC ?pg ?hd ?po ?sa ?mk ?kc ?n_slots ?n_outside ?n_references ?n_limit ?n_emptied ?n_shelf ?n_events ?a_slot_uses ?l_slot_uses ?c_slot_uses ?k_slot_uses ?a_counts ?l_counts ?c_counts ?k_counts ?a_is_integer ?l_is_integer ?c_is_integer ?k_is_integer ?a_is_between ?l_is_between ?c_is_between ?k_is_between ?a_is_live ?l_is_live ?c_is_live ?k_is_live ?a_need_live ?l_need_live ?c_need_live ?k_need_live ?a_need_reference ?l_need_reference ?c_need_reference ?k_need_reference ?a_Releasing_destroy ?i_Releasing_destroy ?l_Releasing_destroy ?c_Releasing_destroy ?k_Releasing_destroy ?a_Releasing_release ?i_Releasing_release ?l_Releasing_release ?c_Releasing_release ?k_Releasing_release ?a_Releasing_release_all ?i_Releasing_release_all ?l_Releasing_release_all ?c_Releasing_release_all ?k_Releasing_release_all ?a_Releasing_drop ?i_Releasing_drop ?l_Releasing_drop ?c_Releasing_drop ?k_Releasing_drop ?a_Releasing_init ?i_Releasing_init ?l_Releasing_init ?c_Releasing_init ?k_Releasing_init ?a_Releasing_put ?i_Releasing_put ?l_Releasing_put ?c_Releasing_put ?k_Releasing_put ?a_Releasing_empty ?i_Releasing_empty ?l_Releasing_empty ?c_Releasing_empty ?k_Releasing_empty ?a_Releasing_result ?i_Releasing_result ?l_Releasing_result ?c_Releasing_result ?k_Releasing_result ?a_run_drop ?l_run_drop ?c_run_drop ?k_run_drop ?a_run_put ?l_run_put ?c_run_put ?k_run_put ?a_run_empty ?l_run_empty ?c_run_empty ?k_run_empty ?a_drop ?l_drop ?c_drop ?k_drop ?a_trace ?l_trace ?c_trace ?k_trace ?a_set_slot ?l_set_slot ?c_set_slot ?k_set_slot ?a_empty_slots ?l_empty_slots ?c_empty_slots ?k_empty_slots ?a_law_pen ?l_law_pen ?c_law_pen ?k_law_pen ?a_law_draw ?l_law_draw ?c_law_draw ?k_law_draw ?a_law_shuffled ?l_law_shuffled ?c_law_shuffled ?k_law_shuffled ?a_law_linked ?l_law_linked ?c_law_linked ?k_law_linked ?a_law_base ?l_law_base ?c_law_base ?k_law_base ?a_law_odd ?l_law_odd ?c_law_odd ?k_law_odd ?a_law_missing ?l_law_missing ?c_law_missing ?k_law_missing ?a_law_is_node ?l_law_is_node ?c_law_is_node ?k_law_is_node ?a_law_due ?l_law_due ?c_law_due ?k_law_due ?a_law_due_slot ?l_law_due_slot ?c_law_due_slot ?k_law_due_slot ?a_law_pick ?l_law_pick ?c_law_pick ?k_law_pick ?a_law_one_right ?l_law_one_right ?c_law_one_right ?k_law_one_right ?a_law ?l_law ?c_law ?k_law ?z_len ?z_LookupError ?z_abs ?z_int ?z_bool ?z_list ?z_tuple ?z_min ?z_max ?z_sum ?z_any ?z_all ?z_repr ?z_sorted ?z_isinstance ?z_range ?z_enumerate ?c_HeapError ?c_MissingError ?c_NoNode ?c_NoPosition ?c_NoReference ?c_NoSlot ?c_NotFreed ?c_UndoError ?xi_NoNode ?xo_NoNode ?xd_NoNode ?xs_NoNode ?xe_NoNode ?xt_NoNode ?xk_NoNode ?xn_NoNode ?xg_NoNode ?xG_NoNode ?xf_NoNode ?xc_NoNode ?xh_NoNode ?xT_NoNode ?xm_NoNode ?a_iNoNode ?t_iNoNode ?l_iNoNode ?c_iNoNode ?k_iNoNode ?q1NN ?q2NN ?q3NN ?q4NN ?q5NN ?q6NN ?xi_NoReference ?xo_NoReference ?xd_NoReference ?xs_NoReference ?xe_NoReference ?xt_NoReference ?xk_NoReference ?xn_NoReference ?xg_NoReference ?xG_NoReference ?xf_NoReference ?xc_NoReference ?xh_NoReference ?xT_NoReference ?xm_NoReference ?a_iNoReference ?t_iNoReference ?l_iNoReference ?c_iNoReference ?k_iNoReference ?q1NR ?q2NR ?q3NR ?q4NR ?q5NR ?q6NR ?xi_NoSlot ?xo_NoSlot ?xd_NoSlot ?xs_NoSlot ?xe_NoSlot ?xt_NoSlot ?xk_NoSlot ?xn_NoSlot ?xg_NoSlot ?xG_NoSlot ?xf_NoSlot ?xc_NoSlot ?xh_NoSlot ?xT_NoSlot ?xm_NoSlot ?a_iNoSlot ?t_iNoSlot ?l_iNoSlot ?c_iNoSlot ?k_iNoSlot ?q1NS ?q2NS ?q3NS ?q4NS ?q5NS ?q6NS ?eR1 ?hTb1 ?nTb1 ?cdR1 ?eR2 ?hTb2 ?nTb2 ?cdR2 ?nPP
    (case aC => k_is)
    (case pg => k_is)
    (case hd => k_is)
    (case po => k_is)
    (case sa => k_is)
    (case mk => k_is)
    (case kc => k_is)
    (case n_slots => k_is)
    (case n_outside => k_is)
    (case n_references => k_is)
    (case n_limit => k_is)
    (case n_emptied => k_is)
    (case n_shelf => k_is)
    (case n_events => k_is)
    (case a_slot_uses => k_is)
    (case l_slot_uses => k_is)
    (case c_slot_uses => k_is)
    (case k_slot_uses => k_is)
    (case a_counts => k_is)
    (case l_counts => k_is)
    (case c_counts => k_is)
    (case k_counts => k_is)
    (case a_is_integer => k_is)
    (case l_is_integer => k_is)
    (case c_is_integer => k_is)
    (case k_is_integer => k_is)
    (case a_is_between => k_is)
    (case l_is_between => k_is)
    (case c_is_between => k_is)
    (case k_is_between => k_is)
    (case a_is_live => k_is)
    (case l_is_live => k_is)
    (case c_is_live => k_is)
    (case k_is_live => k_is)
    (case a_need_live => k_is)
    (case l_need_live => k_is)
    (case c_need_live => k_is)
    (case k_need_live => k_is)
    (case a_need_reference => k_is)
    (case l_need_reference => k_is)
    (case c_need_reference => k_is)
    (case k_need_reference => k_is)
    (case a_Releasing_destroy => k_is)
    (case i_Releasing_destroy => k_is)
    (case l_Releasing_destroy => k_is)
    (case c_Releasing_destroy => k_is)
    (case k_Releasing_destroy => k_is)
    (case a_Releasing_release => k_is)
    (case i_Releasing_release => k_is)
    (case l_Releasing_release => k_is)
    (case c_Releasing_release => k_is)
    (case k_Releasing_release => k_is)
    (case a_Releasing_release_all => k_is)
    (case i_Releasing_release_all => k_is)
    (case l_Releasing_release_all => k_is)
    (case c_Releasing_release_all => k_is)
    (case k_Releasing_release_all => k_is)
    (case a_Releasing_drop => k_is)
    (case i_Releasing_drop => k_is)
    (case l_Releasing_drop => k_is)
    (case c_Releasing_drop => k_is)
    (case k_Releasing_drop => k_is)
    (case a_Releasing_init => k_is)
    (case i_Releasing_init => k_is)
    (case l_Releasing_init => k_is)
    (case c_Releasing_init => k_is)
    (case k_Releasing_init => k_is)
    (case a_Releasing_put => k_is)
    (case i_Releasing_put => k_is)
    (case l_Releasing_put => k_is)
    (case c_Releasing_put => k_is)
    (case k_Releasing_put => k_is)
    (case a_Releasing_empty => k_is)
    (case i_Releasing_empty => k_is)
    (case l_Releasing_empty => k_is)
    (case c_Releasing_empty => k_is)
    (case k_Releasing_empty => k_is)
    (case a_Releasing_result => k_is)
    (case i_Releasing_result => k_is)
    (case l_Releasing_result => k_is)
    (case c_Releasing_result => k_is)
    (case k_Releasing_result => k_is)
    (case a_run_drop => k_is)
    (case l_run_drop => k_is)
    (case c_run_drop => k_is)
    (case k_run_drop => k_is)
    (case a_run_put => k_is)
    (case l_run_put => k_is)
    (case c_run_put => k_is)
    (case k_run_put => k_is)
    (case a_run_empty => k_is)
    (case l_run_empty => k_is)
    (case c_run_empty => k_is)
    (case k_run_empty => k_is)
    (case a_drop => k_is)
    (case l_drop => k_is)
    (case c_drop => k_is)
    (case k_drop => k_is)
    (case a_trace => k_is)
    (case l_trace => k_is)
    (case c_trace => k_is)
    (case k_trace => k_is)
    (case a_set_slot => k_is)
    (case l_set_slot => k_is)
    (case c_set_slot => k_is)
    (case k_set_slot => k_is)
    (case a_empty_slots => k_is)
    (case l_empty_slots => k_is)
    (case c_empty_slots => k_is)
    (case k_empty_slots => k_is)
    (case a_law_pen => k_is)
    (case l_law_pen => k_is)
    (case c_law_pen => k_is)
    (case k_law_pen => k_is)
    (case a_law_draw => k_is)
    (case l_law_draw => k_is)
    (case c_law_draw => k_is)
    (case k_law_draw => k_is)
    (case a_law_shuffled => k_is)
    (case l_law_shuffled => k_is)
    (case c_law_shuffled => k_is)
    (case k_law_shuffled => k_is)
    (case a_law_linked => k_is)
    (case l_law_linked => k_is)
    (case c_law_linked => k_is)
    (case k_law_linked => k_is)
    (case a_law_base => k_is)
    (case l_law_base => k_is)
    (case c_law_base => k_is)
    (case k_law_base => k_is)
    (case a_law_odd => k_is)
    (case l_law_odd => k_is)
    (case c_law_odd => k_is)
    (case k_law_odd => k_is)
    (case a_law_missing => k_is)
    (case l_law_missing => k_is)
    (case c_law_missing => k_is)
    (case k_law_missing => k_is)
    (case a_law_is_node => k_is)
    (case l_law_is_node => k_is)
    (case c_law_is_node => k_is)
    (case k_law_is_node => k_is)
    (case a_law_due => k_is)
    (case l_law_due => k_is)
    (case c_law_due => k_is)
    (case k_law_due => k_is)
    (case a_law_due_slot => k_is)
    (case l_law_due_slot => k_is)
    (case c_law_due_slot => k_is)
    (case k_law_due_slot => k_is)
    (case a_law_pick => k_is)
    (case l_law_pick => k_is)
    (case c_law_pick => k_is)
    (case k_law_pick => k_is)
    (case a_law_one_right => k_is)
    (case l_law_one_right => k_is)
    (case c_law_one_right => k_is)
    (case k_law_one_right => k_is)
    (case a_law => k_is)
    (case l_law => k_is)
    (case c_law => k_is)
    (case k_law => k_is)
    (case z_len => k_is)
    (case z_LookupError => k_is)
    (case z_abs => k_is)
    (case z_int => k_is)
    (case z_bool => k_is)
    (case z_list => k_is)
    (case z_tuple => k_is)
    (case z_min => k_is)
    (case z_max => k_is)
    (case z_sum => k_is)
    (case z_any => k_is)
    (case z_all => k_is)
    (case z_repr => k_is)
    (case z_sorted => k_is)
    (case z_isinstance => k_is)
    (case z_range => k_is)
    (case z_enumerate => k_is)
    (case c_HeapError => k_is)
    (case c_MissingError => k_is)
    (case c_NoNode => k_is)
    (case c_NoPosition => k_is)
    (case c_NoReference => k_is)
    (case c_NoSlot => k_is)
    (case c_NotFreed => k_is)
    (case c_UndoError => k_is)
    (case xi_NoNode => rfl)
    (case xo_NoNode => rfl)
    (case xd_NoNode => k_is)
    (case xs_NoNode => k_is)
    (case xe_NoNode => k_is)
    (case xt_NoNode => k_is)
    (case xk_NoNode => k_is)
    (case xn_NoNode => k_is)
    (case xg_NoNode => k_is)
    (case xG_NoNode => k_is)
    (case xf_NoNode => k_is)
    (case xc_NoNode => k_is)
    (case xh_NoNode => k_is)
    (case xT_NoNode => k_is)
    (case xm_NoNode => k_is)
    (case a_iNoNode => k_is)
    (case t_iNoNode => k_is)
    (case l_iNoNode => k_is)
    (case c_iNoNode => k_is)
    (case k_iNoNode => k_is)
    (case q1NN => rfl)
    (case q2NN => rfl)
    (case q3NN => rfl)
    (case q4NN => rfl)
    (case q5NN => rfl)
    (case q6NN => rfl)
    (case xi_NoReference => rfl)
    (case xo_NoReference => rfl)
    (case xd_NoReference => k_is)
    (case xs_NoReference => k_is)
    (case xe_NoReference => k_is)
    (case xt_NoReference => k_is)
    (case xk_NoReference => k_is)
    (case xn_NoReference => k_is)
    (case xg_NoReference => k_is)
    (case xG_NoReference => k_is)
    (case xf_NoReference => k_is)
    (case xc_NoReference => k_is)
    (case xh_NoReference => k_is)
    (case xT_NoReference => k_is)
    (case xm_NoReference => k_is)
    (case a_iNoReference => k_is)
    (case t_iNoReference => k_is)
    (case l_iNoReference => k_is)
    (case c_iNoReference => k_is)
    (case k_iNoReference => k_is)
    (case q1NR => rfl)
    (case q2NR => rfl)
    (case q3NR => rfl)
    (case q4NR => rfl)
    (case q5NR => rfl)
    (case q6NR => rfl)
    (case xi_NoSlot => rfl)
    (case xo_NoSlot => rfl)
    (case xd_NoSlot => k_is)
    (case xs_NoSlot => k_is)
    (case xe_NoSlot => k_is)
    (case xt_NoSlot => k_is)
    (case xk_NoSlot => k_is)
    (case xn_NoSlot => k_is)
    (case xg_NoSlot => k_is)
    (case xG_NoSlot => k_is)
    (case xf_NoSlot => k_is)
    (case xc_NoSlot => k_is)
    (case xh_NoSlot => k_is)
    (case xT_NoSlot => k_is)
    (case xm_NoSlot => k_is)
    (case a_iNoSlot => k_is)
    (case t_iNoSlot => k_is)
    (case l_iNoSlot => k_is)
    (case c_iNoSlot => k_is)
    (case k_iNoSlot => k_is)
    (case q1NS => rfl)
    (case q2NS => rfl)
    (case q3NS => rfl)
    (case q4NS => rfl)
    (case q5NS => rfl)
    (case q6NS => rfl)
    (case eR1 => rfl)
    (case hTb1 => exact PySem.W.km_tabs_of Y _ List.mem_cons_self)
    (case nTb1 => rfl)
    (case cdR1 => rfl)
    (case eR2 => rfl)
    (case hTb2 => exact PySem.W.km_tabs_of Y _ (List.mem_cons_of_mem _ List.mem_cons_self))
    (case nTb2 => rfl)
    (case cdR2 => rfl)
    (case nPP => decide)

