import PyProof.Rows.All
import Wide.All
import OpenK.AllK
import Wide.FinOn
import HandS.ForMost
import HandS.Conv
import HandS.More
import HandS.Wide
import HandS.Style
import HandS.Flow
import HandS.EndBits
import HandS.Walk
import HandS.Steps
import KE.GoesEnum
import KE.GoesMore
import PyProof.ReprRoads
import PyProof.ReprLen
import HandS.DictComp
import HandS.SortInts
import HandS.TupAny
import PySem.Challenge.RW_slotfall_k06_reachable_nodes
set_option Elab.async false
set_option linter.all false
set_option maxRecDepth 100000
set_option maxHeartbeats 4000000
set_option autoImplicit false
namespace SF
open PySem PySem.Spec PyProof.Rows L2

/-! ### promises that may lean on an empty list of guards -/
structure FnG (P : Program) (w : World) (K : PySem.W.Frag) (mg : Str → Option Value) (base : Heap) (k : Nat) (f : Addr) (fd : FuncData) (ps : List Str) (sp : Sp) : Prop where
  len : ∀ vs H Q E, sp vs H Q E → vs.length = ps.length
  run : ∀ (A : Around) (outer : List Env) (s : Shared) (H : Hp) (args : Args) (us : List Value) (vs : List V) (Q : VK) (E : XK),
    A.guards = some [] → Room k A → Env0 P w K mg base A outer s H → BindsTo s fd args (ps.zip us) → Vals vs us → sp vs H Q E →
    codeAny (model P w) A (.call (.ref f) args) (CR CX0 outer P w H s Q E) s

section
variable {P : Program} {w : World} {K : PySem.W.Frag} {mg : Str → Option Value} {base : Heap}
theorem FnG.of {k : Nat} {f : Addr} {fd : FuncData} {ps : List Str} {sp : Sp} (F : FnOk P w K mg base CX0 k f fd ps sp) : FnG P w K mg base k f fd ps sp :=
  ⟨F.len, fun A o s H a us vs Q E _ hr => F.run A o s H a us vs Q E hr⟩
theorem fnG_of {k : Nat} {f : Addr} {name qual : Str} {params : Arguments} {body : List Stmt} {scope : Scope} {kV doc pm cdv ct oc : Value} {an od : Option Addr}
    {osl : Array (Option Value)} {N ps : List Str} {sp : Sp}
    (lk : K.lookup f = some ⟨oc, od, .func (PySem.W.fnOf name qual params body scope .none kV doc pm an cdv ct), osl⟩)
    (hcd : PySem.W.codeIn K cdv qual = true) (S : FnScope N ps scope)
    (len : ∀ vs H Q E, sp vs H Q E → vs.length = ps.length)
    (hbody : ∀ (A : Around) (outer : List Env) (s : Shared) (H : Hp) (vs : List V) (Q : VK) (E : XK),
      (A.deeper (envOfC qual scope s.heap.objs.size f cdv)).guards = some [] →
      Room k (A.deeper (envOfC qual scope s.heap.objs.size f cdv)) → sp vs H Q E →
      ∃ t, PSs (cxOf CX0 P w K mg base N qual scope f cdv A outer s H E) body t ∧ t { nx := fun _ H' => Q .non H', rt := Q } (start N vs) H) :
    FnG P w K mg base (k + 1) f (PySem.W.fnOf name qual params body scope .none kV doc pm an cdv ct) ps sp := by
  constructor
  · exact len
  intro A outer s H args us vs Q E hgd hr e0 hb r hsp
  have hl := len _ _ _ _ hsp
  have inK : K.In s.heap := e0.mod.kin.keeps fun b o e => (e0.bs b o e).1
  have lim : s.heap.NoLimit := e0.mod.nolimit.keeps fun b o e => (e0.bs b o e).1
  have kinds : ∀ y ∈ ps.zip us, scope.names.lookup y.1 = some .local ∨
      (scope.names.lookup y.1 = some .cell ∧ ((cellsFrom (s.heap.objs.size + 1) scope.names []).lookup y.1).isSome = true) := by
    rintro ⟨n, v⟩ hy
    rcases S.par n (List.of_mem_zip hy).1 with q | q
    · exact Or.inl q
    · exact Or.inr ⟨q, PySem.W.cellsFrom_some _ _ _ (.inl q)⟩
  have code := PySem.W.codeRec_of inK hcd
  refine codeAny_call_function hr.depth (inK _ _ lk) rfl S.co S.gen rfl code (hb _ _ _ _ ?_)
  refine wpAny_newFunctionEnv_cells S.kind kinds fun env he s1 x => ?_
  subst he
  refine ⟨lim.keeps x.toInCall.keep, codeAny_func ?_⟩
  obtain ⟨t, ht, hq⟩ := hbody A outer s H vs Q E hgd (hr.deeper _) hsp
  have I := inv_start (CX := CX0) (E := E) (N := N) S hr.hd e0 hl r x
  refine wpAny_mono (ht.run [] s1 (start N vs) H _ I hq) (fun fl s' hs => ?_) fun e s' hs => hs
  cases fl with
  | ret u =>
    obtain ⟨v, σ', H', J, rv, q⟩ := hs
    exact ⟨v, H', J.os, J.bare, J.base, J.hok, rv, q⟩
  | next =>
    obtain ⟨σ', H', J, q⟩ := hs
    exact ⟨V.non, H', J.os, J.bare, J.base, J.hok, rfl, q⟩
  | brk =>
    obtain ⟨_, _, _, q⟩ := hs
    exact q.elim
  | cont =>
    obtain ⟨_, _, _, q⟩ := hs
    exact q.elim
theorem FnG.body {x qual : Str} {st : Stmt} {f : Addr} {fd : FuncData} {N ps : List Str} {k : Nat} {sp : Sp} (F : Fun K x qual st f fd) (S : FnScope N ps (defScope st))
    (len : ∀ vs H Q E, sp vs H Q E → vs.length = ps.length)
    (hbody : ∀ (cdv : Value) (A : Around) (outer : List Env) (s : Shared) (H : Hp) (vs : List V) (Q : VK) (E : XK),
      (A.deeper (envOfC qual (defScope st) s.heap.objs.size f cdv)).guards = some [] → Room k (A.deeper (envOfC qual (defScope st) s.heap.objs.size f cdv)) → sp vs H Q E →
      ∃ t, PSs (cxOf CX0 P w K mg base N qual (defScope st) f cdv A outer s H E).nox (defBody st) t ∧ t { nx := fun _ H' => Q .non H', rt := Q } (start N vs) H) :
    FnG P w K mg base (k + 1) f fd ps sp := by
  obtain ⟨oc, od, kV, doc, pm, an, cdv, ct, osl, rfl, lk, hcd⟩ := F.ex
  refine fnG_of lk hcd S len fun A outer s H vs Q E hgd hr hsp => ?_
  obtain ⟨t, h, q⟩ := hbody cdv A outer s H vs Q E hgd hr hsp
  exact ⟨t, h.nox, q⟩
end

/-! ### links to a callee: its promise, its place, its binding -/
structure Lk (P : Program) (w : World) (K : PySem.W.Frag) (mg : Str → Option Value) (base : Heap) (x : Str) (k : Nat) (ps : List Str) (sp : Sp) : Prop where
  ex : ∃ (f : Addr) (fd : FuncData), FnG P w K mg base k f fd ps sp ∧ mg x = some (.ref f) ∧ PySem.W.keepIn K (.ref f) = true ∧ Binds K fd ps []
/-- a callee that asks nothing of the guards -/
structure Lo (P : Program) (w : World) (K : PySem.W.Frag) (mg : Str → Option Value) (base : Heap) (x : Str) (k : Nat) (ps : List Str) (sp : Sp) : Prop where
  ex : ∃ (f : Addr) (fd : FuncData), FnOk P w K mg base CX0 k f fd ps sp ∧ mg x = some (.ref f) ∧ PySem.W.keepIn K (.ref f) = true ∧ Binds K fd ps []
theorem Lo.lk {P : Program} {w : World} {K : PySem.W.Frag} {mg : Str → Option Value} {base : Heap} {x : Str} {k : Nat} {ps : List Str} {sp : Sp} (L : Lo P w K mg base x k ps sp) : Lk P w K mg base x k ps sp := by
  obtain ⟨f, fd, a, b, c, d⟩ := L.ex
  exact ⟨f, fd, .of a, b, c, d⟩
section
variable {X : Cx} {k : Nat} {ps : List Str} {sp : Sp} {x : Str} {p pos : Pos} {e : Expr} {es : List Expr} {t tk : TA} {kws : List Keyword}
/-- what the callee's run is -/
theorem runG {pins : List (Addr × Obj)} {σ : L2.St} {H : Hp} {s : Shared} {Q : VK} {f : Addr} {fd : FuncData} {us : List Value} {kw : List (Str × Value)} {vs : List V} {ws : List Value}
    (F : FnG X.prog X.w X.K X.mg X.base k f fd ps sp) (hgd : X.A.guards = some []) (hr : Room k X.A) (hb : BindsTo s fd ⟨us, kw⟩ (ps.zip ws)) (I : Inv X pins σ H s) (r : Vals vs ws) (h : sp vs H Q E0) :
    wpAny (model X.prog X.w) X.A (call (.ref f) us kw) (EP X pins σ Q) X.xe s := by
  refine wpAny_call (codeAny_mono (F.run X.A X.stack s H ⟨us, kw⟩ ws vs Q E0 hgd hr I.env0 hb r h) fun r s' hq => ?_)
  match r, hq with
  | .ok (.ret u), hq => exact I.after hq
  | .ok .next, hq => exact hq.elim
  | .ok .brk, hq => exact hq.elim
  | .ok .cont, hq => exact hq.elim
  | .error e, hq => exact False.elim hq
theorem run0 {pins : List (Addr × Obj)} {σ : L2.St} {H : Hp} {s : Shared} {Q : VK} {f : Addr} {fd : FuncData} {us : List Value} {kw : List (Str × Value)} {vs : List V} {ws : List Value}
    (F : FnOk X.prog X.w X.K X.mg X.base CX0 k f fd ps sp) (hr : Room k X.A) (hb : BindsTo s fd ⟨us, kw⟩ (ps.zip ws)) (I : Inv X pins σ H s) (r : Vals vs ws) (h : sp vs H Q E0) :
    wpAny (model X.prog X.w) X.A (call (.ref f) us kw) (EP X pins σ Q) X.xe s := by
  refine wpAny_call (codeAny_mono (F.run X.A X.stack s H ⟨us, kw⟩ ws vs Q E0 hr I.env0 hb r h) fun r s' hq => ?_)
  match r, hq with
  | .ok (.ret u), hq => exact I.after hq
  | .ok .next, hq => exact hq.elim
  | .ok .brk, hq => exact hq.elim
  | .ok .cont, hq => exact hq.elim
  | .error e, hq => exact False.elim hq
/-- x(e, ..) -/
theorem pe_lo (L : Lo X.prog X.w X.K X.mg X.base x k ps sp) (hr : Room k X.A) (hg : Gl X x) (ha : PA X (e :: es) t)
    (hdb : (x == ("__debug__" : Str)) = false := by decide) (he : starEach (e :: es) X.env = (false, eval e X.env) :: starEach es X.env := by rfl) (hpl : (backTo pos (starEach es X.env)).any (·.1) = false := by rfl) :
    PE X (.Call (.Name x p) (e :: es) [] pos) (tCall sp [] E0 t) := by
  obtain ⟨f, fd, F, hm, hk, hb⟩ := L.ex
  exact pe_call F hr hg hm hk hb .nil pass0 ha hdb he hpl
theorem pe_lk (L : Lk X.prog X.w X.K X.mg X.base x k ps sp) (hgd : X.A.guards = some []) (hr : Room k X.A) (hg : Gl X x) (ha : PA X (e :: es) t)
    (hdb : (x == ("__debug__" : Str)) = false := by decide) (he : starEach (e :: es) X.env = (false, eval e X.env) :: starEach es X.env := by rfl) (hpl : (backTo pos (starEach es X.env)).any (·.1) = false := by rfl) :
    PE X (.Call (.Name x p) (e :: es) [] pos) (tCall sp [] E0 t) := by
  obtain ⟨f, fd, F, hm, hk, hb⟩ := L.ex
  constructor
  intro pins s σ H Q I h
  refine wpAny_Call_Name_kw (ld_glob I hg hm ?_ hdb)
  refine PySem.W.callWith_K (h₀ := X.base) I.ok.mod.kin hk (thn (ha.run pos pins s σ H _ I h) ?_) he hpl
  rintro us s1 ⟨vs, H1, I1, r, q⟩
  have q' : sp vs H1 Q E0 := by simpa using q
  have hl : us.length = ps.length := r.length ▸ F.len _ _ _ _ q'
  have hb1 := hb s1 us I1.kIn (by simpa using hl)
  simp only [List.append_nil] at hb1
  exact ⟨I1.kIn, runG F hgd hr hb1 I1 r q'⟩
/-- the promise at the keywords' values in the parameters' order: gV -/
def tCallKw (sp : Sp) (gV : List V → List V) (tk : TA) : TE := fun σ H Q => tk σ H fun zs H1 => sp (gV zs) H1 Q E0
structure KB (K : PySem.W.Frag) (fd : FuncData) (ps ks : List Str) (g : List Value → List Value) (gV : List V → List V) : Prop where
  to : ∀ (s : Shared) (ws : List Value), K.In s.heap → (g ws).length = ps.length → BindsTo s fd ⟨[], ks.zip ws⟩ (ps.zip (g ws))
  rel : ∀ {zs : List V} {ws : List Value}, Vals zs ws → Vals (gV zs) (g ws)
/-- x(k = v, ..) -/
theorem pe_kw0 {f : Addr} {fd : FuncData} {ks : List Str} {g : List Value → List Value} {gV : List V → List V} (F : FnOk X.prog X.w X.K X.mg X.base CX0 k f fd ps sp) (hr : Room k X.A) (hg : Gl X x) (hm : X.mg x = some (.ref f)) (hk : PySem.W.keepIn X.K (.ref f) = true)
    (hb : KB X.K fd ps ks g gV) (hkw : PK X kws tk)
    (hall : (backToKw pos (keywordEach kws X.env)).all (·.1.isSome) = true := by rfl) (hks : (backToKw pos (keywordEach kws X.env)).filterMap (·.1) = ks := by rfl)
    (hdb : (x == ("__debug__" : Str)) = false := by decide)
    (hpl : ((backTo pos (starEach [] X.env)).any (·.1) || (backToKw pos (keywordEach kws X.env)).any (·.1.isNone)) = false := by rfl) :
    PE X (.Call (.Name x p) [] kws pos) (tCallKw sp gV tk) := by
  constructor
  intro pins s σ H Q I h
  refine wpAny_Call_Name_kw (ld_glob I hg hm ?_ hdb)
  refine PySem.W.callWith_KW0 (h₀ := X.base) I.ok.mod.kin hk hall ?_ hpl
  refine thn (hkw.run pos pins s σ H _ I h) ?_
  rintro ws s2 ⟨zs, H2, I2, rz, q2⟩
  refine ⟨I2.kIn, ?_⟩
  rw [hks]
  have r2 := hb.rel rz
  have hl : (g ws).length = ps.length := r2.length ▸ F.len _ _ _ _ q2
  exact run0 F hr (hb.to s2 ws I2.kIn hl) I2 r2 q2
end

/-! ### repr of data -/
section
variable {X : Cx}
def rRepr (K : PySem.W.Frag) : List V → Hp → VK → Prop := fun xs H Q => ∃ a d, xs = [.ref a] ∧ Dp K H (.ref a) d ∧ d.showable = true ∧ d.hasDict = false ∧ d.depth ≤ 60 ∧ d.shown.length ≤ sizeLine ∧ Q (.str d.shown) H
theorem call_repr (hgd : X.A.guards = some []) (hu : X.A.units + 64 < cLine) : CallR X (.builtin "repr") (rRepr X.K) := by
  intro pins s σ H xs us Q I r h
  obtain ⟨a, d, rfl, hd, h1, h2, h3, h4, q⟩ := h
  rw [Vals.ref1 r]
  obtain ⟨as, hr⟩ := Dp.reads I d _ (.ref a) hd rfl
  refine repr_of_reads' hr h1 (PyData.noDict_hsm h2) hgd (by omega) (fun _ _ e => e) (fun h' u tk hk => ?_) h4
  exact ⟨.str d.shown, H, I.kept hk, ⟨u, rfl⟩, q⟩
end


/-! ### enumerate(tuple) -/
theorem meets_enum_newT (l : Addr) (items : Array Value) :
    Meets (Builtin.«enumerate.__new__» ⟨[.type "enumerate", .ref l], []⟩) (fun _ R s => s.heap.IsTuple l items ∧
      R (.ok (.ret (.ref (s.heap.push { cls := .type "tuple_iterator", data := .fields #[.ref l, .int 0 0] }).objs.size)))
        { s with heap := (s.heap.push { cls := .type "tuple_iterator", data := .fields #[.ref l, .int 0 0] }).push { cls := .type "enumerate", data := .fields #[.none, .bool false, .ref s.heap.objs.size, rawInt 0, .none, .none] } }) :=
  .of_wp fun prog w A R s h => by
    obtain ⟨hp, g, d, tk, os⟩ := s
    obtain ⟨hl, h⟩ := h
    have hsub := sub_enumerate
    have hT : Heap.IsTuple (Shared.heap ⟨hp, g, d, tk, os⟩) l items := hl
    obtain ⟨⟨c, dct, dt, sl⟩, ho, hc, n, hd⟩ := id hl
    replace hc : c = .type "tuple" := hc
    replace hd : dt = .seq items n := hd
    subst hc hd
    wp_walk using AutoSeq1.wpAny_loadPart' ho
    refine wpAny_stack_any fun st => wpAny_pure ?_
    split
    · rename_i c _ _ _ _ _
      cases (c == Value.type "enumerate")
      · wp_walk using AutoSeq1.wpAny_loadPart' ho, wpAny_pyIter_tuple hT
        exact ⟨_, rfl, h⟩
      · wp_walk using AutoSeq1.wpAny_loadPart' ho, wpAny_pyIter_tuple hT
        exact ⟨_, rfl, h⟩
    · wp_walk using AutoSeq1.wpAny_loadPart' ho, wpAny_pyIter_tuple hT
      exact ⟨_, rfl, h⟩
theorem call_enum_tup {prog : Program} {w : World} {A : Around} {E : Value → Shared → Prop} {s : Shared} {l : Addr} {items : Array Value} {Q : Value → Shared → Prop} (hL : s.heap.IsTuple l items)
    (h : ∀ h', IsEnum h' (s.heap.objs.size + 1) s.heap.objs.size 0 .none → h'.IsTupleIter s.heap.objs.size l 0 → h'.objs.size = s.heap.objs.size + 2 →
      (∀ b o, s.heap.get? b = some o → h'.get? b = some o) → Q (.ref (s.heap.objs.size + 1)) { s with heap := h' }) :
    wpAny (model prog w) A (call (.type "enumerate") [.ref l]) Q E s := by
  refine callType_new F.called_enumerate (by decide) (F.typeCall_enumerate_1 _) (F.newCall_enumerate_1 _) (fun obj => F.args_object_init_2 obj _) F.entry_enumerate_new (meets_enum_newT l items) ⟨hL, ?_⟩
  have hz : (s.heap.push { cls := .type "tuple_iterator", data := .fields #[.ref l, .int 0 0] }).objs.size = s.heap.objs.size + 1 := Heap.size_push ..
  show _ ∧ _
  rw [hz]
  have he := Heap.get?_push_size (s.heap.push { cls := .type "tuple_iterator", data := .fields #[.ref l, .int 0 0] })
      (o := { cls := .type "enumerate", data := .fields #[.none, .bool false, .ref s.heap.objs.size, rawInt 0, .none, .none] }) rfl
  rw [hz] at he
  refine ⟨⟨_, he, rfl⟩, h _ he ⟨_, Heap.get?_push_of_some _ (Heap.get?_push_size _ rfl), rfl, rfl⟩ (by rw [Heap.size_push, hz]) ?_⟩
  exact fun b o x => Heap.get?_push_of_some _ (Heap.get?_push_of_some _ x)
def IteT (K : PySem.W.Frag) (a : Addr) : It where
  go := fun i H => ∃ (xs : List V) (x : V), SqT K H a xs ∧ xs[i]? = some x
  yld := fun i H v H' => ∃ T x, v = .ref T ∧ H T = none ∧ H' = upd H T (.tup [.int (i : Nat), x]) ∧ ∀ xs, SqT K H a xs → xs[i]? = some x
  stop := fun i H => ∃ xs : List V, SqT K H a xs ∧ xs.length ≤ i
theorem turn_enumT {P : Program} {w : World} {K : PySem.W.Frag} {elts : List Expr} {kk : Nat} {tpos : Pos} (a e it : Addr) :
    Turn P w K (.Tuple elts kk tpos) (IteT K a) [e, it] e (fun i h => (∃ old, IsEnum h e it ((i : Nat) : Int) old) ∧ h.IsTupleIter it a i ∧ e ≠ it) where
  mem := List.mem_cons_self
  obj := by
    rintro i h ⟨⟨old, he⟩, ⟨o, ho, hc, hd⟩, _⟩ b hb
    have cs : b = e ∨ b = it := by simpa using hb
    rcases cs with rfl | rfl
    · exact ⟨_, he, fun v q => nomatch q⟩
    · exact ⟨o, ho, fun v q => by rw [hd] at q; cases q⟩
  keep := by
    rintro i h h' ⟨⟨old, he⟩, hi, hne⟩ k
    exact ⟨⟨old, k e (by simp) _ he⟩, hi.at fun o q => k it (by simp) o q, hne⟩
  item := by
    intro X hP hw hK hc i pins s σ H E I hf st hg
    subst hP hw hK
    obtain ⟨⟨old, he⟩, hit, hne⟩ := st
    obtain ⟨xs, x, hq, hx⟩ := hg
    obtain ⟨its, rv, p, hz⟩ := I.tuple hq
    obtain ⟨u, hu, ru⟩ := rv.get hx
    have hel : e < s.heap.objs.size := Heap.lt_size he
    have hil : it < s.heap.objs.size := by
      obtain ⟨_, q, _⟩ := hit
      exact Heap.lt_size q
    have hha : X.A.in1.handled = none := I.ok.hd hc
    have pa : s.heap.IsTuple a its.toArray := p
    have nai : a ≠ it := by
      rintro rfl
      obtain ⟨o, q1, q2, q3⟩ := hit
      obtain ⟨o', q1', q2', n', q3'⟩ := pa
      rw [q1] at q1'
      cases q1'
      rw [q3] at q3'
      cases q3'
    have nae : a ≠ e := by
      rintro rfl
      obtain ⟨o', q1', q2', n', q3'⟩ := pa
      rw [show s.heap.get? a = _ from he] at q1'
      cases q1'
      cases q3'
    refine wpAny_pyNext_enum_itemD (n := its.toArray.size) (Draws.tuple hha it a nai its.toArray) he ⟨hit, pa⟩ (by have := List.getElem?_eq_some_iff.mp hu; obtain ⟨q, _⟩ := this; simpa using q) hne (by simp [hne, Ne.symm nae]) fun y h' tk hy ho hst hT hsz hk => ?_
    have ey : y = u := by
      have hy' : its.toArray[i]? = some y := hy
      have : its[i]? = some y := by simpa using hy'
      rw [hu] at this
      exact (Option.some.inj this).symm
    subst ey
    refine ⟨_, rfl, wpAny_letOwnedTupleGo_enum (s := { s with heap := h', toks := tk + 1 }) ho fun h'' he' sb => ?_⟩
    have hT2 : h''.get? s.heap.objs.size = some { cls := .type "tuple", data := .seq #[.int i tk, y] } := (sb.2 _ (Nat.ne_of_gt hel)).trans hT
    have new : ObjOk X.prog X.w (upd H s.heap.objs.size (.tup [.int (i : Nat), x])) h'' s.heap.objs.size (.tup [.int (i : Nat), x]) :=
      ⟨by show 2 ≤ sizeLine; decide, [.int i tk, y], .cons ⟨_, rfl⟩ (.cons ru .nil), ⟨_, hT2, rfl, _, rfl⟩⟩
    have I1 : Inv X pins σ (upd H s.heap.objs.size (.tup [.int (i : Nat), x])) { s with heap := h'', toks := tk + 1 } :=
      I.turnedNew (ch := [e, it]) (fun b ob hb q => (sb.2 b (fun z => hb (by simp [z]))).trans (hk b ob (fun z => hb (by simp [z])) (fun z => hb (by simp [z])) q)) hf (Nat.le_refl _) new
    refine ⟨.ref s.heap.objs.size, _, I1, rfl, ⟨_, x, rfl, I.hok.fresh (Nat.le_refl _), rfl, fun ys hy => by rw [I.tuple_inj hy hq]; exact hx⟩, ⟨⟨y, ?_⟩, hst.1.at fun o q => (sb.2 it (Ne.symm hne)).trans q, hne⟩, fun b hb => ?_⟩
    · have e1 : ((i + 1 : Nat) : Int) = (i : Int) + 1 := by omega
      rw [e1]
      exact he'
    · have cs : b = e ∨ b = it := by simpa using hb
      have hb' : b < s.heap.objs.size := by
        rcases cs with rfl | rfl
        · exact hel
        · exact hil
      rw [upd_ne (Nat.ne_of_lt hb')]
      exact (hf b hb).1
  done := by
    intro X hP hw hK hc i pins s σ H E I hf st hg
    subst hP hw hK
    obtain ⟨⟨old, he⟩, hit, hne⟩ := st
    obtain ⟨xs, hq, hx⟩ := hg
    obtain ⟨its, rv, p, hz⟩ := I.tuple hq
    obtain ⟨f0, f1, f2, f3, f4, f5⟩ := hf it (by simp)
    have pa : s.heap.IsTuple a its.toArray := p
    have hha : X.A.in1.handled = none := I.ok.hd hc
    have nai : a ≠ it := by
      rintro rfl
      obtain ⟨o, q1, q2, q3⟩ := hit
      obtain ⟨o', q1', q2', n', q3'⟩ := pa
      rw [q1] at q1'
      cases q1'
      rw [q3] at q3'
      cases q3'
    -- an iterator behind the end stands like one at the end: the next of it is told apart
    unfold pyNext
    have hT : s.TypeIs (.ref e) "enumerate" := ⟨_, he, rfl⟩
    refine wpAny_bind (wpAny_attempt (wpAny_callSpecial?_slot (name := Str.ofString "__next__") hT F.slot_enumerate_next
      (wpAny_call_entry F.slot_enumerate_next hT F.entry_enumerate_next ?_ (F.args_enumerate_next_1 _))))
    show wpAny _ _ (field (.ref e) 2 >>= _) _ _ _
    refine wpAny_bind (wpAny_field he rfl (x := .ref it) rfl ?_)
    refine wpAny_bind (wpAny_nextOf_tuple_end hha hit pa (by simp; have := rv.length; omega) fun h' x he' hx' => ?_)
    obtain ⟨o, ho, hc⟩ := hx'
    refine wpAny_bind (wpAny_isInstance (T := "StopIteration") (b := true) ⟨o, ho, hc⟩ isSubtype_stop ?_)
    exact wpAny_pure ⟨rfl, I.turned (t' := s.toks) (fun b o hb q => he' b o hb q) f0 f1 f3 f4 f5⟩
  self := fun A i s Q E st h => let ⟨⟨_, he⟩, _⟩ := st; wpAny_pyIter_enum he h
def iEnumT (K : PySem.W.Frag) (ta : TA) : TI := fun σ H R => ta σ H fun vs H1 => ∃ a xs, vs = [.ref a] ∧ SqT K H1 a xs ∧ R (IteT K a) H1
theorem pi_enumT {X : Cx} {e : Expr} {ta : TA} {p pos tpos : Pos} {elts : List Expr} {kk : Nat} (hg : Gl X "enumerate") (hm : X.mg "enumerate" = none) (ha : PA X [e] ta)
    (hs : starEach [e] X.env = [(false, eval e X.env)] := by rfl) : PI X (.Tuple elts kk tpos) (.Call (.Name "enumerate" p) [e] [] pos) (iEnumT X.K ta) := by
  constructor
  intro pins s σ H R I h
  refine Call_ (ld_blt I hg hm boot_enumerate (PyProof.Rows.callWith_type1 (thn (ha.run pos pins s σ H _ I h) ?_) hs rfl))
  rintro us s1 ⟨vs, H1, I1, r1, a, xs, ex, hq, q⟩
  subst ex
  rw [Vals.ref1 r1]
  obtain ⟨its, rv, p', hz⟩ := I1.tuple hq
  refine call_enum_tup p' fun h' he hit hsz hk => wpAny_pyIter_enum he ?_
  have I2 : Inv X pins σ H1 { s1 with heap := h' } := I1.kept (t' := s1.toks) hk
  refine ⟨s1.heap.objs.size + 1, [s1.heap.objs.size + 1, s1.heap.objs.size], _, _, H1, rfl, I2, turn_enumT a (s1.heap.objs.size + 1) s1.heap.objs.size, ⟨⟨.none, he⟩, hit, Nat.succ_ne_self _⟩, fun b hb => ?_, q⟩
  have cs : b = s1.heap.objs.size + 1 ∨ b = s1.heap.objs.size := by simpa using hb
  have hle : s1.heap.objs.size ≤ b := by
    rcases cs with z | z
    · rw [z]
      exact Nat.le_succ _
    · rw [z]
      exact Nat.le_refl _
  exact I1.fpOk hle (I1.hok.fresh hle)
theorem walk_enumT {K : PySem.W.Frag} {a : Addr} {xs : List V} : Walk (IteT K a) xs.length (fun H => SqT K H a xs) (YPair (fun i => some (.int (i : Nat))) (fun i => xs[i]?)) := by
  refine ⟨fun i _ hi q => ⟨xs, xs[i], q, by simp [hi]⟩, fun _ q => ⟨xs, q, Nat.le_refl _⟩, ?_⟩
  rintro i H v H' _ q ⟨T, x, h1, h2, h3, h4⟩
  exact ⟨T, .int (i : Nat), x, h1, h2, h3, rfl, h4 xs q⟩

/-! ### tuple.count of flat items -/
section
variable {X : Cx}
def rCountT (K : PySem.W.Frag) : V → List V → Hp → VK → Prop := fun x vs H Q => ∃ (a : Addr) (ys : List V) (y : V), x = V.ref a ∧ vs = [y] ∧ SqT K H a ys ∧ flatV y = true ∧ ys.all flatV = true ∧ Q (.int ((ys.countP fun z => eqV z y : Nat) : Int)) H
theorem countP_vals {y : V} : ∀ {xs : List V} {us : List Value}, Vals xs us → xs.all flatV = true → us.countP (eqU y) = xs.countP fun z => eqV z y
  | _, _, .nil, _ => rfl
  | x :: xs, u :: us, .cons r t, f => by
    rw [List.all_cons, Bool.and_eq_true] at f
    rw [List.countP_cons, List.countP_cons, countP_vals t f.2, eqU_of r f.1]
theorem mt_countT : MtR X "tuple.count" (rCountT X.K) := by
  intro pins s σ H x xs v us Q I rx rxs h
  obtain ⟨a, ys, y, rfl, rfl, hs, fy, fys, q⟩ := h
  cases rx
  cases rxs with
  | cons ry rt =>
    rename_i uy ut
    cases rt
    obtain ⟨its, rv, ⟨o, ho, hc, n, hd⟩, hlen⟩ := I.tuple hs
    obtain ⟨cls, dd, data, sl⟩ := o
    replace hc : cls = _ := hc
    replace hd : data = _ := hd
    subst hc hd
    refine call_meets PySem.F.slot_tuple_count ⟨_, ho, rfl⟩ PySem.F.entry_tuple_count (PySem.F.args_tuple_count_2 _ _)
      (SeqAt.tuple_countAt a its.toArray n dd sl uy (eqU y)) ⟨ho, fun u' hu' => mem_eqAt ry fy rv fys u' (by simpa using hu'), ?_⟩
    have e1 : its.toArray.toList.countP (eqU y) = ys.countP fun z => eqV z y := by
      rw [List.toList_toArray]
      exact countP_vals rv fys
    rw [e1]
    exact ⟨.int ((ys.countP fun z => eqV z y : Nat) : Int), H, I.tok _, ⟨_, rfl⟩, q⟩
end


/-- the law's own run from an abstract heap that knows the script alone, where the promise may lean on the empty list of guards -/
theorem lawG {P : Program} {w : World} {K : PySem.W.Frag} {mg mb : Str → Option Value} {k : Nat} {fa a : Addr} {fd : FuncData} {x : Str} {sp : Sp} {s₁ : Shared} {vs : List Value} {ns : List Int}
    (KX : K.In s₁.heap) (hns : s₁.heap.Ns mainGlobals mg) (hb : s₁.heap.Ns builtinsNs mb) (hbb : ∀ x : Str, x ≠ "__name__" → mb x = bootBuiltins x) (hlim : s₁.heap.NoLimit) (hg : s₁.gens = #[])
    (ha : s₁.heap.get? a = some { cls := .type "list", data := .seq vs.toArray }) (hi : IntsAre vs ns) (hl : ns.length ≤ sizeLine) (hr : Room k callerA)
    (F : ∀ base : Heap, K.In base → base.Ns mainGlobals mg → FnG P w K mg base k fa fd [x] sp) (hbind : ∀ (s : Shared) (u : Value), BindsTo s fd ⟨[u], []⟩ [(x, u)])
    (hsp : ∀ H : Hp, Only H → SqL K H a (ns.map V.int) → sp [.ref a] H (fun v _ => v = .bl true) E0) :
    codeAny (model P w) callerA (.call (.ref fa) ⟨[.ref a], []⟩)
      (fun r s' => r = .ok (.ret (.bool true)) ∧ OldK s₁.heap s'.heap ∧ s'.os = s₁.os ∧ AllBare s'.gens) s₁ := by
  have rv := vals_ints hi
  have lenV := hi.length
  have core : ∀ H : Hp, Only H → SqL K H a (ns.map V.int) → HOk P w H s₁.heap → (∀ b, H b ≠ none → b = a) → (H a ≠ none → K.lookup a = none) →
      codeAny (model P w) callerA (.call (.ref fa) ⟨[.ref a], []⟩)
        (fun r s' => r = .ok (.ret (.bool true)) ∧ OldK s₁.heap s'.heap ∧ s'.os = s₁.os ∧ AllBare s'.gens) s₁ := by
    intro H hO hS hok hA hK
    have dicts : ∀ {b : Addr} {o : Obj} {es : Array DictEntry} {ep : Nat}, s₁.heap.get? b = some o → o.data = .dict es ep → H b = none := by
      intro b o es ep e d
      match q : H b with
      | none => rfl
      | some u =>
        have eb : b = a := hA b (by rw [q]; simp)
        rw [eb, ha] at e
        rw [← Option.some.inj e] at d
        cases (show Data.seq vs.toArray _ = Data.dict es ep from d)
    have ns' : ∀ {b : Addr} {m : Str → Option Value}, s₁.heap.Ns b m → (hidT s₁.heap H).Ns b m := by
      rintro b m ⟨o, es, ep, e, d, r⟩
      exact ⟨o, es, ep, hidT_get e (dicts e d), d, r⟩
    have inK : K.In (hidT s₁.heap H) := by
      intro b o e
      refine hidT_get (KX b o e) ?_
      match q : H b with
      | none => rfl
      | some u =>
        have eb : b = a := hA b (by rw [q]; simp)
        rw [eb, hK (by rw [← eb, q]; simp)] at e
        cases e
    have md : Mod K mg (hidT s₁.heap H) := by
      obtain ⟨mc, h1, h2⟩ := hlim
      exact ⟨inK, ns' hns, ⟨mb, ns' hb, hbb⟩, ⟨mc, ns' h1, h2⟩⟩
    have e0 : Env0 P w K mg (hidT s₁.heap H) callerA [] s₁ H := by
      refine ⟨rfl, md, fun b o e => of_hidT e, ?_, trivial, ?_, hok, .of_eq hg⟩
      · exact Nat.le_of_eq (hidT_size _ _)
      · exact fun b hb => absurd (show b ∈ ([] : List Addr) from hb) (by simp)
    have run := (F _ inK (ns' hns)).run callerA [] s₁ H ⟨[.ref a], []⟩ [.ref a] [.ref a] _ _ rfl hr e0 (hbind s₁ (.ref a)) (.cons rfl .nil) (hsp H hO hS)
    refine codeAny_mono run fun r s' h => ?_
    match r, h with
    | .error e, h => exact False.elim h
    | .ok .next, h => exact False.elim h
    | .ok .brk, h => exact False.elim h
    | .ok .cont, h => exact False.elim h
    | .ok (.ret u), h =>
      obtain ⟨v, H', os, bare, un, hok', r', q⟩ := h
      replace q : v = .bl true := q
      subst q
      obtain rfl : u = Value.bool true := r'
      refine ⟨rfl, OldK.of_keep ?_, os, bare⟩
      intro b o e
      match q : H b with
      | none => exact un.keep b o e q (fun z => absurd (show b ∈ ([] : List Addr) from z) (by simp)) (by simp)
      | some u =>
        rcases hO b with z | ⟨ob, xs, z⟩
        · rw [q] at z
          cases z
        · obtain ⟨e1, _⟩ := hok b _ z
          obtain ⟨e2, _⟩ := hok' b _ (un.frzs b ob _ z)
          rw [e] at e1
          rw [Option.some.inj e1]
          exact e2
  match hk : K.lookup a with
  | some o =>
    have e := KX a o hk
    rw [ha] at e
    have eo := Option.some.inj e
    subst eo
    refine core (fun _ => none) (fun _ => .inl rfl) (.inr ⟨_, vs.toArray, _, hk, rfl, rfl, rfl, ?_, by simpa using rv⟩) (fun b u z => ?_) (fun b z => absurd rfl z) fun z => absurd rfl z
    · rw [List.size_toArray, lenV]
      exact hl
    · cases (show (none : Option HO) = some u from z)
  | none =>
    let Hs : Hp := fun b => if b = a then some (.frz { cls := .type "list", data := .seq vs.toArray } (.lst (ns.map V.int))) else none
    have hs1 : Hs a = some (.frz { cls := .type "list", data := .seq vs.toArray } (.lst (ns.map V.int))) := if_pos rfl
    have hs2 : ∀ b, b ≠ a → Hs b = none := fun b hb => if_neg hb
    have hs3 : ∀ b, Hs b ≠ none → b = a := fun b z => Classical.byContradiction fun hb => z (hs2 b hb)
    refine core Hs (fun b => ?_) (.inl (.inr ⟨{ cls := .type "list", data := .seq vs.toArray }, hs1⟩)) (fun b u z => ?_) hs3 fun _ => hk
    · by_cases hb : b = a
      · exact .inr ⟨_, _, hb ▸ hs1⟩
      · exact .inl (hs2 b hb)
    · have eb : b = a := hs3 b (by rw [z]; simp)
      rw [eb, hs1] at z
      rw [← Option.some.inj z, eb]
      exact ⟨ha, by rw [List.length_map]; exact hl, vs, _, rv, ha⟩
/-- the goal that k_head leaves, from such a promise of the law -/
theorem walkG {l : PySem.W.OpenLaw} {n k : Nat} {q : Program} {loose : List Str} {XP : (Str → Option Value) → Heap → Prop} {YP : World → Heap → Prop} {d : DefRec} {K : Params → PySem.W.Frag} {sp : PySem.W.Frag → Sp} {x : Str}
    (hn : l.most = some n) (hn2 : n ≤ sizeLine) (hdf : d.params.defaults = []) (hr : Room k callerA)
    (hY : ∀ (w : World) (h : Heap), YP w h → (K w.params).In h)
    (F : ∀ (w : World) (mg : Str → Option Value) (fa : Addr) (h : Heap), (K w.params).In h → h.Ns mainGlobals mg → mg d.name = some (.ref fa) →
      ∃ fd : FuncData, (∀ (s : Shared) (u : Value), BindsTo s fd ⟨[u], []⟩ [(x, u)]) ∧
        ∀ base : Heap, (K w.params).In base → base.Ns mainGlobals mg → FnG l.prog w (K w.params) mg base k fa fd [x] (sp (K w.params)))
    (hsp : ∀ (K : PySem.W.Frag) (H : Hp) (a : Addr) (ns : List Int), ns.length ≤ n → (∀ z ∈ ns, Builtin.Int.intBits z ≤ 1048576) → Only H → SqL K H a (ns.map V.int) → sp K [.ref a] H (fun v _ => v = .bl true) E0) :
    PySem.W.WalkO q loose XP YP l.row.toRowW d [] (fun f vs => PySem.call f vs) := by
  refine Att.attach_callB hn hdf ?_
  intro w s₀ s₁ mg mb fa o pm cd doc a vs ns G Y ho hd hcd hmg hobj hints hlen hbits hg
  have KX := hY w _ Y
  obtain ⟨fd, hb, hF⟩ := F w mg fa _ KX G.T.g hmg
  exact lawG KX G.T.g G.T.b G.T.builtins G.T.nolimit hg hobj hints (Nat.le_trans hlen hn2) hr hF hb fun H hO hS => hsp (K w.params) H a ns hlen hbits hO hS


/-! ### tuples whose very object is known: they have no dict, so their methods may be called -/
def tyF (T : String) (x : V) (H : Hp) : Prop := ∃ p o u, x = .ref p ∧ H p = some (.frz o u) ∧ o.cls = .type T ∧ o.dict = none
def FT (H : Hp) (a : Addr) (xs : List V) : Prop := ∃ o, H a = some (.frz o (.tup xs)) ∧ o.cls = .type "tuple" ∧ o.dict = none
theorem FT.seq {K : PySem.W.Frag} {H : Hp} {a : Addr} {xs : List V} (h : FT H a xs) : SqT K H a xs := by
  obtain ⟨o, h, _⟩ := h
  exact .inl (.inr ⟨o, h⟩)
theorem FT.ty {H : Hp} {a : Addr} {xs : List V} (h : FT H a xs) : tyF "tuple" (.ref a) H := by
  obtain ⟨o, h, c, d⟩ := h
  exact ⟨a, o, _, rfl, h, c, d⟩
def tBMF (T : String) (r : V → List V → Hp → VK → Prop) (to : TE) (t : TA) : TE := fun σ H Q => to σ H fun x H1 => tyF T x H1 ∧ t σ H1 fun xs H2 => r x xs H2 Q
section
variable {X : Cx} {o e : Expr} {es : List Expr} {to : TE} {t : TA} {name : Str} {apos cpos pos : Pos} {T id : String} {r : V → List V → Hp → VK → Prop}
theorem pe_bmF (pa : PlainAttrs T) (slot : Slot T name id) (hty : typeOf (.builtin id) = pure (.type "method_descriptor")) (hm : MtR X id r) (ho : PE X o to) (ha : PA X (e :: es) t)
    (hbase : attributeBase o name X.env (eval o X.env) = eval o X.env := by rfl)
    (hfew : ((backTo cpos (starEach (e :: es) X.env)).all (fun x => !x.1) && (backToKw cpos (keywordEach [] X.env)).all (fun x => x.1.isSome)
      && decide ((e :: es).length + ([] : List Keyword).length + (if ([] : List Keyword).isEmpty then 0 else 1) < 30)) = true := by rfl)
    (hline : (apos.endLine == cpos.line) = true := by rfl) (hs : starEach (e :: es) X.env = (false, eval e X.env) :: starEach es X.env := by rfl) (hplain : (backTo cpos (starEach es X.env)).any (·.1) = false := by rfl) :
    PE X (.Call (.Attribute o name apos) (e :: es) [] cpos) (tBMF T r to t) := by
  constructor
  intro pins s σ H Q I h
  refine wpAny_Call_method_late hbase hfew hline rfl (thn (ho.run pins s σ H _ I h) ?_)
  rintro v s1 ⟨x, H1, I1, r1, ⟨p, ob, u, rfl, hp, hc, hd⟩, q1⟩
  cases r1
  have hob := (I1.hok p _ hp).1
  refine ⟨T, id, pa, slot, hty, ⟨ob, hob, hc⟩, ?_, ?_⟩
  · intro a ea
    cases ea
    exact ⟨ob, hob, hd⟩
  have hA := ha.run cpos pins s1 σ H1 _ I1 q1
  rw [hs] at hA ⊢
  refine Calls.callWith_builtin ?_ (Calls.evalArgs_plain (thn hA fun us s2 ⟨vs, H2, I2, r2, q2⟩ => hm pins s2 σ H2 (.ref p) vs (.ref p) us Q I2 (show RelV (.ref p) (.ref p) from rfl) r2 q2))
  show (false || (backTo cpos (starEach es X.env)).any (·.1)) = false
  rw [hplain, Bool.false_or]
theorem call_tupF : CallR X (.type "tuple") (fun xs H Q => ∃ p ys, xs = [.ref p] ∧ SqL X.K H p ys ∧ ∀ l o, H l = none → o.cls = .type "tuple" → o.dict = none → Q (.ref l) (upd H l (.frz o (.tup ys)))) := by
  intro pins s σ H xs us Q I r h
  obtain ⟨p, ys, rfl, hq, q⟩ := h
  rw [Vals.ref1 r]
  obtain ⟨its, r', pl, hz⟩ := I.list hq
  have hlen := r'.length
  refine call_tuple_list pl.isList (fun h' kp => ?_) (by simp only [List.size_toArray] <;> omega)
  have I1 : Inv X pins σ H { s with heap := h' } := I.kept (t' := s.toks) kp
  let ob : Obj := { cls := .type "tuple", data := .seq its.toArray }
  have I2 : Inv X pins σ (upd H h'.objs.size (.frz ob (.tup ys))) { s with heap := h'.push ob } :=
    I1.laid (t' := s.toks) (fun b o e => Heap.get?_push_of_some _ e) (Nat.le_refl _) ⟨Heap.get?_push_size _ rfl, hz, its, r', IsTup.new _ _⟩
  exact ⟨.ref h'.objs.size, _, I2, rfl, q _ ob (I1.hok.fresh (Nat.le_refl _)) rfl rfl⟩
def tTupF (t : TA) : TE := fun σ H Q => t σ H fun xs H1 => xs.length ≤ sizeLine ∧ ∀ p o, H1 p = none → o.cls = .type "tuple" → o.dict = none → Q (.ref p) (upd H1 p (.frz o (.tup xs)))
theorem pe_tupF {x1} (h : PA X es t) : PE X (.Tuple es x1 pos) (tTupF t) := by
  constructor
  intro pins s σ H Q I hq
  refine wpAny_Tuple_spliced (thn (h.run pos pins s σ H _ I hq) ?_)
  rintro us s1 ⟨xs, H1, I1, r, z, q⟩
  refine ⟨by rw [← r.length]; exact z, ?_⟩
  have hf : H1 s1.heap.objs.size = none := I1.hok.fresh (Nat.le_refl _)
  refine ⟨.ref s1.heap.objs.size, upd H1 s1.heap.objs.size (.frz { cls := .type "tuple", data := .seq us.toArray } (.tup xs)), I1.laid (t' := s1.toks) (fun b u e => Heap.get?_push_of_some _ e) (Nat.le_refl _) ?_, rfl, q _ _ hf rfl rfl⟩
  exact ⟨Heap.get?_push_size _ rfl, z, us, r, ⟨_, Heap.get?_push_size _ rfl, rfl, _, rfl⟩⟩
end

/-! ### what an update of the list at a place leaves, for the reading of o[i] op= e -/
def rGetL (K : PySem.W.Frag) : V → V → Hp → VK → Prop := fun o i H Q => ∃ p xs k v, o = .ref p ∧ i = .int k ∧ SqL K H p xs ∧ atI xs k = some v ∧ Q v H

/-! ### steps of a reading -/
abbrev SS := L2.St
section
variable {K : PySem.W.Frag} {σ : SS} {H H' : Hp} {Q : VK} {QB : Bool → Hp → Prop} {QA : List V → Hp → Prop} {QS : SS → Hp → Prop} {x y v : V} {ta tb te : TE} {tt tu : TT} {t : TA} {xs : List V} {p : Addr} {i j : Int} {n : Nat}
theorem x_var (h : σ[n]? = some (some v)) (q : Q v H) : tVar n σ H Q := ⟨v, h, q⟩
theorem x_c (q : Q v H) : tC v σ H Q := q
theorem x_op {r : R2} (q : ta σ H fun x H1 => tb σ H1 fun y H2 => r x y H2 Q) : tOp r ta tb σ H Q := q
theorem x_un {r : V → Hp → VK → Prop} (q : ta σ H fun x H1 => r x H1 Q) : tUn r ta σ H Q := q
theorem x_I0 {g : Int → Int → V} (q : Q (g i j) H) : rI0 g (.int i) (.int j) H Q := ⟨i, j, rfl, rfl, q⟩
theorem x_I {C : Int → Int → Prop} {g : Int → Int → V} (c : C i j) (q : Q (g i j) H) : rI C g (.int i) (.int j) H Q := ⟨i, j, rfl, rfl, c, q⟩
theorem x_U {g : Int → V} (q : Q (g i) H) : rU g (.int i) H Q := ⟨i, rfl, q⟩
theorem x_eq (s : scal x y = true) (q : Q (.bl (decide (x = y))) H) : rEq x y H Q := ⟨s, q⟩
theorem x_ne (s : scal x y = true) (q : Q (.bl (!decide (x = y))) H) : rNe x y H Q := ⟨s, q⟩
theorem x_isN (q : Q (.bl (decide (x = .non))) H) : rIsN x .non H Q := ⟨rfl, q⟩
theorem x_notN (q : Q (.bl (!decide (x = .non))) H) : rNotN x .non H Q := ⟨rfl, q⟩
theorem x_ixL (h : SqL K H p xs) (a : atI xs i = some v) (q : Q v H) : rIxL K (.ref p) (.int i) H Q := ⟨p, xs, i, v, rfl, rfl, h, a, q⟩
theorem x_ixT (h : SqT K H p xs) (a : atI xs i = some v) (q : Q v H) : rIxT K (.ref p) (.int i) H Q := ⟨p, xs, i, v, rfl, rfl, h, a, q⟩
theorem x_nil (q : QA [] H) : tNil σ H QA := q
theorem x_cons {tr : TA} (q : ta σ H fun x H1 => tr σ H1 fun xs H2 => QA (x :: xs) H2) : tCons ta tr σ H QA := q
theorem x_lst (q : t σ H fun xs H1 => xs.length ≤ sizeLine ∧ ∀ p, H1 p = none → Q (.ref p) (upd H1 p (.lst xs))) : tLst t σ H Q := q
theorem x_tup (q : t σ H fun xs H1 => xs.length ≤ sizeLine ∧ ∀ p, H1 p = none → Q (.ref p) (upd H1 p (.tup xs))) : tTup t σ H Q := q
theorem x_tupF (q : t σ H fun xs H1 => xs.length ≤ sizeLine ∧ ∀ p o, H1 p = none → o.cls = .type "tuple" → o.dict = none → Q (.ref p) (upd H1 p (.frz o (.tup xs)))) : tTupF t σ H Q := q
theorem x_CB {r : List V → Hp → VK → Prop} (q : t σ H fun vs H1 => r vs H1 Q) : tCB r t σ H Q := q
theorem x_call {sp : Sp} {E : XK} (q : t σ H fun vs H1 => sp (vs ++ []) H1 Q E) : tCall sp [] E t σ H Q := q
theorem x_test (q : te σ H fun x H' => ∃ k, x = .bl k ∧ QB k H') : tTest te σ H QB := q
theorem x_bl {b : Bool} {R : Bool → Prop} (q : R b) : ∃ k, V.bl b = .bl k ∧ R k := ⟨b, rfl, q⟩
theorem x_B (q : te σ H fun x H1 => ∃ c, x = .bl c ∧ QB c H1) : tB te σ H QB := q
theorem x_andV (q : ta σ H fun x H1 => ∃ c, x = .bl c ∧ if c = true then tb σ H1 Q else Q (.bl false) H1) : tAndV ta tb σ H Q := q
theorem x_orV (q : ta σ H fun x H1 => ∃ c, x = .bl c ∧ if c = true then Q (.bl true) H1 else tb σ H1 Q) : tOrV ta tb σ H Q := q
theorem x_notV (q : ta σ H fun x H1 => ∃ c, x = .bl c ∧ Q (.bl (!c)) H1) : tNotV ta σ H Q := q
theorem x_and (q : tt σ H fun c H1 => if c = true then tu σ H1 QB else QB false H1) : tAnd tt tu σ H QB := q
theorem x_or (q : tt σ H fun c H1 => if c = true then QB true H1 else tu σ H1 QB) : tOr tt tu σ H QB := q
theorem x_not (q : tt σ H fun c H1 => QB (!c) H1) : tNot tt σ H QB := q
theorem x_if (q : tt σ H fun c H1 => if c = true then ta σ H1 Q else tb σ H1 Q) : tIf tt ta tb σ H Q := q
theorem x_sl {r : V → Option Int → Option Int → Hp → VK → Prop} {tl th : TO} (q : te σ H fun x H1 => tl σ H1 fun l H2 => th σ H2 fun u H3 => r x l u H3 Q) : tSl r te tl th σ H Q := q
theorem x_no {QO : Option Int → Hp → Prop} (q : QO none H) : tNoPart σ H QO := q
theorem x_part {QO : Option Int → Hp → Prop} (q : te σ H fun x H1 => ∃ i, x = .int i ∧ QO (some i) H1) : tPart te σ H QO := q
theorem x_int {R : Int → Prop} (q : R i) : ∃ k, V.int i = .int k ∧ R k := ⟨i, rfl, q⟩
theorem x_slL {lo hi : Option Int} (h : SqL K H p xs) (q : ∀ a, H a = none → Q (.ref a) (upd H a (.lst (cutV xs lo hi)))) : rSlL K (.ref p) lo hi H Q := ⟨p, xs, rfl, h, q⟩
/- statements: the ends written out -/
variable {nx bk ct : SS → Hp → Prop} {rt : VK} {s1 s2 : TS} {g : TG}
theorem x_seq (q : s1 ⟨s2 ⟨nx, rt, bk, ct⟩, rt, bk, ct⟩ σ H) : tSeq s1 s2 ⟨nx, rt, bk, ct⟩ σ H := q
theorem x_next (q : nx σ H) : tNext ⟨nx, rt, bk, ct⟩ σ H := q
theorem x_brk (q : bk σ H) : tBreak ⟨nx, rt, bk, ct⟩ σ H := q
theorem x_cont (q : ct σ H) : tCont ⟨nx, rt, bk, ct⟩ σ H := q
theorem x_drop (q : te σ H fun _ H1 => nx σ H1) : tDrop te ⟨nx, rt, bk, ct⟩ σ H := q
theorem x_ret (q : te σ H rt) : tRet te ⟨nx, rt, bk, ct⟩ σ H := q
theorem x_retN (q : rt .non H) : tRetN ⟨nx, rt, bk, ct⟩ σ H := q
theorem x_asg (q : te σ H fun x H1 => g x σ H1 nx) : tAsg te g ⟨nx, rt, bk, ct⟩ σ H := q
theorem x_name (q : QS (σ.set n (some v)) H) : gName n v σ H QS := q
theorem x_gtup {m : Nat} {u : TGs} (h : SqT K H p xs) (l : xs.length = m) (q : u xs σ H QS) : gTup K m u (.ref p) σ H QS := ⟨p, xs, rfl, h, l, q⟩
theorem x_gnil (q : QS σ H) : gNil [] σ H QS := ⟨rfl, q⟩
theorem x_gcons {u : TGs} (q : g v σ H fun σ' H' => u xs σ' H' QS) : gCons g u (v :: xs) σ H QS := ⟨v, xs, rfl, q⟩
theorem x_gsub {to ti : TE} {s : TSet} (q : to σ H fun o H1 => ti σ H1 fun i H2 => s o i v H2 fun H3 => QS σ H3) : gSub to ti s v σ H QS := q
theorem x_setL {QH : Hp → Prop} {k : Nat} (h : H p = some (.lst xs)) (a : ixN xs.length i = some k) (q : QH (upd H p (.lst (xs.set k v)))) : rSetL (.ref p) (.int i) v H QH := ⟨p, xs, i, k, rfl, rfl, h, a, q⟩
theorem x_par {k m : Nat} (q : t σ H fun vs H1 => ∃ v w, vs = [v, w] ∧ nx ((σ.set k (some v)).set m (some w)) H1) : tPar k m t ⟨nx, rt, bk, ct⟩ σ H := q
theorem x_two {R : V → V → Prop} (q : R x y) : ∃ v w, [x, y] = [v, w] ∧ R v w := ⟨x, y, rfl, q⟩
theorem x_ifS {c : TT} (q : c σ H fun b H1 => if b = true then s1 ⟨nx, rt, bk, ct⟩ σ H1 else s2 ⟨nx, rt, bk, ct⟩ σ H1) : tIfS c s1 s2 ⟨nx, rt, bk, ct⟩ σ H := q
theorem x_aug {ti : TIp} (h : σ[n]? = some (some x)) (q : te σ H fun y H1 => ti x y H1 fun z H2 => nx (σ.set n (some z)) H2) : tAug n te ti ⟨nx, rt, bk, ct⟩ σ H := ⟨x, h, q⟩
theorem x_ipI {f : Int → Int → Int} (q : Q (.int (f i j)) H) : ipI f (.int i) (.int j) H Q := ⟨i, j, rfl, rfl, q⟩
theorem x_augS {to ti : TE} {tget : V → V → Hp → VK → Prop} {tip : TIp} {tset : TSet} (q : to σ H fun o H1 => ti σ H1 fun i H2 => tget o i H2 fun x H3 => te σ H3 fun y H4 => tip x y H4 fun z H5 => tset o i z H5 fun H6 => nx σ H6) : tAugS to ti te tget tip tset ⟨nx, rt, bk, ct⟩ σ H := q
/- built-ins -/
theorem x_lenS {R : List V → Prop} (h : SqL K H p xs) (q : R xs) : ∃ p' ys, [V.ref p] = [.ref p'] ∧ (SqL K H p' ys ∨ SqT K H p' ys) ∧ R ys := ⟨p, xs, rfl, .inl h, q⟩
theorem x_lenT {R : List V → Prop} (h : SqT K H p xs) (q : R xs) : ∃ p' ys, [V.ref p] = [.ref p'] ∧ (SqL K H p' ys ∨ SqT K H p' ys) ∧ R ys := ⟨p, xs, rfl, .inr h, q⟩
theorem x_abs {R : Int → Prop} (q : R i) : ∃ k, [V.int i] = [.int k] ∧ R k := ⟨i, rfl, q⟩
theorem x_toI {R : Int → Prop} {R' : Bool → Prop} (q : R i) : (∃ k, [V.int i] = [.int k] ∧ R k) ∨ ∃ k, [V.int i] = [.bl k] ∧ R' k := .inl ⟨i, rfl, q⟩
theorem x_toIb {R : Int → Prop} {R' : Bool → Prop} {b : Bool} (q : R' b) : (∃ k, [V.bl b] = [.int k] ∧ R k) ∨ ∃ k, [V.bl b] = [.bl k] ∧ R' k := .inr ⟨b, rfl, q⟩
theorem x_min2 {R : Int → Int → Prop} (q : R i j) : ∃ a b, [V.int i, V.int j] = [.int a, .int b] ∧ R a b := ⟨i, j, rfl, q⟩
theorem x_tupS {Q1 Q2 : Addr → List V → Prop} (h : SqL K H p xs) (q : Q1 p xs) : ∃ p' ys, [V.ref p] = [.ref p'] ∧ ((SqL K H p' ys ∧ Q1 p' ys) ∨ (SqT K H p' ys ∧ Q2 p' ys)) := ⟨p, xs, rfl, .inl ⟨h, q⟩⟩
theorem x_tupF1 {R : List V → Prop} (h : SqL K H p xs) (q : R xs) : ∃ p' ys, [V.ref p] = [.ref p'] ∧ SqL K H p' ys ∧ R ys := ⟨p, xs, rfl, h, q⟩
theorem x_insert {R : Addr → List V → Int → V → Prop} (h : H p = some (.lst xs)) (l : xs.length < sizeLine) (h0 : 0 ≤ i) (h1 : i < 2 ^ 63) (q : R p xs i v) :
    ∃ (l : Addr) (ys : List V) (k : Int) (y : V), V.ref p = .ref l ∧ [V.int i, v] = [.int k, y] ∧ H l = some (.lst ys) ∧ ys.length < sizeLine ∧ 0 ≤ k ∧ k < 2 ^ 63 ∧ R l ys k y := ⟨p, xs, i, v, rfl, rfl, h, l, h0, h1, q⟩
theorem x_bm {r : V → List V → Hp → VK → Prop} {T : String} (q : ta σ H fun x H1 => tyV K T x H1 ∧ t σ H1 fun xs H2 => r x xs H2 Q) : tBM K T r ta t σ H Q := q
theorem x_bm0 {r : V → List V → Hp → VK → Prop} {T : String} (q : ta σ H fun x H1 => tyV K T x H1 ∧ r x [] H1 Q) : tBM0 K T r ta σ H Q := q
theorem x_bmF {r : V → List V → Hp → VK → Prop} {T : String} (q : ta σ H fun x H1 => tyF T x H1 ∧ t σ H1 fun xs H2 => r x xs H2 Q) : tBMF T r ta t σ H Q := q
theorem ty_list (h : SqL K H p xs) : tyV K "list" (.ref p) H := .inl ⟨rfl, xs, h⟩
theorem x_append {Q : VK} (h : H p = some (.lst xs)) (l : xs.length < sizeLine) (q : Q .non (upd H p (.lst (xs ++ [v])))) : rAppend (.ref p) [v] H Q := ⟨p, xs, v, rfl, rfl, h, l, q⟩
theorem x_reverse {Q : VK} (h : H p = some (.lst xs)) (q : Q .non (upd H p (.lst xs.reverse))) : rReverse (.ref p) [] H Q := ⟨p, xs, rfl, rfl, h, q⟩
theorem x_lrg {Q : VK} {te : SS → Hp → (Int → Int → Hp → Prop) → Prop} (q : te σ H fun a b H1 => RgOk a b ∧ ∀ q, H1 q = none → Q (.ref q) (upd H1 q (.lst (rgV a b)))) : tLstRg te σ H Q := q
theorem x_rg1 {QR : Int → Int → Hp → Prop} (q : ta σ H fun x H1 => ∃ n, x = .int n ∧ QR 0 n H1) : tRg1 ta σ H QR := q
end
section
variable {K : PySem.W.Frag} {H : Hp} {Q : VK} {n : Nat}
theorem x_new {R : Addr → Prop} (z : n ≤ sizeLine) (q : ∀ p, H p = none → R p) : n ≤ sizeLine ∧ ∀ p, H p = none → R p := ⟨z, q⟩
theorem x_newF {R : Addr → Obj → Prop} (z : n ≤ sizeLine) (q : ∀ p (o : Obj), H p = none → o.cls = .type "tuple" → o.dict = none → R p o) : n ≤ sizeLine ∧ ∀ p (o : Obj), H p = none → o.cls = .type "tuple" → o.dict = none → R p o := ⟨z, q⟩
theorem x_iteT {A B : Prop} (q : A) : if true = true then A else B := iteT q
theorem x_iteF {A B : Prop} (q : B) : if false = true then A else B := iteF q
theorem dp_ints {a : Addr} : ∀ cs : List Int, DpAll K H (cs.map V.int) (cs.map PyData.int)
  | [] => .nil
  | z :: r => .cons (.int z) (dp_ints (a := a) r)
theorem lay_ints : ∀ cs : List Int, PyData.canLayAll0 (cs.map PyData.int) = true
  | [] => by simp only [List.map_nil, PyData.canLayAll0]
  | z :: r => by simp only [List.map_cons, PyData.canLayAll0, PyData.canLay0, lay_ints r, Bool.and_self]
theorem deep_ints : ∀ cs : List Int, PyData.depthAll (cs.map PyData.int) = 0
  | [] => by simp only [List.map_nil, PyData.depthAll]
  | z :: r => by simp [List.map_cons, PyData.depthAll, PyData.depth, deep_ints r]
theorem shaped_ints (cs : List Int) : SeqAt.shaped (.list (cs.map PyData.int)) = true := by
  unfold SeqAt.shaped
  simp [PyData.canLay0, PyData.depth, lay_ints, deep_ints]
theorem x_neNil {a b : Addr} {cs : List Int} (h : SqL K H a (cs.map V.int)) (hb : SqL K H b []) (q : Q (.bl (!cs.isEmpty)) H) : rNeD K (.ref a) (.ref b) H Q := by
  refine ⟨.list (cs.map PyData.int), .list [], .lst h (dp_ints (a := a) cs), .lst hb .nil, shaped_ints cs, shaped_ints [], ?_⟩
  have e : PyData.eqv (.list (cs.map PyData.int)) (.list []) = cs.isEmpty := by
    cases cs <;> simp [PyData.eqv, PyData.eqvAll]
  rw [e]
  exact q
end
theorem natAbs_lt {i : Int} {n : Nat} (h : -(n : Int) < i) (h2 : i < n) : i.natAbs < n := by omega
/- looking up -/
theorem boot'_len : bootBuiltins "len" = some (.builtin "len") := by decide +kernel
theorem boot'_abs : bootBuiltins "abs" = some (.builtin "abs") := by decide +kernel
theorem boot'_int : bootBuiltins "int" = some (.type "int") := by decide +kernel
theorem boot'_bool : bootBuiltins "bool" = some (.type "bool") := by decide +kernel
theorem boot'_list : bootBuiltins "list" = some (.type "list") := by decide +kernel
theorem boot'_tuple : bootBuiltins "tuple" = some (.type "tuple") := by decide +kernel
theorem boot'_str : bootBuiltins "str" = some (.type "str") := by decide +kernel
theorem boot'_min : bootBuiltins "min" = some (.builtin "min") := by decide +kernel
theorem boot'_max : bootBuiltins "max" = some (.builtin "max") := by decide +kernel
theorem boot'_sum : bootBuiltins "sum" = some (.builtin "sum") := by decide +kernel
theorem boot'_any : bootBuiltins "any" = some (.builtin "any") := by decide +kernel
theorem boot'_all : bootBuiltins "all" = some (.builtin "all") := by decide +kernel
theorem boot'_repr : bootBuiltins "repr" = some (.builtin "repr") := by decide +kernel
theorem boot'_sorted : bootBuiltins "sorted" = some (.builtin "sorted") := by decide +kernel
theorem boot'_isinstance : bootBuiltins "isinstance" = some (.builtin "isinstance") := by decide +kernel
theorem boot'_range : bootBuiltins "range" = some (.type "range") := by decide +kernel
theorem boot'_enumerate : bootBuiltins "enumerate" = some (.type "enumerate") := by decide +kernel
theorem boot'_set : bootBuiltins "set" = some (.type "set") := by decide +kernel
theorem x_start {t : TS} {D : Ends} {σ σ' : SS} {H : Hp} (e : σ = σ') (q : t D σ' H) : t D σ H := e ▸ q

theorem lk_ne {H : Hp} {p q : Addr} {o u : HO} (h : H q = some u) (n : H p = none) : upd H p o q = some u := (upd_ne (ne_of_none h n)).trans h
theorem lk_ne2 {H : Hp} {p q : Addr} {o u : HO} (hne : q ≠ p) (h : H q = some u) : upd H p o q = some u := (upd_ne hne).trans h
/-- all but what stands in S is kept -/
def Kx (S : List Addr) (H H' : Hp) : Prop := ∀ b o, b ∉ S → H b = some o → H' b = some o
theorem Kx.refl (S : List Addr) (H : Hp) : Kx S H H := fun _ _ _ h => h
theorem Kx.trans {S : List Addr} {H H1 H2 : Hp} (a : Kx S H H1) (b : Kx S H1 H2) : Kx S H H2 := fun c o n h => b c o n (a c o n h)
theorem Kx.new {S : List Addr} {H H1 : Hp} {p : Addr} {o : HO} (a : Kx S H H1) (n : H1 p = none) : Kx S H (upd H1 p o) := fun b u hb h => lk_ne (a b u hb h) n
theorem Kx.fresh {S : List Addr} {H H1 : Hp} {p : Addr} (a : Kx S H H1) (hp : p ∉ S) (n : H1 p = none) : H p = none := by
  cases q : H p with
  | none => rfl
  | some o => rw [a p o hp q] at n; cases n
/-- a write at a thing that H did not know, or that S bears -/
theorem Kx.wr {S : List Addr} {H H1 : Hp} {p : Addr} {o : HO} (a : Kx S H H1) (n : H p = none ∨ p ∈ S) : Kx S H (upd H1 p o) := fun b u hb h => by
  have nb : b ≠ p := by
    rcases n with n | n
    · exact ne_of_none h n
    · exact fun e => hb (e ▸ n)
  rw [upd_ne nb]
  exact a b u hb h
theorem Kx.mono {S T : List Addr} {H H' : Hp} (a : Kx S H H') (h : ∀ b ∈ S, b ∈ T) : Kx T H H' := fun b o n e => a b o (fun z => n (h b z)) e
theorem lk_keep {S : List Addr} {H H' : Hp} {q : Addr} {u : HO} (k : Kx S H H') (hq : q ∉ S) (h : H q = some u) : H' q = some u := k q u hq h
theorem Kx.sqT {S : List Addr} {K : PySem.W.Frag} {H H' : Hp} {a : Addr} {xs : List V} (k : Kx S H H') (n : a ∉ S) (h : SqT K H a xs) : SqT K H' a xs := by
  rcases h with (h | ⟨o, h⟩) | h
  · exact .inl (.inl (k _ _ n h))
  · exact .inl (.inr ⟨o, k _ _ n h⟩)
  · exact .inr h
theorem Kx.sqL {S : List Addr} {K : PySem.W.Frag} {H H' : Hp} {a : Addr} {xs : List V} (k : Kx S H H') (n : a ∉ S) (h : SqL K H a xs) : SqL K H' a xs := by
  rcases h with (h | ⟨o, h⟩) | h
  · exact .inl (.inl (k _ _ n h))
  · exact .inl (.inr ⟨o, k _ _ n h⟩)
  · exact .inr h
theorem Kx.same {H H' : Hp} (h : Same H H') (S : List Addr) : Kx S H H' := fun b o _ e => h b o e


/-! ### loops and comprehensions: what each asks, by a word Pv of the turn -/
section
variable {K : PySem.W.Frag} {σ : SS} {H : Hp} {Q : VK} {nx bk ct : SS → Hp → Prop} {rt : VK} {g : TG} {tb : TS} {tl te : TE} {ta : TA} {tt : TT} {vs : List Nat}
/-- the asking of a for over n turns that give what Y tells while G holds -/
def AskF (n : Nat) (G : Hp → Prop) (Y : Nat → Hp → V → Hp → Prop) (g : TG) (tb : TS) (nx : SS → Hp → Prop) (rt : VK) (σ : SS) (H : Hp) : Prop :=
  ∃ Pv : Nat → SS → Hp → Prop, Pv 0 σ H ∧ (∀ i σ H, i ≤ n → Pv i σ H → G H) ∧
    (∀ i x σ H H', i < n → Pv i σ H → Y i H x H' → g x σ H' fun σ2 H2 => tb ⟨Pv (i + 1), rt, nx, Pv (i + 1)⟩ σ2 H2) ∧ ∀ σ H, Pv n σ H → nx σ H
def AskC (n : Nat) (G : Hp → Prop) (Y : Nat → Hp → V → Hp → Prop) (g : TG) (tt : TT) (te : TE) (vs : List Nat) (σ : SS) (H : Hp) (Q : VK) : Prop :=
  ∀ D, H D = none → ∃ Pv : Nat → Hp → Prop, Pv 0 (upd H D (.lst [])) ∧ (∀ i H, i ≤ n → Pv i H → G H) ∧
    (∀ i x H H', i < n → Pv i H → Y i H x H' → g x (wipe σ vs) H' fun σ2 H2 => wipe σ2 vs = wipe σ vs ∧ tt σ2 H2 fun b H3 =>
      if b = true then te σ2 H3 fun y H4 => ∃ acc, H4 D = some (.lst acc) ∧ acc.length < sizeLine ∧ Pv (i + 1) (upd H4 D (.lst (acc ++ [y]))) else Pv (i + 1) H3) ∧ ∀ H, Pv n H → Q (.ref D) H
theorem askF {J : It} {n : Nat} {G : Hp → Prop} {Y : Nat → Hp → V → Hp → Prop} (w : Walk J n G Y) (q : AskF n G Y g tb nx rt σ H) :
    ∃ W : Nat → Nat → SS → Hp → Prop, (∃ m, W 0 m σ H) ∧ ∀ i m σ H, W i m σ H → (J.stop i H ∧ nx σ H) ∨
      (J.go i H ∧ ∃ N : SS → Hp → Prop, (∀ σ' H', N σ' H' → ∃ m', m' < m ∧ W (i + 1) m' σ' H') ∧ ∀ x H', J.yld i H x H' → g x σ H' fun σ2 H2 => tb ⟨N, rt, nx, N⟩ σ2 H2) := by
  obtain ⟨Pv, h0, h1, h2, h3⟩ := q
  exact for_it (D := ⟨nx, rt, fun _ _ => False, fun _ _ => False⟩) w Pv h0 h1 h2 h3
theorem askC {J : It} {n : Nat} {G : Hp → Prop} {Y : Nat → Hp → V → Hp → Prop} (w : Walk J n G Y) (q : AskC n G Y g tt te vs σ H Q) :
    ∀ D, H D = none → ∃ W : Nat → Nat → Hp → Prop, (∃ m, W 0 m (upd H D (.lst []))) ∧ ∀ i m H, W i m H → (J.stop i H ∧ Q (.ref D) H) ∨
      (J.go i H ∧ ∃ Nx : Hp → Prop, (∀ H', Nx H' → ∃ m', m' < m ∧ W (i + 1) m' H') ∧ ∀ x H', J.yld i H x H' → g x (wipe σ vs) H' fun σ2 H2 => wipe σ2 vs = wipe σ vs ∧ tt σ2 H2 fun b H3 =>
        if b = true then te σ2 H3 fun y H4 => ∃ acc, H4 D = some (.lst acc) ∧ acc.length < sizeLine ∧ Nx (upd H4 D (.lst (acc ++ [y]))) else Nx H3) := by
  intro D hD
  obtain ⟨Pv, h0, h1, h2, h3⟩ := q D hD
  exact lc_it w Pv h0 h1 h2 h3
abbrev YA (xs : List V) := YAt xs
abbrev YE (xs : List V) := YPair (fun i => some (.int (i : Nat))) (fun i => xs[i]?)
def WF (J : It) (g : TG) (tb : TS) (nx : SS → Hp → Prop) (rt : VK) (σ : SS) (H : Hp) : Prop := ∃ W : Nat → Nat → SS → Hp → Prop, (∃ m, W 0 m σ H) ∧ ∀ i m σ H, W i m σ H → (J.stop i H ∧ nx σ H) ∨
      (J.go i H ∧ ∃ N : SS → Hp → Prop, (∀ σ' H', N σ' H' → ∃ m', m' < m ∧ W (i + 1) m' σ' H') ∧ ∀ x H', J.yld i H x H' → g x σ H' fun σ2 H2 => tb ⟨N, rt, nx, N⟩ σ2 H2)
def WC (J : It) (g : TG) (tt : TT) (te : TE) (vs : List Nat) (σ : SS) (H : Hp) (Q : VK) : Prop := ∀ D, H D = none → ∃ W : Nat → Nat → Hp → Prop, (∃ m, W 0 m (upd H D (.lst []))) ∧ ∀ i m H, W i m H → (J.stop i H ∧ Q (.ref D) H) ∨
      (J.go i H ∧ ∃ Nx : Hp → Prop, (∀ H', Nx H' → ∃ m', m' < m ∧ W (i + 1) m' H') ∧ ∀ x H', J.yld i H x H' → g x (wipe σ vs) H' fun σ2 H2 => wipe σ2 vs = wipe σ vs ∧ tt σ2 H2 fun b H3 =>
        if b = true then te σ2 H3 fun y H4 => ∃ acc, H4 D = some (.lst acc) ∧ acc.length < sizeLine ∧ Nx (upd H4 D (.lst (acc ++ [y]))) else Nx H3)
theorem x_for {wi : TI} (q : wi σ H fun J H1 => WF J g tb nx rt σ H1) : tFor wi g tb ⟨nx, rt, bk, ct⟩ σ H := q
theorem x_lc {wi : TI} (q : wi σ H fun J H1 => WC J g tt te vs σ H1 Q) : tLc wi g tt te vs σ H Q := q
theorem x_yes {QB : Bool → Hp → Prop} (q : QB true H) : tYes σ H QB := q
theorem x_iL {R : It → Hp → Prop} (q : tl σ H fun x H1 => ∃ a, x = .ref a ∧ (∃ xs, SqL K H1 a xs) ∧ R (Itl K a) H1) : iList K tl σ H R := q
theorem x_iT {R : It → Hp → Prop} (q : tl σ H fun x H1 => ∃ a, x = .ref a ∧ (∃ xs, SqT K H1 a xs) ∧ R (Itt K a) H1) : iTup K tl σ H R := q
theorem x_iR1 {R : It → Hp → Prop} (q : ta σ H fun vs H1 => ∃ j : Int, vs = [.int j] ∧ -(2 ^ 62) ≤ j ∧ j < 2 ^ 62 ∧ R (Itr 0 j.toNat) H1) : iRng1 ta σ H R := q
theorem x_iR2 {R : It → Hp → Prop} (q : ta σ H fun vs H1 => ∃ i j : Int, vs = [.int i, .int j] ∧ (-(2 ^ 62) ≤ i ∧ i < 2 ^ 62 ∧ -(2 ^ 62) ≤ j ∧ j < 2 ^ 62) ∧ R (Itr i (j - i).toNat) H1) : iRng2 ta σ H R := q
theorem x_iE {R : It → Hp → Prop} (q : ta σ H fun vs H1 => ∃ a xs, vs = [.ref a] ∧ SqL K H1 a xs ∧ R (Ite K a) H1) : iEnum K ta σ H R := q
theorem x_iET {R : It → Hp → Prop} (q : ta σ H fun vs H1 => ∃ a xs, vs = [.ref a] ∧ SqT K H1 a xs ∧ R (IteT K a) H1) : iEnumT K ta σ H R := q
/- the asking, at the end of the walked thing's value -/
variable {a : Addr} {xs : List V}
theorem y_forL (h : SqL K H a xs) (q : AskF xs.length (fun H => SqL K H a xs) (YA xs) g tb nx rt σ H) : ∃ b, V.ref a = .ref b ∧ (∃ xs, SqL K H b xs) ∧ WF (Itl K b) g tb nx rt σ H := ⟨a, rfl, ⟨xs, h⟩, askF walk_list q⟩
theorem y_forT (h : SqT K H a xs) (q : AskF xs.length (fun H => SqT K H a xs) (YA xs) g tb nx rt σ H) : ∃ b, V.ref a = .ref b ∧ (∃ xs, SqT K H b xs) ∧ WF (Itt K b) g tb nx rt σ H := ⟨a, rfl, ⟨xs, h⟩, askF walk_tup q⟩
theorem y_forR1 {j : Int} (h0 : 0 ≤ j) (h1 : j < 1000000) (q : AskF j.toNat (fun _ => True) (YFn fun i => .int (0 + i)) g tb nx rt σ H) : -(2 ^ 62) ≤ j ∧ j < 2 ^ 62 ∧ WF (Itr 0 j.toNat) g tb nx rt σ H :=
  ⟨by omega, by omega, askF walk_range q⟩
theorem y_forR2 {i j : Int} (h0 : -1000000 < i) (h1 : i < 1000000) (h2 : -1000000 < j) (h3 : j < 1000000) (q : AskF (j - i).toNat (fun _ => True) (YFn fun k => .int (i + k)) g tb nx rt σ H) : (-(2 ^ 62) ≤ i ∧ i < 2 ^ 62 ∧ -(2 ^ 62) ≤ j ∧ j < 2 ^ 62) ∧ WF (Itr i (j - i).toNat) g tb nx rt σ H :=
  ⟨⟨by omega, by omega, by omega, by omega⟩, askF walk_range q⟩
theorem y_forE (h : SqL K H a xs) (q : AskF xs.length (fun H => SqL K H a xs) (YE xs) g tb nx rt σ H) : ∃ b ys, [V.ref a] = [.ref b] ∧ SqL K H b ys ∧ WF (Ite K b) g tb nx rt σ H := ⟨a, xs, rfl, h, askF walk_enum q⟩
theorem y_forET (h : SqT K H a xs) (q : AskF xs.length (fun H => SqT K H a xs) (YE xs) g tb nx rt σ H) : ∃ b ys, [V.ref a] = [.ref b] ∧ SqT K H b ys ∧ WF (IteT K b) g tb nx rt σ H := ⟨a, xs, rfl, h, askF walk_enumT q⟩
theorem y_lcL (h : SqL K H a xs) (q : AskC xs.length (fun H => SqL K H a xs) (YA xs) g tt te vs σ H Q) : ∃ b, V.ref a = .ref b ∧ (∃ xs, SqL K H b xs) ∧ WC (Itl K b) g tt te vs σ H Q := ⟨a, rfl, ⟨xs, h⟩, askC walk_list q⟩
theorem y_lcT (h : SqT K H a xs) (q : AskC xs.length (fun H => SqT K H a xs) (YA xs) g tt te vs σ H Q) : ∃ b, V.ref a = .ref b ∧ (∃ xs, SqT K H b xs) ∧ WC (Itt K b) g tt te vs σ H Q := ⟨a, rfl, ⟨xs, h⟩, askC walk_tup q⟩
theorem y_lcR1 {j : Int} (h0 : 0 ≤ j) (h1 : j < 1000000) (q : AskC j.toNat (fun _ => True) (YFn fun i => .int (0 + i)) g tt te vs σ H Q) : -(2 ^ 62) ≤ j ∧ j < 2 ^ 62 ∧ WC (Itr 0 j.toNat) g tt te vs σ H Q :=
  ⟨by omega, by omega, askC walk_range q⟩
theorem y_lcE (h : SqL K H a xs) (q : AskC xs.length (fun H => SqL K H a xs) (YE xs) g tt te vs σ H Q) : ∃ b ys, [V.ref a] = [.ref b] ∧ SqL K H b ys ∧ WC (Ite K b) g tt te vs σ H Q := ⟨a, xs, rfl, h, askC walk_enum q⟩
theorem y_lcET (h : SqT K H a xs) (q : AskC xs.length (fun H => SqT K H a xs) (YE xs) g tt te vs σ H Q) : ∃ b ys, [V.ref a] = [.ref b] ∧ SqT K H b ys ∧ WC (IteT K b) g tt te vs σ H Q := ⟨a, xs, rfl, h, askC walk_enumT q⟩
end

/-! ### the same rules where the block's own K is told from outside -/
section
variable {X : Cx} {K : PySem.W.Frag}
theorem ix_listK (e : X.K = K := by rfl) : IxR X (rIxL K) := e ▸ ix_list
theorem ix_tupK (e : X.K = K := by rfl) : IxR X (rIxT K) := e ▸ ix_tup
theorem sl_listK (e : X.K = K := by rfl) : SlR X (rSlL K) := e ▸ sl_list
theorem call_lenK (e : X.K = K := by rfl) : CallR X (.builtin "len") (fun xs H Q => ∃ p ys, xs = [.ref p] ∧ (SqL K H p ys ∨ SqT K H p ys) ∧ Q (.int ys.length) H) := e ▸ call_len_seq
theorem call_tupFK (e : X.K = K := by rfl) : CallR X (.type "tuple") (fun xs H Q => ∃ p ys, xs = [.ref p] ∧ SqL K H p ys ∧ ∀ l o, H l = none → o.cls = .type "tuple" → o.dict = none → Q (.ref l) (upd H l (.frz o (.tup ys)))) := e ▸ call_tupF
theorem call_tuple_ofK (e : X.K = K := by rfl) : CallR X (.type "tuple") (fun xs H Q => ∃ p ys, xs = [.ref p] ∧ ((SqL K H p ys ∧ ∀ l, H l = none → Q (.ref l) (upd H l (.tup ys))) ∨ (SqT K H p ys ∧ Q (.ref p) H))) := e ▸ call_tuple_of
theorem call_list_ofK (e : X.K = K := by rfl) : CallR X (.type "list") (fun xs H Q => ∃ p ys, xs = [.ref p] ∧ (SqL K H p ys ∨ SqT K H p ys) ∧ ∀ l, H l = none → Q (.ref l) (upd H l (.lst ys))) := e ▸ call_list_of
theorem mt_countTK (e : X.K = K := by rfl) : MtR X "tuple.count" (rCountT K) := e ▸ mt_countT
theorem op_in_seqK (e : X.K = K := by rfl) : OpR X (compareOp .In) (rIn K false) := e ▸ op_in_seq
theorem op_notIn_seqK (e : X.K = K := by rfl) : OpR X (compareOp .NotIn) (rIn K true) := e ▸ op_notIn_seq
theorem pg_tupK {es : List Expr} {k : Nat} {pos : Pos} {t : TGs} {n : Nat} (e : X.K = K) (hc : X.calm = true) (h : PGs X es t)
    (hn : (assignEach es X.env).length = n := by rfl) (hst : (assignEach es X.env).findIdx? (·.1) = none := by rfl) : PG X (.Tuple es k pos) (gTup K n t) := e ▸ pg_tup hc h hn hst
end

/-! ### comprehensions whose turn gives one value f i, the heap but for what is new as it was -/
theorem cut63 (xs : List V) : cutV xs none (some 63) = xs.take 63 := by
  unfold cutV
  rw [HT.sIx_none, show HT.sIx xs.length xs.length (some 63) = min 63 xs.length from HT.sIx_nat xs.length xs.length 63]
  show List.take (min 63 xs.length - 0) (List.drop 0 xs) = _
  rw [Nat.sub_zero, List.drop_zero]
  rcases Nat.le_total 63 xs.length with h | h
  · rw [Nat.min_eq_left h]
  · rw [Nat.min_eq_right h, List.take_length, List.take_of_length_le h]


section
variable {X : Cx}
theorem get_list : PGet X (rGetL X.K) := by
  intro pins s σ H o i ov iv Q I ro ri h
  obtain ⟨p, xs, k, v, rfl, rfl, hq, he, q⟩ := h
  cases ro
  obtain ⟨t, rfl⟩ := ri
  obtain ⟨its, r, pl, hz⟩ := I.list hq
  obtain ⟨j, h1, h2, h3, h4, h5⟩ := atI_get he
  obtain ⟨w, ew, rw'⟩ := r.get h2
  have hl := r.length
  have hn := line63
  by_cases h0 : 0 ≤ k
  · have hj : k.toNat = j := by
      rw [seqIndex_of h0 h5] at h1
      exact Option.some.inj h1
    exact wpAny_getItem_list pl.isList h0 (by omega) (by rw [hj]; simpa using ew) ⟨v, H, I, rw', q⟩
  · have hj : (k + (its.toArray.size : Int)).toNat = j := by
      rw [seqIndex_neg (by omega) h4] at h1
      rw [List.size_toArray, ← hl]
      exact Option.some.inj h1
    exact wpAny_getItem_list_neg pl.isList (by omega) (by rw [List.size_toArray] <;> omega) (by omega) (by rw [hj]; simpa using ew) ⟨v, H, I, rw', q⟩
end
section
variable {K : PySem.W.Frag} {σ : SS} {H : Hp} {Q : VK} {v : V} {p : Addr} {xs : List V} {i : Int}
theorem x_getL (h : SqL K H p xs) (a : atI xs i = some v) (q : Q v H) : rGetL K (.ref p) (.int i) H Q := ⟨p, xs, i, v, rfl, rfl, h, a, q⟩
theorem x_rep {k : Int} {l : Addr} (h : H l = some (.lst xs)) (h0 : 0 ≤ k) (h1 : k < 1000000) (z : xs.length * k.toNat ≤ sizeLine) (q : ∀ p, H p = none → Q (.ref p) (upd H p (.lst (List.replicate k.toNat xs).flatten))) : rRep (.ref l) (.int k) H Q :=
  ⟨l, k, xs, rfl, rfl, h, by omega, by omega, z, q⟩
theorem x_sum {a : Addr} {ns : List Int} (h : SqL K H a (ns.map V.int)) (q : Q (.int ns.sum) H) : rSum K [.ref a] H Q := ⟨a, ns, rfl, h, q⟩
theorem x_countT {a : Addr} {ys : List V} {y : V} (h : SqT K H a ys) (f : flatV y = true) (fs : ys.all flatV = true) (q : Q (.int ((ys.countP fun z => eqV z y : Nat) : Int)) H) : rCountT K (.ref a) [y] H Q := ⟨a, ys, y, rfl, rfl, h, f, fs, q⟩
end

/-! ### data whose repr is told -/
structure Good (d : PyData) (dep w : Nat) : Prop where
  sh : d.showable = true
  nd : d.hasDict = false
  dp : d.depth ≤ dep
  sl : d.leavesShort 13 = true
  wt : d.weight ≤ w
theorem Good.mono {d : PyData} {a b w v : Nat} (g : Good d a w) (h : a ≤ b) (h2 : w ≤ v) : Good d b v := ⟨g.sh, g.nd, Nat.le_trans g.dp h, g.sl, Nat.le_trans g.wt h2⟩
theorem Good.none : Good .none 0 0 := ⟨rfl, rfl, Nat.le_refl _, rfl, Nat.le_refl _⟩
theorem Good.bool (b : Bool) : Good (.bool b) 0 0 := ⟨rfl, rfl, Nat.le_refl _, rfl, Nat.le_refl _⟩
theorem Good.int {z : Int} (h : z.natAbs < 10 ^ 9) : Good (.int z) 0 31 := by
  have hl : z.natAbs.log2 < 30 := PySem.Flt.log2_lt_of (by decide) (Nat.lt_of_lt_of_le h (by decide))
  refine ⟨?_, rfl, Nat.le_refl _, ?_, ?_⟩
  · simp only [PyData.showable, decide_eq_true_eq]
    omega
  · simp only [PyData.leavesShort, PyData.shown]
    have := int_text_length_le10 (k := 9) (by decide) h
    refine decide_eq_true ?_
    show (Str.ofString (toString z)).length ≤ 13
    rw [PySem.ofString_length]
    omega
  · simp only [PyData.weight]
    split <;> omega
theorem good_all {k w : Nat} : ∀ {ds : List PyData}, (∀ d ∈ ds, Good d k w) → PyData.showableAll ds = true ∧ PyData.hasDictAll ds = false ∧ PyData.depthAll ds ≤ k ∧ PyData.leavesShortAll 13 ds = true ∧ PyData.weightAll ds ≤ ds.length * (w + 1)
  | [], _ => ⟨rfl, rfl, Nat.zero_le _, rfl, Nat.zero_le _⟩
  | d :: ds, h => by
    obtain ⟨a1, a2, a3, a4, a5⟩ := good_all (ds := ds) fun x hx => h x (List.mem_cons_of_mem _ hx)
    have g := h d List.mem_cons_self
    refine ⟨?_, ?_, ?_, ?_, ?_⟩
    · simp only [PyData.showableAll, g.sh, a1, Bool.and_self]
    · simp only [PyData.hasDictAll, g.nd, a2, Bool.or_self]
    · simp only [PyData.depthAll]
      exact Nat.max_le.mpr ⟨g.dp, a3⟩
    · simp only [PyData.leavesShortAll, g.sl, a4, Bool.and_self]
    · simp only [PyData.weightAll, List.length_cons, Nat.add_mul]
      have := g.wt
      omega
theorem Good.list {ds : List PyData} {k w n : Nat} (h : ∀ d ∈ ds, Good d k w) (hn : ds.length ≤ n) : Good (.list ds) (k + 1) (n * (w + 1)) := by
  obtain ⟨a1, a2, a3, a4, a5⟩ := good_all h
  exact ⟨by simpa only [PyData.showable] using a1, by simpa only [PyData.hasDict] using a2, by simp only [PyData.depth]; omega, by simpa only [PyData.leavesShort] using a4, by simp only [PyData.weight]; exact Nat.le_trans a5 (Nat.mul_le_mul_right _ hn)⟩
theorem Good.tuple {ds : List PyData} {k w n : Nat} (h : ∀ d ∈ ds, Good d k w) (hn : ds.length ≤ n) : Good (.tuple ds) (k + 1) (n * (w + 1)) := by
  obtain ⟨a1, a2, a3, a4, a5⟩ := good_all h
  exact ⟨by simpa only [PyData.showable] using a1, by simpa only [PyData.hasDict] using a2, by simp only [PyData.depth]; omega, by simpa only [PyData.leavesShort] using a4, by simp only [PyData.weight]; exact Nat.le_trans a5 (Nat.mul_le_mul_right _ hn)⟩
theorem x_repr {K : PySem.W.Frag} {H : Hp} {Q : VK} {a : Addr} {d : PyData} {k w : Nat} (h : Dp K H (.ref a) d) (g : Good d k w) (hk : k ≤ 60) (hw : w ≤ 2 ^ 20) (q : Q (.str d.shown) H) : rRepr K [.ref a] H Q :=
  ⟨a, d, rfl, h, g.sh, g.nd, Nat.le_trans g.dp hk, PyData.shown_fits (by decide) (by decide) g.sl (Nat.le_trans g.wt hw), q⟩
/- what stands at an address as data is kept -/
theorem Kx.rd {S : List Addr} {H H' : Hp} {a : Addr} {u : HO} (k : Kx S H H') (n : a ∉ S) (h : Rd H a u) : Rd H' a u := by
  rcases h with h | ⟨o, h⟩
  · exact .inl (k _ _ n h)
  · exact .inr ⟨o, k _ _ n h⟩
mutual
theorem dp_keep {K : PySem.W.Frag} {H H' : Hp} (k : Kx [] H H') : ∀ (d : PyData) (v : V), Dp K H v d → Dp K H' v d
  | .none, _, h => by cases h; exact .non
  | .bool b, _, h => by cases h; exact .bl b
  | .int i, _, h => by cases h; exact .int i
  | .str x, _, h => by cases h; exact .str x
  | .list ds, _, h => by
    cases h with
    | lst h1 h2 => exact .lst (k.sqL (by simp) h1) (dp_keepAll k ds _ h2)
  | .tuple ds, _, h => by
    cases h with
    | tup h1 h2 => exact .tup (k.sqT (by simp) h1) (dp_keepAll k ds _ h2)
  | .dict _, _, h => by cases h
theorem dp_keepAll {K : PySem.W.Frag} {H H' : Hp} (k : Kx [] H H') : ∀ (ds : List PyData) (vs : List V), DpAll K H vs ds → DpAll K H' vs ds
  | [], _, h => by cases h; exact .nil
  | d :: ds, _, h => by
    cases h with
    | cons h1 h2 => exact .cons (dp_keep k d _ h1) (dp_keepAll k ds _ h2)
end

section
variable {X : Cx}
/-- sorted(d) of a dict whose keys are ints -/
def rSortedD : List V → Hp → VK → Prop := fun xs H Q => ∃ (a : Addr) (kvs : List (Key × V)) (ks : List Int), xs = [.ref a] ∧ H a = some (.dK kvs) ∧ kvs.map (·.1) = ks.map Sum.inl ∧
    ∀ (ns : List Int) (p : Addr), ns.Perm ks → ns.Pairwise (· ≤ ·) → H p = none → Q (.ref p) (upd H p (.lst (ns.map V.int)))
theorem cr_sortedDI (hcalm : X.calm = true) : CallR X (.builtin "sorted") rSortedD := by
  intro pins s σ H xs us Q I r q
  obtain ⟨a, kvs, ks, ex, hd, hks, q⟩ := q
  subst ex
  obtain ⟨u, eu, rx⟩ := vals1 r
  subst eu
  cases rx
  obtain ⟨z, lo, vs, rel, dd⟩ := dk_of I.hok hd
  obtain ⟨ep, hat⟩ := dd.dictAt
  have hkeys : vs.map (·.1) = ks.map Sum.inl := rel.keys.symm.trans hks
  have hl : vs.length = ks.length := by
    have e := congrArg List.length hkeys
    rw [List.length_map, List.length_map] at e
    exact e
  have h16 : vs.length ≤ sizeLine := by rw [← rel.length]; exact z
  refine Calls.call_function_entry PyProof.Rows.kind_sorted PyProof.Rows.plain_sorted PyProof.Rows.entry_sorted (PyProof.Rows.args_sorted1 _) ?_
  unfold Builtin.«sorted»
  refine wpAny_bind (m := checkCount "sorted" 1 1 _) (wpAny_pure ?_)
  refine wpAny_bind (PySem.W.kdu_collect (A := X.A.in1) (PySem.W.kdl_dict (knd := mixKind X.prog X.w) (kvs := vs) (ep := ep) lo) (I.ok.hd hcalm) hat h16 fun h' tk acc hk hacc => ?_)
  have hal : acc.toList.length = ks.length := by rw [Array.length_toList, hacc.1, hl]
  have hv : Vals (ks.map V.int) acc.toList := vals_of_at (by rw [List.length_map, hal]) fun j x w h1 h2 => by
    obtain ⟨k, y, e1, e2⟩ := hacc.2 j w (by rw [← Array.getElem?_toList]; exact h2)
    have e3 : (vs.map (·.1))[j]? = some k := by rw [List.getElem?_map, e1]; all_goals rfl
    rw [hkeys, List.getElem?_map] at e3
    rw [List.getElem?_map] at h1
    cases e4 : ks[j]? with
    | none => rw [e4] at e3; cases e3
    | some i =>
      rw [e4] at e3 h1
      have e5 : Sum.inl i = k := Option.some.inj e3
      subst e5
      have e6 : V.int i = x := Option.some.inj h1
      subst e6
      exact keyIs_rel (k := .inl i) e2
  have hi := hv.ints
  have I1 : Inv X pins σ H { s with heap := h', toks := tk } := I.kept hk
  have hz : acc.toList.length ≤ sizeLine := by rw [hal, ← hl]; exact h16
  refine wpAny_bind (wpAny_newList ?_ hz)
  have hoL : (h'.push (PyProof.Rows.seqObj "list" acc.toList.toArray 0)).get? h'.objs.size = some (PyProof.Rows.seqObj "list" acc.toList.toArray 0) := Heap.get?_push_size _ rfl
  show wpAny _ _ _ _ _ { s with heap := h'.push (PyProof.Rows.seqObj "list" acc.toList.toArray 0), toks := tk }
  refine wpAny_bind (wpAny_holding (wpAny_call_entry PyProof.Rows.slot_list_sort ⟨_, hoL, rfl⟩ PyProof.Rows.entry_list_sort
    (SrtO.list_sort_ord SrtO.swo_int hoL hz (fun h2 => SrtO.ints_sortable hi h2) fun out h1 h2 => ⟨_, rfl, ?_⟩) (PyProof.Rows.args_list_sort _)))
  obtain ⟨k1, k2, k3⟩ := SrtO.ints_out hi h1 h2
  obtain ⟨e', he'⟩ := PyProof.Rows.sortedHeap_at (vs := acc.toList) (out := out.toArray) hoL
  have hlen : ((out.map SrtO.iv).map V.int).length ≤ sizeLine := by
    rw [List.length_map, k2.length_eq, ← hal]
    exact hz
  refine wpAny_pure ⟨_, rfl, .ref h'.objs.size, upd H h'.objs.size (.lst ((out.map SrtO.iv).map V.int)), I1.laid (t' := tk) (fun b u e => ?_) (Nat.le_refl _)
    (show ObjOk X.prog X.w _ _ _ (.lst ((out.map SrtO.iv).map V.int)) from ⟨hlen, out, e', vals_of_ints k1, he'⟩), rfl, q _ _ k2 k3 (I1.hok.fresh (Nat.le_refl _))⟩
  have hb : b < h'.objs.size := Heap.lt_size e
  rw [PyProof.Rows.sortedHeap_old (Nat.ne_of_lt hb) (by rw [size_push']; exact Nat.lt_succ_of_lt hb)]
  exact Heap.get?_push_of_some _ e
end

section
variable {X : Cx}
theorem sw_trueD {kx vx : Expr} {gs : List Comprehension} {scope : Scope} {pos py : Pos} {y : Str} {l : Nat} {env : Env} (hk : env.scope.kind = .function) (hy : env.scope.names.lookup y = some .local) (hl : (py.line == pos.line) = true)
    (ha : (scope.names.any fun (n, k) => n == y && (k == .local || k == .cell)) = false) : swapsWith (.DictComp kx vx gs scope pos) (some (.Name y py)) l env = pure true := by
  have ky : env.kindOf y = some .local := hy
  have hb : env.blockKind = .function := by unfold Env.blockKind; rw [hk]; rfl
  unfold swapsWith
  simp only [hb, ky, ha, Expr.pos, hl]
  rfl
theorem ps_setDc {i : Nat} {y : Str} {py : Pos} {kx vx tg iter : Expr} {ifs : List Expr} {scope : Scope} {own : List (Str × Nat)} {pos spos : Pos} {wi : TI} {g : TG} {tt : TT} {tk tv : TE} (hc : X.calm = true) (hN : X.N.Nodup) (hy : X.N[i]? = some y) (hyl : X.env.scope.names.lookup y = some .local)
    (hsw : swapsWith (.DictComp kx vx [⟨tg, iter, ifs, 0⟩] scope pos) (some (.Name y py)) spos.line X.env = pure true) (hi : PI X tg iter wi) (ok : BlkOk X.N X.env.scope scope own)
    (hg : ∀ (s : Shared) (H : Hp) (C : Addr) (cl : List (Str × Addr)) (fp : List Addr), PG (X.blk s H scope (compEnvC scope cl C X.env) fp) tg g) (ht : ∀ (s : Shared) (H : Hp) (C : Addr) (cl : List (Str × Addr)) (fp : List Addr), PTs (X.blk s H scope (compEnvC scope cl C X.env) fp) ifs tt)
    (hk : ∀ (s : Shared) (H : Hp) (C : Addr) (cl : List (Str × Addr)) (fp : List Addr), PE (X.blk s H scope (compEnvC scope cl C X.env) fp) kx tk)
    (he : ∀ (s : Shared) (H : Hp) (C : Addr) (cl : List (Str × Addr)) (fp : List Addr), PE (X.blk s H scope (compEnvC scope cl C X.env) fp) vx tv) (hs : ∀ x, foldedSetIterable iter X.env x = pure x := by intro _; rfl) :
    PS X (.Assign [.Name y py] (.DictComp kx vx [⟨tg, iter, ifs, 0⟩] scope pos) spos) (tAsg (tDc wi g tt tk tv (own.map (·.2))) (gName i)) := by
  refine ⟨fun pins s σ H D I h => ?_⟩
  rw [exec_Assign_Name_used _ _ _ _ hsw]
  refine wpAny_bind (wpAny_standAt (wpAny_bind ?_))
  show wpAny _ X.A (do let _ ← comprehension (.DictComp kx vx [⟨tg, iter, ifs, 0⟩] scope pos) scope X.env (firstIterPos [⟨tg, iter, ifs, 0⟩] pos) newDict false (eval iter X.env) (some (assign (.Name y py) X.env))) _ _ s
  have h : tDc wi g tt tk tv (own.map (·.2)) σ H (fun x H1 => gName i x σ H1 D.nx) := h
  refine wpAny_bind (thn (dc_core (Qf := fun _ s' => SP X pins D .next s') hc hN I hi ok hg ht hk he hs h fun L C s' m H' I' q hn f => ?_) fun _ s' hq => wpAny_pure (wpAny_pure hq))
  show wpAny _ _ (assign (.Name y py) X.env (.ref L)) _ _ _
  refine wpAny_assign_Name (store_ok2 (v := V.ref L) I' hN hy (.inl hyl) rfl (fun s2 I2 ⟨a, sb, ha⟩ => ?_) (.inr hyl))
  obtain ⟨f0, f1, f2, f3, f4, f5⟩ := f
  have haC : C ≠ a := by
    rcases ha with z | z
    · rw [z]; exact f1
    · exact fun e => f4 y a z e.symm
  refine ⟨m, hn.sameBut sb haC, fun h3 sb3 => ?_⟩
  exact ⟨_, H', I2.turned (t' := s2.toks) (fun b o hb e => (sb3.2 b hb).trans e) f0 f1 f3 f4 f5, q⟩
end
section
variable {K : PySem.W.Frag} {σ : SS} {H : Hp} {Q : VK} {QB : Bool → Hp → Prop} {nx bk ct : SS → Hp → Prop} {rt : VK} {g : TG} {tb : TS} {tl te tk tv td ty ta : TE} {tA : TA} {tt : TT} {vs : List Nat} {v : V} {a : Addr} {xs ys : List V}
def AskD (n : Nat) (G : Hp → Prop) (Y : Nat → Hp → V → Hp → Prop) (g : TG) (tt : TT) (tk tv : TE) (vs : List Nat) (σ : SS) (H : Hp) (Q : VK) : Prop :=
  ∀ D, H D = none → ∃ Pv : Nat → Hp → Prop, Pv 0 (upd H D (.dK [])) ∧ (∀ i H, i ≤ n → Pv i H → G H) ∧
    (∀ i x H H', i < n → Pv i H → Y i H x H' → g x (wipe σ vs) H' fun σ2 H2 => wipe σ2 vs = wipe σ vs ∧ tt σ2 H2 fun b H3 =>
      if b = true then tk σ2 H3 fun y H4 => tv σ2 H4 fun z H5 => ∃ kvs k, y = kV k ∧ H5 D = some (.dK kvs) ∧ kvs.length < sizeLine ∧ Pv (i + 1) (upd H5 D (.dK (putK kvs k z))) else Pv (i + 1) H3) ∧ ∀ H, Pv n H → Q (.ref D) H
def WD (J : It) (g : TG) (tt : TT) (tk tv : TE) (vs : List Nat) (σ : SS) (H : Hp) (Q : VK) : Prop := ∀ D, H D = none → ∃ W : Nat → Nat → Hp → Prop, (∃ m, W 0 m (upd H D (.dK []))) ∧ ∀ i m H, W i m H →
  (J.stop i H ∧ Q (.ref D) H) ∨ (J.go i H ∧ ∃ Nx : Hp → Prop, (∀ H', Nx H' → ∃ m', m' < m ∧ W (i + 1) m' H') ∧ ∀ x H', J.yld i H x H' → g x (wipe σ vs) H' fun σ2 H2 => wipe σ2 vs = wipe σ vs ∧ tt σ2 H2 fun b H3 =>
    if b = true then tk σ2 H3 fun y H4 => tv σ2 H4 fun z H5 => ∃ kvs k, y = kV k ∧ H5 D = some (.dK kvs) ∧ kvs.length < sizeLine ∧ Nx (upd H5 D (.dK (putK kvs k z))) else Nx H3)
theorem askD {J : It} {n : Nat} {G : Hp → Prop} {Y : Nat → Hp → V → Hp → Prop} (w : Walk J n G Y) (q : AskD n G Y g tt tk tv vs σ H Q) : WD J g tt tk tv vs σ H Q := by
  intro D hD
  obtain ⟨Pv, h0, hG, hs, hd⟩ := q D hD
  refine ⟨fun i m H => m = n - i ∧ i ≤ n ∧ Pv i H, ⟨n, by simp, Nat.zero_le _, h0⟩, ?_⟩
  rintro i m H ⟨rfl, hi, p⟩
  have qG := hG i H hi p
  by_cases hlt : i < n
  · exact .inr ⟨w.goes i H hlt qG, Pv (i + 1), fun H' p' => ⟨n - (i + 1), by omega, rfl, hlt, p'⟩, fun x H' y => hs i x H H' hlt p (w.yields i H x H' hlt qG y)⟩
  · have e : i = n := by omega
    subst e
    exact .inl ⟨w.stops H qG, hd H p⟩
theorem x_dc {wi : TI} (q : wi σ H fun J H1 => WD J g tt tk tv vs σ H1 Q) : tDc wi g tt tk tv vs σ H Q := q
theorem y_dcL (h : SqL K H a xs) (q : AskD xs.length (fun H => SqL K H a xs) (YA xs) g tt tk tv vs σ H Q) : ∃ b, V.ref a = .ref b ∧ (∃ xs, SqL K H b xs) ∧ WD (Itl K b) g tt tk tv vs σ H Q := ⟨a, rfl, ⟨xs, h⟩, askD walk_list q⟩
/-- a while, by a word of the names and the heap, and a measure -/
theorem x_while {c : TT} (q : ∃ W : Nat → SS → Hp → Prop, (∃ m, W m σ H) ∧ ∀ m σ H, W m σ H → c σ H fun b H1 => if b = true then ∃ N : SS → Hp → Prop, (∀ σ' H', N σ' H' → ∃ m', m' < m ∧ W m' σ' H') ∧ tb ⟨N, rt, nx, N⟩ σ H1 else nx σ H1) : tWhile c tb ⟨nx, rt, bk, ct⟩ σ H := q
theorem x_turn {m : Nat} {W : Nat → SS → Hp → Prop} (q : tb ⟨fun σ' H' => ∃ m', m' < m ∧ W m' σ' H', rt, nx, fun σ' H' => ∃ m', m' < m ∧ W m' σ' H'⟩ σ H) : ∃ N : SS → Hp → Prop, (∀ σ' H', N σ' H' → ∃ m', m' < m ∧ W m' σ' H') ∧ tb ⟨N, rt, nx, N⟩ σ H := ⟨_, fun _ _ h => h, q⟩
theorem x_truthL {R : Bool → Prop} (h : SqL K H a xs) (q : R (!xs.isEmpty)) : ∃ k, TruV K (.ref a) H k ∧ R k := ⟨_, .inl ⟨xs, h, rfl⟩, q⟩
theorem x_pop {Q : VK} {y : V} (h : H a = some (.lst xs)) (e : xs[xs.length - 1]? = some y) (q : Q y (upd H a (.lst xs.dropLast))) : rPop (.ref a) [] H Q := ⟨a, xs, y, rfl, rfl, h, e, q⟩
theorem x_din (q : ty σ H fun y H1 => td σ H1 fun x H2 => ∃ a o, x = .ref a ∧ DGet H2 a y o ∧ Q (.bl o.isSome) H2) : tDIn ty td σ H Q := q
theorem x_dnotin (q : ty σ H fun y H1 => td σ H1 fun x H2 => ∃ a o, x = .ref a ∧ DGet H2 a y o ∧ Q (.bl (!o.isSome)) H2) : tDNotIn ty td σ H Q := q
theorem x_dput (q : tv σ H fun v H1 => td σ H1 fun x H2 => ty σ H2 fun y H3 => ∃ a H4, x = .ref a ∧ DPut H3 a y v H4 ∧ nx σ H4) : sDPut td ty tv ⟨nx, rt, bk, ct⟩ σ H := q
theorem x_dget (q : td σ H fun x H1 => ty σ H1 fun y H2 => ∃ a v, x = .ref a ∧ DGet H2 a y (some v) ∧ Q v H2) : tDGet td ty σ H Q := q
theorem x_dgI {kvs : List (Key × V)} {i : Int} {R : Option V → Prop} (h : H a = some (.dK kvs)) (q : R (valV kvs (.inl i))) : ∃ b o, V.ref a = .ref b ∧ DGet H b (.int i) o ∧ R o := ⟨a, _, rfl, DGet.k (k := .inl i) h, q⟩
theorem x_dpI {kvs : List (Key × V)} {i : Int} {R : Hp → Prop} (h : H a = some (.dK kvs)) (l : kvs.length < sizeLine) (q : R (upd H a (.dK (putK kvs (.inl i) v)))) : ∃ b H', V.ref a = .ref b ∧ DPut H b (.int i) v H' ∧ R H' := ⟨a, _, rfl, DPut.k (k := .inl i) h l, q⟩
theorem x_listD {kvs : List (Key × V)} {Q : VK} (h : H a = some (.dK kvs)) (q : ∀ p, H p = none → Q (.ref p) (upd H p (.lst (kvs.map fun kv => kV kv.1)))) : rListD [.ref a] H Q := ⟨a, kvs, rfl, h, q⟩
theorem x_sortedD {kvs : List (Key × V)} {ks : List Int} {Q : VK} (h : H a = some (.dK kvs)) (e : kvs.map (·.1) = ks.map Sum.inl)
    (q : ∀ (ns : List Int) (p : Addr), ns.Perm ks → ns.Pairwise (· ≤ ·) → H p = none → Q (.ref p) (upd H p (.lst (ns.map V.int)))) : rSortedD [.ref a] H Q := ⟨a, kvs, ks, rfl, h, e, q⟩
theorem x_sortedL {ks : List Int} {Q : VK} (h : SqL K H a (ks.map V.int))
    (q : ∀ (ns : List Int) (p : Addr), ns.Perm ks → ns.Pairwise (· ≤ ·) → H p = none → Q (.ref p) (upd H p (.lst (ns.map V.int)))) : rSortedI K [.ref a] H Q := ⟨a, ks, rfl, h, q⟩
theorem x_inL {x : V} (h : SqL K H a xs) (f : flatV x = true) (fs : xs.all flatV = true) (q : Q (.bl (inV x xs)) H) : rIn K false x (.ref a) H Q := ⟨a, xs, rfl, .inl h, f, fs, q⟩
theorem x_notInL {x : V} (h : SqL K H a xs) (f : flatV x = true) (fs : xs.all flatV = true) (q : Q (.bl (!inV x xs)) H) : rIn K true x (.ref a) H Q := ⟨a, xs, rfl, .inl h, f, fs, q⟩
theorem x_inT {x : V} (h : SqT K H a xs) (f : flatV x = true) (fs : xs.all flatV = true) (q : Q (.bl (inV x xs)) H) : rIn K false x (.ref a) H Q := ⟨a, xs, rfl, .inr h, f, fs, q⟩
theorem x_listL {Q : VK} (h : SqL K H a xs) (q : ∀ l, H l = none → Q (.ref l) (upd H l (.lst xs))) : ∃ p ys, [V.ref a] = [.ref p] ∧ (SqL K H p ys ∨ SqT K H p ys) ∧ ∀ l, H l = none → Q (.ref l) (upd H l (.lst ys)) := ⟨a, xs, rfl, .inl h, q⟩
theorem x_listT {Q : VK} (h : SqT K H a xs) (q : ∀ l, H l = none → Q (.ref l) (upd H l (.lst xs))) : ∃ p ys, [V.ref a] = [.ref p] ∧ (SqL K H p ys ∨ SqT K H p ys) ∧ ∀ l, H l = none → Q (.ref l) (upd H l (.lst ys)) := ⟨a, xs, rfl, .inr h, q⟩
/-- t + u: some tuple of both -/
theorem x_cat {b : Addr} {Q : VK} (h : SqT K H a xs) (h2 : SqT K H b ys) (z : xs.length + ys.length ≤ sizeLine) (q : ∀ (p : Addr) (H' : Hp), SqT K H' p (xs ++ ys) → Kx [] H H' → Q (.ref p) H') : rCatA K (.ref a) (.ref b) H Q := by
  refine ⟨a, b, xs, ys, rfl, rfl, h, h2, z, fun e => ?_, fun _ e => ?_, fun _ _ p hp => ?_⟩
  · subst e
    exact q b H h2 (Kx.refl _ _)
  · subst e
    exact q a H (by rwa [List.append_nil]) (Kx.refl _ _)
  · exact q p _ (SqT.of upd_same) ((Kx.refl _ _).new hp)
theorem in_int {n : Int} : ∀ ns : List Int, inV (.int n) (ns.map V.int) = decide (n ∈ ns)
  | [] => rfl
  | m :: r => by
    have ih := in_int (n := n) r
    unfold inV at ih ⊢
    rw [List.map_cons, List.any_cons, ih]
    by_cases e : m = n
    · subst e
      simp [eqV]
    · have e2 : ¬ n = m := fun z => e z.symm
      simp [eqV, e, e2]
theorem flat_ints : ∀ ns : List Int, (ns.map V.int).all flatV = true
  | [] => rfl
  | _ :: r => flat_ints r
theorem pt_truth' {X : Cx} {a : Expr} {t : TE} (ha : PE X a t) (he : ∀ whole, isTrue a X.env whole = (do let v ← whole; standAt a.pos; holding [v] (truthy v)) := by intro _; rfl) :
    PT X a (fun σ H QB => t σ H fun x H' => ∃ k, TruV X.K x H' k ∧ QB k H') := pt_truth ha he
end
structure Lkw (P : Program) (w : World) (K : PySem.W.Frag) (mg : Str → Option Value) (base : Heap) (x : Str) (k : Nat) (ps ks : List Str) (gV : List V → List V) (sp : Sp) : Prop where
  ex : ∃ (f : Addr) (fd : FuncData) (g : List Value → List Value), FnOk P w K mg base CX0 k f fd ps sp ∧ mg x = some (.ref f) ∧ PySem.W.keepIn K (.ref f) = true ∧ KB K fd ps ks g gV
theorem pe_lkw {X : Cx} {k : Nat} {ps ks : List Str} {sp : Sp} {x : Str} {p pos : Pos} {tk : TA} {kws : List Keyword} {gV : List V → List V} (L : Lkw X.prog X.w X.K X.mg X.base x k ps ks gV sp) (hr : Room k X.A) (hg : Gl X x) (hkw : PK X kws tk)
    (hall : (backToKw pos (keywordEach kws X.env)).all (·.1.isSome) = true := by rfl) (hks : (backToKw pos (keywordEach kws X.env)).filterMap (·.1) = ks := by rfl)
    (hdb : (x == ("__debug__" : Str)) = false := by decide)
    (hpl : ((backTo pos (starEach [] X.env)).any (·.1) || (backToKw pos (keywordEach kws X.env)).any (·.1.isNone)) = false := by rfl) :
    PE X (.Call (.Name x p) [] kws pos) (tCallKw sp gV tk) := by
  obtain ⟨f, fd, g, F, hm, hk, hb⟩ := L.ex
  exact pe_kw0 F hr hg hm hk hb hkw hall hks hdb hpl
theorem x_kw {σ : SS} {H : Hp} {Q : VK} {sp : Sp} {gV : List V → List V} {tk : TA} (q : tk σ H fun zs H1 => sp (gV zs) H1 Q E0) : tCallKw sp gV tk σ H Q := q
theorem op_catAK {X : Cx} {K : PySem.W.Frag} (e : X.K = K := by rfl) : OpR X (binaryOp .Add) (rCatA K) := e ▸ op_catA
theorem op_isN1K : True := trivial

local macro_rules | `(tactic| walk_at "lk") => `(tactic| first
  | assumption
  | exact upd_same
  | (refine' lk_ne ?h (by assumption); (case h => walk_at "lk"))
  | (refine' lk_ne2 ?n ?h; (case n => walk_at "ne"); (case h => walk_at "lk"))
  | (refine' lk_keep (by assumption) ?n ?h; (case n => walk_at "nin"); (case h => walk_at "lk")))
local macro_rules | `(tactic| walk_at "ne") => `(tactic| first
  | assumption
  | exact Ne.symm (by assumption))
local macro_rules | `(tactic| walk_at "nin") => `(tactic| first
  | assumption
  | (simp only [List.mem_cons, List.not_mem_nil, or_false, not_or, not_false_eq_true, and_true]; (repeat' apply And.intro); all_goals walk_at "ne"))
local macro_rules | `(tactic| walk_at "lkL") => `(tactic| first
  | assumption
  | (refine' SqL.of ?h; (case h => walk_at "lk"))
  | (refine' Kx.sqL ?k ?n ?h; (case k => walk_at "kx"); (case n => walk_at "nin"); (case h => walk_at "lkL")))
local macro_rules | `(tactic| walk_at "kx") => `(tactic| first
  | assumption
  | (refine' Kx.new ?k ?n; (case n => assumption); (case k => first | walk_at "kx" | exact Kx.refl [] _)))
local macro_rules | `(tactic| walk_at "lkT") => `(tactic| first
  | assumption
  | (refine' SqT.of ?h; (case h => walk_at "lk"))
  | (refine' FT.seq ?h; (case h => assumption))
  | (refine' Kx.sqT ?k ?n ?h; (case k => walk_at "kx"); (case n => walk_at "nin"); (case h => walk_at "lkT")))
local macro_rules | `(tactic| walk_at "sz") => `(tactic| first
  | exact Nat.zero_le _
  | (show (_ : Nat) ≤ sizeLine; decide)
  | (refine Nat.le_of_lt (small1000 ?h); (case h => first | omega | (simp; done) | (simp; omega))))
local macro_rules | `(tactic| walk_at "at") => `(tactic| first
  | exact rfl
  | assumption)
local macro_rules | `(tactic| walk_at "side") => `(tactic| first
  | assumption
  | (show (0 : Int) < _; first | decide | omega)
  | exact Or.inl ⟨by omega, by omega⟩
  | exact Or.inr ⟨by omega, by omega⟩
  | exact ⟨by omega, by omega⟩
  | exact ⟨by decide, by decide, by decide⟩
  | exact ⟨by decide, by decide, natAbs_lt (by omega) (by omega)⟩
  | exact small1000 (by first | omega | (simp; done) | (simp; omega))
  | omega)
local macro_rules | `(tactic| walk_at "rd") => `(tactic| dsimp only)
local macro_rules | `(tactic| walk_at "rd") => `(tactic| ((with_reducible refine' x_c  ?_)))
local macro_rules | `(tactic| walk_at "rd") => `(tactic| ((with_reducible refine' x_op  ?_)))
local macro_rules | `(tactic| walk_at "rd") => `(tactic| ((with_reducible refine' x_un  ?_)))
local macro_rules | `(tactic| walk_at "rd") => `(tactic| ((with_reducible refine' x_I0  ?_)))
local macro_rules | `(tactic| walk_at "rd") => `(tactic| ((with_reducible refine' x_U  ?_)))
local macro_rules | `(tactic| walk_at "rd") => `(tactic| ((with_reducible refine' x_isN  ?_)))
local macro_rules | `(tactic| walk_at "rd") => `(tactic| ((with_reducible refine' x_notN  ?_)))
local macro_rules | `(tactic| walk_at "rd") => `(tactic| ((with_reducible refine' x_nil  ?_)))
local macro_rules | `(tactic| walk_at "rd") => `(tactic| ((with_reducible refine' x_cons  ?_)))
local macro_rules | `(tactic| walk_at "rd") => `(tactic| ((with_reducible refine' x_lst  ?_)))
local macro_rules | `(tactic| walk_at "rd") => `(tactic| ((with_reducible refine' x_tup  ?_)))
local macro_rules | `(tactic| walk_at "rd") => `(tactic| ((with_reducible refine' x_tupF  ?_)))
local macro_rules | `(tactic| walk_at "rd") => `(tactic| ((with_reducible refine' x_CB  ?_)))
local macro_rules | `(tactic| walk_at "rd") => `(tactic| ((with_reducible refine' x_call  ?_)))
local macro_rules | `(tactic| walk_at "rd") => `(tactic| ((with_reducible refine' x_test  ?_)))
local macro_rules | `(tactic| walk_at "rd") => `(tactic| ((with_reducible refine' x_bl  ?_)))
local macro_rules | `(tactic| walk_at "rd") => `(tactic| ((with_reducible refine' x_B  ?_)))
local macro_rules | `(tactic| walk_at "rd") => `(tactic| ((with_reducible refine' x_andV  ?_)))
local macro_rules | `(tactic| walk_at "rd") => `(tactic| ((with_reducible refine' x_orV  ?_)))
local macro_rules | `(tactic| walk_at "rd") => `(tactic| ((with_reducible refine' x_notV  ?_)))
local macro_rules | `(tactic| walk_at "rd") => `(tactic| ((with_reducible refine' x_and  ?_)))
local macro_rules | `(tactic| walk_at "rd") => `(tactic| ((with_reducible refine' x_or  ?_)))
local macro_rules | `(tactic| walk_at "rd") => `(tactic| ((with_reducible refine' x_not  ?_)))
local macro_rules | `(tactic| walk_at "rd") => `(tactic| ((with_reducible refine' x_if  ?_)))
local macro_rules | `(tactic| walk_at "rd") => `(tactic| ((with_reducible refine' x_sl  ?_)))
local macro_rules | `(tactic| walk_at "rd") => `(tactic| ((with_reducible refine' x_no  ?_)))
local macro_rules | `(tactic| walk_at "rd") => `(tactic| ((with_reducible refine' x_part  ?_)))
local macro_rules | `(tactic| walk_at "rd") => `(tactic| ((with_reducible refine' x_int  ?_)))
local macro_rules | `(tactic| walk_at "rd") => `(tactic| ((with_reducible refine' x_seq  ?_)))
local macro_rules | `(tactic| walk_at "rd") => `(tactic| ((with_reducible refine' x_next  ?_)))
local macro_rules | `(tactic| walk_at "rd") => `(tactic| ((with_reducible refine' x_brk  ?_)))
local macro_rules | `(tactic| walk_at "rd") => `(tactic| ((with_reducible refine' x_cont  ?_)))
local macro_rules | `(tactic| walk_at "rd") => `(tactic| ((with_reducible refine' x_drop  ?_)))
local macro_rules | `(tactic| walk_at "rd") => `(tactic| ((with_reducible refine' x_ret  ?_)))
local macro_rules | `(tactic| walk_at "rd") => `(tactic| ((with_reducible refine' x_retN  ?_)))
local macro_rules | `(tactic| walk_at "rd") => `(tactic| ((with_reducible refine' x_asg  ?_)))
local macro_rules | `(tactic| walk_at "rd") => `(tactic| ((with_reducible refine' x_gnil  ?_)))
local macro_rules | `(tactic| walk_at "rd") => `(tactic| ((with_reducible refine' x_gcons  ?_)))
local macro_rules | `(tactic| walk_at "rd") => `(tactic| ((with_reducible refine' x_gsub  ?_)))
local macro_rules | `(tactic| walk_at "rd") => `(tactic| ((with_reducible refine' x_par  ?_)))
local macro_rules | `(tactic| walk_at "rd") => `(tactic| ((with_reducible refine' x_ifS  ?_)))
local macro_rules | `(tactic| walk_at "rd") => `(tactic| ((with_reducible refine' x_ipI  ?_)))
local macro_rules | `(tactic| walk_at "rd") => `(tactic| ((with_reducible refine' x_augS  ?_)))
local macro_rules | `(tactic| walk_at "rd") => `(tactic| ((with_reducible refine' x_abs  ?_)))
local macro_rules | `(tactic| walk_at "rd") => `(tactic| ((with_reducible refine' x_toI  ?_)))
local macro_rules | `(tactic| walk_at "rd") => `(tactic| ((with_reducible refine' x_toIb  ?_)))
local macro_rules | `(tactic| walk_at "rd") => `(tactic| ((with_reducible refine' x_min2  ?_)))
local macro_rules | `(tactic| walk_at "rd") => `(tactic| ((with_reducible refine' x_bm  ?_)))
local macro_rules | `(tactic| walk_at "rd") => `(tactic| ((with_reducible refine' x_bm0  ?_)))
local macro_rules | `(tactic| walk_at "rd") => `(tactic| ((with_reducible refine' x_bmF  ?_)))
local macro_rules | `(tactic| walk_at "rd") => `(tactic| ((with_reducible refine' x_lrg  ?_)))
local macro_rules | `(tactic| walk_at "rd") => `(tactic| ((with_reducible refine' x_yes  ?_)))
local macro_rules | `(tactic| walk_at "rd") => `(tactic| ((with_reducible refine' x_rg1  ?_)))
local macro_rules | `(tactic| walk_at "rd") => `(tactic| ((with_reducible refine' x_for  ?_)))
local macro_rules | `(tactic| walk_at "rd") => `(tactic| ((with_reducible refine' x_lc  ?_)))
local macro_rules | `(tactic| walk_at "rd") => `(tactic| ((with_reducible refine' x_iL  ?_)))
local macro_rules | `(tactic| walk_at "rd") => `(tactic| ((with_reducible refine' x_iT  ?_)))
local macro_rules | `(tactic| walk_at "rd") => `(tactic| ((with_reducible refine' x_iR1  ?_)))
local macro_rules | `(tactic| walk_at "rd") => `(tactic| ((with_reducible refine' x_iR2  ?_)))
local macro_rules | `(tactic| walk_at "rd") => `(tactic| ((with_reducible refine' x_iE  ?_)))
local macro_rules | `(tactic| walk_at "rd") => `(tactic| ((with_reducible refine' x_iET  ?_)))
local macro_rules | `(tactic| walk_at "rd") => `(tactic| ((with_reducible refine' x_name  ?_); try simp only [List.set_cons_zero, List.set_cons_succ]))
local macro_rules | `(tactic| walk_at "rd") => `(tactic| ((with_reducible refine' x_new ?s0 ?_); (case s0 => walk_at "sz"); intro _ _))
local macro_rules | `(tactic| walk_at "rd") => `(tactic| ((with_reducible refine' x_newF ?s0 ?_); (case s0 => walk_at "sz"); intro _ _ _ _ _))
local macro_rules | `(tactic| walk_at "rd") => `(tactic| ((with_reducible refine' x_iteT  ?_)))
local macro_rules | `(tactic| walk_at "rd") => `(tactic| ((with_reducible refine' x_iteF  ?_)))
local macro_rules | `(tactic| walk_at "rd") => `(tactic| ((with_reducible refine' x_neNil ?s0 ?s1 ?_); (case s0 => walk_at "lkL"); (case s1 => walk_at "lkL")))
local macro_rules | `(tactic| walk_at "rd") => `(tactic| ((with_reducible refine' x_two  ?_); try simp only [List.set_cons_zero, List.set_cons_succ]))
local macro_rules | `(tactic| walk_at "rd") => `(tactic| ((with_reducible refine' x_getL ?s0 ?s1 ?_); (case s0 => walk_at "lkL"); (case s1 => walk_at "at")))
local macro_rules | `(tactic| walk_at "rd") => `(tactic| ((with_reducible refine' x_var ?s0 ?_); (case s0 => exact rfl)))
local macro_rules | `(tactic| walk_at "rd") => `(tactic| ((with_reducible refine' x_eq ?s0 ?_); (case s0 => exact rfl)))
local macro_rules | `(tactic| walk_at "rd") => `(tactic| ((with_reducible refine' x_ne ?s0 ?_); (case s0 => exact rfl)))
local macro_rules | `(tactic| walk_at "rd") => `(tactic| ((with_reducible refine' x_I ?s0 ?_); (case s0 => walk_at "side")))
local macro_rules | `(tactic| walk_at "rd") => `(tactic| ((with_reducible refine' x_ixL ?s0 ?s1 ?_); (case s0 => walk_at "lkL"); (case s1 => walk_at "at")))
local macro_rules | `(tactic| walk_at "rd") => `(tactic| ((with_reducible refine' x_ixT ?s0 ?s1 ?_); (case s0 => walk_at "lkT"); (case s1 => walk_at "at")))
local macro_rules | `(tactic| walk_at "rd") => `(tactic| ((with_reducible refine' x_slL ?s0 ?_); (case s0 => walk_at "lkL")))
local macro_rules | `(tactic| walk_at "rd") => `(tactic| ((with_reducible refine' x_gtup ?s0 ?s1 ?_); (case s0 => walk_at "lkT"); (case s1 => exact rfl)))
local macro_rules | `(tactic| walk_at "rd") => `(tactic| ((with_reducible refine' x_setL ?s0 ?s1 ?_); (case s0 => walk_at "lk"); (case s1 => walk_at "at"); try simp only [Int.reduceToNat, List.set]))
local macro_rules | `(tactic| walk_at "rd") => `(tactic| ((with_reducible refine' x_aug ?s0 ?_); (case s0 => exact rfl)))
local macro_rules | `(tactic| walk_at "rd") => `(tactic| ((with_reducible refine' x_lenS ?s0 ?_); (case s0 => walk_at "lkL")))
local macro_rules | `(tactic| walk_at "rd") => `(tactic| ((with_reducible refine' x_lenT ?s0 ?_); (case s0 => walk_at "lkT")))
local macro_rules | `(tactic| walk_at "rd") => `(tactic| ((with_reducible refine' x_tupS ?s0 ?_); (case s0 => walk_at "lkL")))
local macro_rules | `(tactic| walk_at "rd") => `(tactic| ((with_reducible refine' x_tupF1 ?s0 ?_); (case s0 => walk_at "lkL")))
local macro_rules | `(tactic| walk_at "rd") => `(tactic| ((with_reducible refine' x_insert ?s0 ?s1 ?s2 ?s3 ?_); (case s0 => walk_at "lk"); (case s1 => walk_at "side"); (case s2 => walk_at "side"); (case s3 => walk_at "side")))
local macro_rules | `(tactic| walk_at "rd") => `(tactic| ((with_reducible refine' x_append ?s0 ?s1 ?_); (case s0 => walk_at "lk"); (case s1 => walk_at "side")))
local macro_rules | `(tactic| walk_at "rd") => `(tactic| ((with_reducible refine' x_reverse ?s0 ?_); (case s0 => walk_at "lk")))
local macro_rules | `(tactic| walk_at "rd") => `(tactic| ((with_reducible refine' x_dc  ?_)))
local macro_rules | `(tactic| walk_at "rd") => `(tactic| ((with_reducible refine' x_while  ?_)))
local macro_rules | `(tactic| walk_at "rd") => `(tactic| ((with_reducible refine' x_din  ?_)))
local macro_rules | `(tactic| walk_at "rd") => `(tactic| ((with_reducible refine' x_dnotin  ?_)))
local macro_rules | `(tactic| walk_at "rd") => `(tactic| ((with_reducible refine' x_dput  ?_)))
local macro_rules | `(tactic| walk_at "rd") => `(tactic| ((with_reducible refine' x_dget  ?_)))
local macro_rules | `(tactic| walk_at "rd") => `(tactic| ((with_reducible refine' x_pop ?s0 ?s1 ?_); (case s0 => walk_at "lk"); (case s1 => walk_at "at")))
local macro_rules | `(tactic| walk_at "rd") => `(tactic| ((with_reducible refine' x_dgI ?s0 ?_); (case s0 => walk_at "lk")))
local macro_rules | `(tactic| walk_at "rd") => `(tactic| ((with_reducible refine' x_dpI ?s0 ?s1 ?_); (case s0 => walk_at "lk"); (case s1 => walk_at "side")))
local macro_rules | `(tactic| walk_at "rd") => `(tactic| ((with_reducible refine' x_listD ?s0 ?_); (case s0 => walk_at "lk"); intro _ _))
local macro_rules | `(tactic| walk_at "rd") => `(tactic| ((with_reducible refine' x_truthL ?s0 ?_); (case s0 => walk_at "lkL")))
local macro_rules | `(tactic| walk_at "rd") => `(tactic| ((with_reducible refine' x_inL ?s0 ?s1 ?s2 ?_); (case s0 => walk_at "lkL"); (case s1 => exact rfl); (case s2 => first | assumption | exact flat_ints _)))
local macro_rules | `(tactic| walk_at "rd") => `(tactic| ((with_reducible refine' x_notInL ?s0 ?s1 ?s2 ?_); (case s0 => walk_at "lkL"); (case s1 => exact rfl); (case s2 => first | assumption | exact flat_ints _)))
local macro_rules | `(tactic| walk_at "rd") => `(tactic| ((with_reducible refine' x_kw  ?_)))
def topS (i : Nat) : Stmt := PySem.Challenge.pw_slotfall_k06_reachable_nodes.main.body.getD i (.Pass ⟨0, 0, 0, 0⟩)
abbrev sLiveNodes : Stmt := topS 1
theorem scLiveNodes : FnScope ["heap", "node", "row"] ["heap"] (defScope sLiveNodes) := ⟨rfl, rfl, rfl, by decide +kernel, rfl, by decide +kernel, by decide +kernel⟩
abbrev sReachable : Stmt := topS 3
theorem scReachable : FnScope ["heap"] ["heap"] (defScope sReachable) := ⟨rfl, rfl, rfl, by decide +kernel, rfl, by decide +kernel, by decide +kernel⟩
abbrev sHeldFrom : Stmt := topS 4
theorem scHeldFrom : FnScope ["heap", "starts", "sources", "pending", "holder", "held", "node"] ["heap", "starts"] (defScope sHeldFrom) := ⟨rfl, rfl, rfl, by decide +kernel, rfl, by decide +kernel, by decide +kernel⟩
abbrev sSources : Stmt := topS 5
theorem scSources : FnScope ["heap", "node"] ["heap"] (defScope sSources) := ⟨rfl, rfl, rfl, by decide +kernel, rfl, by decide +kernel, by decide +kernel⟩
abbrev sQPen : Stmt := topS 7
theorem scQPen : FnScope ["_law_script"] ["_law_script"] (defScope sQPen) := ⟨rfl, rfl, rfl, by decide +kernel, rfl, by decide +kernel, by decide +kernel⟩
abbrev sQDraw : Stmt := topS 8
theorem scQDraw : FnScope ["_law_pen_here", "_law_most_one", "_law_digit", "_law_place", "_law_cell", "_law_whole", "_law_mixed"] ["_law_pen_here", "_law_most_one"] (defScope sQDraw) := ⟨rfl, rfl, rfl, by decide +kernel, rfl, by decide +kernel, by decide +kernel⟩
abbrev sQShuffled : Stmt := topS 9
theorem scQShuffled : FnScope ["_law_pen_here", "_law_row", "_law_result", "_law_entry"] ["_law_pen_here", "_law_row"] (defScope sQShuffled) := ⟨rfl, rfl, rfl, by decide +kernel, rfl, by decide +kernel, by decide +kernel⟩
abbrev sQLinked : Stmt := topS 10
theorem scQLinked : FnScope ["_law_pen_here", "_law_labels", "_law_alive", "_law_rows", "_law_way", "_law_place", "_law_near", "_law_back", "_law_row", "_law_forward", "_law_turn", "_law_one", "_law_other", "_law_entry", "_law_label"] ["_law_pen_here", "_law_labels", "_law_alive"] (defScope sQLinked) := ⟨rfl, rfl, rfl, by decide +kernel, rfl, by decide +kernel, by decide +kernel⟩
abbrev sQBase : Stmt := topS 11
theorem scQBase : FnScope ["_law_pen_here", "_law_alive", "_law_spare", "_law_labels", "_law_rows", "_law_label", "_law_handles", "_law_turn", "_law_row"] ["_law_pen_here"] (defScope sQBase) := ⟨rfl, rfl, rfl, by decide +kernel, rfl, by decide +kernel, by decide +kernel⟩
abbrev sQLoose : Stmt := topS 12
theorem scQLoose : FnScope ["_law_pen_here", "_law_base_here", "_law_rows", "_law_handles", "_law_alive", "_law_turn", "_law_one", "_law_other", "_law_spot", "_law_row"] ["_law_pen_here", "_law_base_here"] (defScope sQLoose) := ⟨rfl, rfl, rfl, by decide +kernel, rfl, by decide +kernel, by decide +kernel⟩
abbrev sQReached : Stmt := topS 13
theorem scQReached : FnScope ["_law_base_here", "_law_rows", "_law_handles", "_law_found", "_law_at", "_law_entry", "_law_spot", "_law_number"] ["_law_base_here"] (defScope sQReached) := ⟨rfl, rfl, rfl, by decide +kernel, rfl, by decide +kernel, by decide +kernel⟩
abbrev sQRight : Stmt := topS 14
theorem scQRight : FnScope ["_law_base_here", "_law_before", "_law_expected", "_law_found", "_law_spot", "_law_entry"] ["_law_base_here"] (defScope sQRight) := ⟨rfl, rfl, rfl, by decide +kernel, rfl, by decide +kernel, by decide +kernel⟩
abbrev sLaw : Stmt := topS 15
theorem scLaw : FnScope ["_law_script", "_law_pen_here", "_law_turn", "_law_base_here"] ["_law_script"] (defScope sLaw) := ⟨rfl, rfl, rfl, by decide +kernel, rfl, by decide +kernel, by decide +kernel⟩

structure Txt (mg : Str → Option Value) : Prop where
  b_len : mg "len" = none
  b_abs : mg "abs" = none
  b_int : mg "int" = none
  b_bool : mg "bool" = none
  b_list : mg "list" = none
  b_tuple : mg "tuple" = none
  b_min : mg "min" = none
  b_max : mg "max" = none
  b_sum : mg "sum" = none
  b_any : mg "any" = none
  b_all : mg "all" = none
  b_repr : mg "repr" = none
  b_sorted : mg "sorted" = none
  b_isinstance : mg "isinstance" = none
  b_range : mg "range" = none
  b_enumerate : mg "enumerate" = none

/-- the pen at p over the cells at c: at most n cells drawn -/
def PenAt (H : Hp) (p c : Addr) (n : Nat) : Prop := ∃ (cs : List Int) (pl r : Int), H p = some (.lst [.ref c, .int pl, .int r]) ∧ H c = some (.lst (cs.map V.int)) ∧ cs.length ≤ 63 ∧ 0 ≤ pl ∧ pl ≤ n ∧ 0 ≤ r
theorem PenAt.ne {H : Hp} {p c : Addr} {n : Nat} (h : PenAt H p c n) : c ≠ p := by
  obtain ⟨cs, pl, r, h1, h2, _⟩ := h
  rintro rfl
  rw [h1] at h2
  have e := HO.lst.inj (Option.some.inj h2)
  cases cs with
  | nil => cases e
  | cons z t => cases (List.cons.inj e).1
def spDraw : Sp := fun vs H Q _ => ∃ (p c : Addr) (n : Nat) (m : Int), vs = [.ref p, .int m] ∧ PenAt H p c n ∧ n < 1000000 ∧ 0 < m ∧ m < 100000000 ∧
  ∀ d H', 0 ≤ d → d < m → Kx [p] H H' → PenAt H' p c (n + 1) → Q (.int d) H'
theorem at_mod {cs : List Int} (i : Int) (h : ¬ (!cs.isEmpty) = false) : (0 : Int) < (cs.map V.int).length ∧ ∃ z, atI (cs.map V.int) (i % ((cs.map V.int).length : Int)) = some (.int z) := by
  have hl : 0 < cs.length := by
    cases cs with
    | nil => exact absurd rfl h
    | cons z t => exact Nat.succ_pos _
  have h0 : (0 : Int) < (cs.map V.int).length := by
    rw [List.length_map]
    omega
  refine ⟨h0, ?_⟩
  have h1 := Int.emod_nonneg i (Int.ne_of_gt h0)
  have h2 := Int.emod_lt_of_pos i h0
  generalize i % ((cs.map V.int).length : Int) = k at h1 h2
  rw [List.length_map] at h2
  obtain ⟨j, rfl⟩ : ∃ j : Nat, k = j := ⟨k.toNat, by omega⟩
  have hj : j < cs.length := by omega
  exact ⟨cs[j], atI_nat (by rw [List.getElem?_map, List.getElem?_eq_getElem hj]; rfl)⟩
theorem draw_bound {a pl : Int} (h0 : 0 ≤ a) (h1 : a < 2147483647) (h2 : 0 ≤ pl) (h3 : pl ≤ 1000000) : (a * (2 * pl + 13) + 90007 * pl * pl).natAbs < 2 ^ 64 := by
  have e1 : 0 ≤ a * (2 * pl + 13) := Int.mul_nonneg h0 (by omega)
  have e2 : a * (2 * pl + 13) ≤ 2147483647 * 2000013 := Int.mul_le_mul (by omega) (by omega) (by omega) (by decide)
  have e3 : 0 ≤ 90007 * pl * pl := Int.mul_nonneg (by omega) h2
  have e4 : 90007 * pl * pl ≤ 90007 * 1000000 * 1000000 := Int.mul_le_mul (by omega) (by omega) (by omega) (by decide)
  generalize a * (2 * pl + 13) = x at e1 e2
  generalize 90007 * pl * pl = y at e3 e4
  omega
section Xtra
local macro_rules | `(tactic| walk_at "side") => `(tactic| exact ⟨by decide, by decide, draw_bound (Int.emod_nonneg _ (by decide)) (Int.emod_lt_of_pos _ (by decide)) (by assumption) (by omega)⟩)
section
variable {P : Program} {w : World} {K : PySem.W.Frag} {mg : Str → Option Value} {base : Heap}
theorem ok_draw {f : Addr} {fd : FuncData} (F : Fun K "_law_draw" "_law_draw" sQDraw f fd) (T : Txt mg) : FnOk P w K mg base CX0 1 f fd ["_law_pen_here", "_law_most_one"] spDraw := by
  refine F.ok scQDraw (fun vs H Q E h => ?_) (fun cdv A outer s H vs Q E hr h => ?_)
  · obtain ⟨p, c, n, m, rfl, _⟩ := h
    rfl
  · obtain ⟨p, c, n, m, rfl, hpen, hn, hm0, hm1, k⟩ := h
    have ncp := hpen.ne
    obtain ⟨cs, pl, r, hp, hcs, hl, h0, h1, h2⟩ := hpen
    refine ⟨_, (pss_cons (ps_if (pt_cmpR op_gt (pe_ix ix_list (pv 0) pe_int (fun _ _ => rfl)) pe_int (nomark _)) (pss_cons (ps_set (i := 2) scQDraw.nd rfl (Or.inl rfl) (pe_op op_mod (pe_ix ix_list (pv 0) pe_int (fun _ _ => rfl)) (pv 1)))
      (pss_cons (ps_asg (pe_op op_fdiv (pe_ix ix_list (pv 0) pe_int (fun _ _ => rfl)) (pv 1)) (pg_sub (pv 0) pe_int set_list))
      (pss_one (ps_ret (pv 2))))) pss_nil)
      (pss_cons (ps_set (i := 3) scQDraw.nd rfl (Or.inl rfl) (pe_ix ix_list (pv 0) pe_int (fun _ _ => rfl)))
      (pss_cons (ps_asg (pe_op op_add (pv 3) pe_int) (pg_sub (pv 0) pe_int set_list))
      (pss_cons (ps_set (i := 4) scQDraw.nd rfl (Or.inl rfl) (pe_op op_add (pe_op op_mul pe_int (pv 3)) pe_int))
      (pss_cons (ps_if (pt_cmpR (op_neD hr.units) (pe_ix ix_list (pv 0) pe_int (fun _ _ => rfl)) (pe_lst pa_nil) (nomark _)) (pss_one (ps_set (i := 4) scQDraw.nd rfl (Or.inl rfl) (pe_ix ix_list (pe_ix ix_list (pv 0) pe_int (fun _ _ => rfl)) (pe_op op_mod (pv 3) (pe_callB call_len_seq (by rfl) T.b_len boot'_len (pa_cons (pe_ix ix_list (pv 0) pe_int (fun _ _ => rfl)) pa_nil))) (fun _ _ => rfl)))) pss_nil)
      (pss_cons (ps_if ((pw_and (pt_cmpR op_lt (pv 3) (pe_callB call_len_seq (by rfl) T.b_len boot'_len (pa_cons (pe_ix ix_list (pv 0) pe_int (fun _ _ => rfl)) pa_nil)) (nomark _)) (pw_and1 (pt_cmpR op_ge (pe_callB call_abs (by rfl) T.b_abs boot'_abs (pa_cons (pv 4) pa_nil)) (pe_op op_pow pe_int pe_int) (nomark _))))).pt (pss_cons (ps_set (i := 5) scQDraw.nd rfl (Or.inl rfl) (pe_op op_add (pe_op op_mul pe_int (pe_callB call_abs (by rfl) T.b_abs boot'_abs (pa_cons (pv 4) pa_nil))) (pe_callTy call_int1 (by rfl) T.b_int boot'_int (pa_cons (pe_cmpR op_lt (pv 4) pe_int (nomark _)) pa_nil))))
      (pss_cons (ps_asg (pe_op op_fdiv (pv 5) (pv 1)) (pg_sub (pv 0) pe_int set_list))
      (pss_one (ps_ret (pe_op op_mod (pv 5) (pv 1)))))) pss_nil)
      (pss_cons (ps_set (i := 6) scQDraw.nd rfl (Or.inl rfl) (pe_op op_mod (pe_op op_pow (pe_op op_add (pe_op op_add (pe_op op_mod (pv 4) pe_int) (pe_op op_mul pe_int (pv 3))) pe_int) pe_int) pe_int))
      (pss_cons (ps_set (i := 6) scQDraw.nd rfl (Or.inl rfl) (pe_op op_mod (pe_op op_pow (pe_op op_add (pe_op op_mul (pv 6) (pe_op op_add (pe_op op_mul pe_int (pv 3)) pe_int)) (pe_op op_mul (pe_op op_mul pe_int (pv 3)) (pv 3))) pe_int) pe_int))
      (pss_one (ps_ret (pe_op op_mod (pe_op op_fdiv (pv 6) pe_int) (pv 1)))))))))))), ?_⟩
    refine x_start (σ' := [some (.ref p), some (.int m), none, none, none, none, none]) rfl ?_
    dsimp only [cxOf]
    have fin : ∀ d H1 pl' r', 0 ≤ d → d < m → Kx [p] H H1 → H1 p = some (.lst [.ref c, .int pl', .int r']) → 0 ≤ pl' → pl' ≤ pl + 1 → 0 ≤ r' → Q (.int d) H1 := by
      intro d H1 pl' r' a1 a2 a3 a4 a5 a6 a7
      exact k d H1 a1 a2 a3 ⟨cs, pl', r', a4, a3 c _ (by simpa using ncp) hcs, hl, a5, by omega, a7⟩
    have kx : ∀ o, Kx [p] H (upd H p o) := fun o => (Kx.refl _ _).wr (.inr (by simp))
    repeat walk_at "rd"
    refine ite2 (fun hc => ?_) (fun hc => ?_)
    · repeat walk_at "rd"
      exact fin _ _ pl (r / m) (Int.emod_nonneg _ (by omega)) (Int.emod_lt_of_pos _ hm0) (kx _) upd_same h0 (by omega) (Int.ediv_nonneg h2 (by omega))
    · repeat walk_at "rd"
      generalize hH1 : upd H p (.lst [.ref c, .int (pl + 1), .int r]) = H1
      rename_i q nq
      rw [hH1] at nq
      have p1 : H1 p = some (.lst [.ref c, .int (pl + 1), .int r]) := by rw [← hH1]; exact upd_same
      have k1 : Kx [p] H H1 := by rw [← hH1]; exact kx _
      generalize hH2 : upd H1 q (.lst []) = H2
      have p2 : H2 p = some (.lst [.ref c, .int (pl + 1), .int r]) := by rw [← hH2]; exact lk_ne p1 nq
      have c2 : H2 c = some (.lst (cs.map V.int)) := by rw [← hH2]; exact lk_ne (k1 c _ (by simpa using ncp) hcs) nq
      have q2 : H2 q = some (.lst []) := by rw [← hH2]; exact upd_same
      have k2 : Kx [p] H H2 := by rw [← hH2]; exact k1.new nq
      repeat walk_at "rd"
      refine ite2 (fun hc2 => ?_) (fun hc2 => ?_)
      · obtain ⟨hz0, z, hz⟩ := at_mod (cs := cs) pl (by simpa using hc2)
        repeat walk_at "rd"
        refine ite2 (fun hc3 => ?_) (fun hc3 => ?_)
        · repeat walk_at "rd"
          refine ite2 (fun hc4 => ?_) (fun hc4 => ?_)
          · repeat walk_at "rd"
            refine fin _ _ (pl + 1) _ (Int.emod_nonneg _ (by omega)) (Int.emod_lt_of_pos _ hm0) (k2.wr (.inr (by simp))) upd_same (by omega) (by omega) (Int.ediv_nonneg ?_ (by omega))
            split <;> split <;> omega
          · repeat walk_at "rd"
            exact fin _ _ (pl + 1) r (Int.emod_nonneg _ (by omega)) (Int.emod_lt_of_pos _ hm0) k2 p2 (by omega) (by omega) h2
        · repeat walk_at "rd"
          exact fin _ _ (pl + 1) r (Int.emod_nonneg _ (by omega)) (Int.emod_lt_of_pos _ hm0) k2 p2 (by omega) (by omega) h2
      · repeat walk_at "rd"
        refine ite2 (fun hc3 => ?_) (fun hc3 => ?_)
        · repeat walk_at "rd"
          refine ite2 (fun hc4 => ?_) (fun hc4 => ?_)
          · repeat walk_at "rd"
            refine fin _ _ (pl + 1) _ (Int.emod_nonneg _ (by omega)) (Int.emod_lt_of_pos _ hm0) (k2.wr (.inr (by simp))) upd_same (by omega) (by omega) (Int.ediv_nonneg ?_ (by omega))
            split <;> split <;> omega
          · repeat walk_at "rd"
            exact fin _ _ (pl + 1) r (Int.emod_nonneg _ (by omega)) (Int.emod_lt_of_pos _ hm0) k2 p2 (by omega) (by omega) h2
        · repeat walk_at "rd"
          exact fin _ _ (pl + 1) r (Int.emod_nonneg _ (by omega)) (Int.emod_lt_of_pos _ hm0) k2 p2 (by omega) (by omega) h2
end

end Xtra

section
variable {P : Program} {w : World} {K : PySem.W.Frag} {mg : Str → Option Value} {base : Heap}
def spPen (K : PySem.W.Frag) : Sp := fun vs H Q _ => ∃ (a : Addr) (ns : List Int), vs = [.ref a] ∧ SqL K H a (ns.map V.int) ∧
  ∀ p c H', H p = none → H c = none → Kx [] H H' → PenAt H' p c 0 → Q (.ref p) H'
theorem ok_pen {f : Addr} {fd : FuncData} (F : Fun K "_law_pen" "_law_pen" sQPen f fd) (T : Txt mg) : FnOk P w K mg base CX0 1 f fd ["_law_script"] (spPen K) := by
  refine F.ok scQPen (fun vs H Q E h => ?_) (fun cdv A outer s H vs Q E hr h => ?_)
  · obtain ⟨a, ns, rfl, _⟩ := h
    rfl
  · obtain ⟨a, ns, rfl, ha, k⟩ := h
    refine ⟨_, (pss_one (ps_ret (pe_lst (pa_cons (pe_callTy call_list_of (by rfl) T.b_list boot'_list (pa_cons (pe_slice sl_list (pv 0) po_none (po_some pe_int)) pa_nil)) (pa_cons pe_int (pa_cons pe_int pa_nil)))))), ?_⟩
    refine x_start (σ' := [some (.ref a)]) rfl ?_
    dsimp only [cxOf]
    repeat walk_at "rd"
    intro t nt
    rw [cut63, ← List.map_take]
    repeat walk_at "rd"
    intro c nc
    repeat walk_at "rd"
    rename_i p np
    have ntc : t ≠ c := ne_of_none upd_same nc
    have ncp : c ≠ p := ne_of_none upd_same np
    have nc0 : H c = none := by rwa [upd_ne ntc.symm] at nc
    have np0 : H p = none := by
      have e1 := np
      rw [upd_ne ncp.symm] at e1
      exact ((Kx.refl [] H).new nt).fresh (by simp) e1
    refine k p c _ np0 nc0 ((((Kx.refl [] H).new nt).new nc).new np) ⟨ns.take 63, 0, 0, upd_same, ?_, ?_, by omega, by omega, by omega⟩
    · rw [upd_ne ncp, upd_same]
    · rw [List.length_take]
      exact Nat.min_le_left _ _
theorem x_draw {H : Hp} {p c : Addr} {n : Nat} {m : Int} {Q : VK} {E : XK} (h : PenAt H p c n) (hn : n < 1000000) (h0 : 0 < m) (h1 : m < 100000000)
    (q : ∀ d H', 0 ≤ d → d < m → Kx [p] H H' → PenAt H' p c (n + 1) → Q (.int d) H') : spDraw ([V.ref p, V.int m] ++ []) H Q E := ⟨p, c, n, m, rfl, h, hn, h0, h1, q⟩
def spShuf (K : PySem.W.Frag) : Sp := fun vs H Q _ => ∃ (p c a : Addr) (n : Nat) (xs : List V), vs = [.ref p, .ref a] ∧ PenAt H p c n ∧ SqL K H a xs ∧ a ≠ p ∧ xs.length ≤ 1000 ∧ n ≤ 900000 ∧
  ∀ l ys H', H l = none → ys.Perm xs → Kx [p] H H' → H' l = some (.lst ys) → PenAt H' p c (n + xs.length) → Q (.ref l) H'
theorem ins_perm {ys : List V} {v : V} {i : Nat} : (ys.take i ++ [v] ++ ys.drop i).Perm (ys ++ [v]) := by
  have e : (ys.take i ++ [v] ++ ys.drop i) = ys.take i ++ ([v] ++ ys.drop i) := by rw [List.append_assoc]
  rw [e]
  refine (List.Perm.append_left _ List.perm_append_comm).trans ?_
  rw [← List.append_assoc, List.take_append_drop]
theorem PenAt.up {H H' : Hp} {p c : Addr} {n m : Nat} (h : PenAt H p c n) (e1 : H' p = H p) (e2 : H' c = H c) (l : n ≤ m) : PenAt H' p c m := by
  obtain ⟨cs, pl, r, h1, h2, h3, h4, h5, h6⟩ := h
  exact ⟨cs, pl, r, e1.trans h1, e2.trans h2, h3, h4, by omega, h6⟩
theorem PenAt.keep {H H' : Hp} {S : List Addr} {p c : Addr} {n m : Nat} (h : PenAt H p c n) (k : Kx S H H') (hp : p ∉ S) (hc : c ∉ S) (l : n ≤ m) : PenAt H' p c m := by
  obtain ⟨cs, pl, r, h1, h2, h3, h4, h5, h6⟩ := h
  exact ⟨cs, pl, r, k _ _ hp h1, k _ _ hc h2, h3, h4, by omega, h6⟩
theorem PenAt.some {H : Hp} {p c : Addr} {n : Nat} (h : PenAt H p c n) : (∃ o, H p = some o) ∧ ∃ o, H c = some o := by
  obtain ⟨cs, pl, r, h1, h2, _⟩ := h
  exact ⟨⟨_, h1⟩, _, h2⟩
theorem ok_shuf {f : Addr} {fd : FuncData} (F : Fun K "_law_shuffled" "_law_shuffled" sQShuffled f fd) (T : Txt mg) (l_law_draw : Lo P w K mg base "_law_draw" 1 ["_law_pen_here", "_law_most_one"] spDraw) :
    FnOk P w K mg base CX0 2 f fd ["_law_pen_here", "_law_row"] (spShuf K) := by
  refine F.ok scQShuffled (fun vs H Q E h => ?_) (fun cdv A outer s H vs Q E hr h => ?_)
  · obtain ⟨p, c, a, n, xs, rfl, _⟩ := h
    rfl
  · obtain ⟨p, c, a, n, xs, rfl, hpen, ha, nap, hlen, hn, k⟩ := h
    refine ⟨_, (pss_cons (ps_set (i := 2) scQShuffled.nd rfl (Or.inl rfl) (pe_lst pa_nil))
      (pss_cons (ps_for PassesOwn.never rfl (pi_list (pv 1)) (pg_name (i := 3) scQShuffled.nd rfl (Or.inl rfl))
      (pss_one (ps_expr (pe_bm PySem.F.plainAttrs_list PySem.F.slot_list_insert PySem.F.type_list_insert mt_insert (pv 2) (pa_cons (pe_lo l_law_draw (hr.mono (by decide)) (by rfl) (pa_cons (pv 0) (pa_cons (pe_op op_add (pe_callB call_len_seq (by rfl) T.b_len boot'_len (pa_cons (pv 2) pa_nil)) pe_int) pa_nil))) (pa_cons (pv 3) pa_nil))))))
      (pss_one (ps_ret (pv 2))))), ?_⟩
    refine x_start (σ' := [some (.ref p), some (.ref a), none, none]) rfl ?_
    dsimp only [cxOf]
    repeat walk_at "rd"
    rename_i l nl
    obtain ⟨⟨op, hp⟩, oc, hc⟩ := hpen.some
    have nlp : l ≠ p := (ne_of_none hp nl).symm
    have nlc : l ≠ c := (ne_of_none hc nl).symm
    have k0 : Kx [p] H (upd H l (.lst [])) := (Kx.refl _ _).new nl
    refine y_forL (xs := xs) (k0.sqL (by simpa using nap) ha) ⟨fun i σ H1 => ∃ ys y3, σ = [some (.ref p), some (.ref a), some (.ref l), y3] ∧ ys.Perm (xs.take i) ∧ Kx [p] H H1 ∧ H1 l = some (.lst ys) ∧ PenAt H1 p c (n + i),
      ⟨[], none, rfl, by simp, k0, upd_same, hpen.keep ((Kx.refl [] H).new nl) (by simp) (by simp) (by omega)⟩, ?_, ?_, ?_⟩
    · rintro i σ H1 hi ⟨ys, y3, rfl, hys, k1, hl, hp1⟩
      exact k1.sqL (by simpa using nap) ha
    · rintro i x σ H1 H1' hi ⟨ys, y3, rfl, hys, k1, hl, hp1⟩ ⟨rfl, hx⟩
      have hyl : ys.length = i := by
        rw [hys.length_eq, List.length_take]
        omega
      repeat walk_at "rd"
      refine ⟨ty_list (SqL.of hl), ?_⟩
      repeat walk_at "rd"
      refine x_draw hp1 (by omega) (by omega) (by omega) fun d H2 d0 d1 k2 hp2 => ?_
      have hl2 : H2 l = some (.lst ys) := k2 l _ (by simpa using nlp) hl
      repeat walk_at "rd"
      refine ⟨_, _, rfl, ins_perm.trans ?_, (k1.trans k2).wr (.inl nl), upd_same, ?_⟩
      · rw [List.take_add_one, hx]
        exact hys.append_right _
      · exact hp2.up (upd_ne nlp.symm) (upd_ne nlc.symm) (by omega)
    · rintro σ H1 ⟨ys, y3, rfl, hys, k1, hl, hp1⟩
      repeat walk_at "rd"
      exact k l ys H1 nl (by simpa using hys) k1 hl hp1
end

section
variable {P : Program} {w : World} {K : PySem.W.Frag} {mg : Str → Option Value} {base : Heap}
/-- the rows that stand at rs, the list of them at R; all of it new since H0 -/
structure RowsI (H0 H : Hp) (R : Addr) (rs : List Addr) (rows : List (List V)) (live : List Int) (B : Nat) : Prop where
  hR : H R = some (.lst (rs.map V.ref))
  len : rows.length = rs.length
  nd : rs.Nodup
  fr : ∀ r ∈ rs, H0 r = none
  frR : H0 R = none
  nR : R ∉ rs
  at_ : ∀ (i : Nat) (r : Addr) (row : List V), rs[i]? = some r → rows[i]? = some row → H r = some (.lst row)
  good : ∀ row ∈ rows, row.length ≤ B ∧ ∀ v ∈ row, v = .non ∨ ∃ z ∈ live, v = V.int z
theorem RowsI.mono {H0 H : Hp} {R : Addr} {rs : List Addr} {rows : List (List V)} {live : List Int} {B B' : Nat} (h : RowsI H0 H R rs rows live B) (l : B ≤ B') : RowsI H0 H R rs rows live B' :=
  ⟨h.hR, h.len, h.nd, h.fr, h.frR, h.nR, h.at_, fun row hr => ⟨Nat.le_trans (h.good row hr).1 l, (h.good row hr).2⟩⟩
theorem RowsI.keep {H0 H H' : Hp} {S : List Addr} {R : Addr} {rs : List Addr} {rows : List (List V)} {live : List Int} {B : Nat} (h : RowsI H0 H R rs rows live B) (k : Kx S H H') (hS : ∀ b ∈ S, ∃ o, H0 b = some o) : RowsI H0 H' R rs rows live B := by
  have hn : ∀ b, H0 b = none → b ∉ S := fun b hb z => by
    obtain ⟨o, ho⟩ := hS b z
    rw [hb] at ho
    cases ho
  exact ⟨k _ _ (hn _ h.frR) h.hR, h.len, h.nd, h.fr, h.frR, h.nR, fun i r row h1 h2 => k _ _ (hn _ (h.fr r (List.mem_of_getElem? h1))) (h.at_ i r row h1 h2), h.good⟩
theorem RowsI.wr {H0 H : Hp} {R r : Addr} {rs : List Addr} {rows : List (List V)} {live : List Int} {B : Nat} {i : Nat} {row' : List V} (h : RowsI H0 H R rs rows live B) (hr : rs[i]? = some r) (hl : row'.length ≤ B)
    (hv : ∀ v ∈ row', v = .non ∨ ∃ z ∈ live, v = V.int z) : RowsI H0 (upd H r (.lst row')) R rs (rows.set i row') live B := by
  have hm : r ∈ rs := List.mem_of_getElem? hr
  refine ⟨?_, by rw [List.length_set]; exact h.len, h.nd, h.fr, h.frR, h.nR, ?_, ?_⟩
  · rw [upd_ne (fun e => h.nR (by rw [e]; exact hm))]
    exact h.hR
  · intro j q row hj hrow
    by_cases e : j = i
    · subst e
      rw [hr] at hj
      have e2 : r = q := Option.some.inj hj
      subst e2
      have hi : j < rows.length := by
        rw [h.len]
        exact (List.getElem?_eq_some_iff.mp hr).1
      rw [List.getElem?_set_self hi] at hrow
      rw [← Option.some.inj hrow]
      exact upd_same
    · have nq : q ≠ r := by
        rintro rfl
        exact e ((List.getElem?_inj (List.getElem?_eq_some_iff.mp hj).1 h.nd).mp (hj.trans hr.symm))
      rw [List.getElem?_set_ne (Ne.symm e)] at hrow
      rw [upd_ne nq]
      exact h.at_ j q row hj hrow
  · intro row hrow
    rcases List.mem_or_eq_of_mem_set hrow with z | rfl
    · exact h.good row z
    · exact ⟨hl, hv⟩
theorem RowsI.get {H0 H : Hp} {R : Addr} {rs : List Addr} {rows : List (List V)} {live : List Int} {B : Nat} {z : Int} (h : RowsI H0 H R rs rows live B) (h0 : 0 ≤ z) (h1 : z < rs.length) :
    ∃ (i : Nat) (r : Addr) (row : List V), z = i ∧ rs[i]? = some r ∧ rows[i]? = some row ∧ H r = some (.lst row) ∧ atI (rs.map V.ref) z = some (.ref r) ∧ H0 r = none := by
  obtain ⟨i, rfl⟩ : ∃ i : Nat, z = i := ⟨z.toNat, by omega⟩
  have hi : i < rs.length := by omega
  have hi2 : i < rows.length := by rw [h.len]; exact hi
  have e1 := List.getElem?_eq_getElem hi
  have e2 := List.getElem?_eq_getElem hi2
  refine ⟨i, rs[i], rows[i], rfl, e1, e2, h.at_ i _ _ e1 e2, atI_nat ?_, h.fr _ (List.getElem_mem hi)⟩
  rw [List.getElem?_map, e1]
  rfl
theorem at_ints {zs : List Int} {w : Int} (h0 : 0 ≤ w) (h1 : w < zs.length) : ∃ z ∈ zs, zs[w.toNat]? = some z ∧ atI (zs.map V.int) w = some (.int z) := by
  obtain ⟨i, rfl⟩ : ∃ i : Nat, w = i := ⟨w.toNat, by omega⟩
  have hi : i < zs.length := by omega
  have e1 := List.getElem?_eq_getElem hi
  refine ⟨zs[i], List.getElem_mem hi, by simpa using e1, atI_nat ?_⟩
  rw [List.getElem?_map, e1]
  rfl
def spLinked (K : PySem.W.Frag) : Sp := fun vs H Q _ => ∃ (p c a : Addr) (n : Nat) (ls : List Int) (al : Nat), vs = [.ref p, .ref a, .int al] ∧ PenAt H p c n ∧ SqL K H a (ls.map V.int) ∧ a ≠ p ∧ ls.length ≤ 40 ∧ (∀ z ∈ ls, 0 ≤ z ∧ z < ls.length) ∧ 1 ≤ al ∧ al ≤ ls.length ∧ n ≤ 900000 ∧
  ∀ R rs rows H', RowsI H H' R rs rows (ls.take al) 40 → rs.length = ls.length → Kx [p] H H' → PenAt H' p c (n + 400) → Q (.ref R) H'
theorem ok_linked {f : Addr} {fd : FuncData} (F : Fun K "_law_linked" "_law_linked" sQLinked f fd) (T : Txt mg) (l_law_draw : Lo P w K mg base "_law_draw" 1 ["_law_pen_here", "_law_most_one"] spDraw) :
    FnOk P w K mg base CX0 2 f fd ["_law_pen_here", "_law_labels", "_law_alive"] (spLinked K) := by
  refine F.ok scQLinked (fun vs H Q E h => ?_) (fun cdv A outer s H vs Q E hr h => ?_)
  · obtain ⟨p, c, a, n, ls, al, rfl, _⟩ := h
    rfl
  · obtain ⟨p, c, a, n, ls, al, rfl, hpen, ha, nap, hN, hls, hal, hal2, hn, k⟩ := h
    refine ⟨_, (pss_cons (ps_setLc (i := 3) (own := [("_law_label", 14)]) rfl scQLinked.nd rfl rfl (sw_true rfl rfl rfl (by decide +kernel)) (pi_list (pv 1)) (blkOk_by (N := ["_law_pen_here", "_law_labels", "_law_alive", "_law_rows", "_law_way", "_law_place", "_law_near", "_law_back", "_law_row", "_law_forward", "_law_turn", "_law_one", "_law_other", "_law_entry", "_law_label"]) (sc := defScope sQLinked) (by decide +kernel)) (fun _ _ _ _ _ => (pg_name (i := 14) scQLinked.nd rfl (Or.inl rfl))) (fun _ _ _ _ _ => pts_nil) (fun _ _ _ _ _ => (pe_lst pa_nil)))
      (pss_cons (ps_set (i := 4) scQLinked.nd rfl (Or.inl rfl) (pe_lo l_law_draw (hr.mono (by decide)) (by rfl) (pa_cons (pv 0) (pa_cons pe_int pa_nil))))
      (pss_cons (ps_for PassesOwn.never rfl (pi_range2 (by rfl) T.b_range (pa_cons pe_int (pa_cons (pv 2) pa_nil))) (pg_name (i := 5) scQLinked.nd rfl (Or.inl rfl))
      (pss_cons (ps_set (i := 6) scQLinked.nd rfl (Or.inl rfl) (pe_op op_add pe_int (pe_lo l_law_draw (hr.mono (by decide)) (by rfl) (pa_cons (pv 0) (pa_cons (pe_callB (call_min2 rfl) (by rfl) T.b_min boot'_min (pa_cons (pv 5) (pa_cons pe_int pa_nil))) pa_nil)))))
      (pss_cons (ps_set (i := 7) scQLinked.nd rfl (Or.inl rfl) (pe_ix ix_list (pe_lst (pa_cons pe_int (pa_cons (pv 5) (pa_cons (pv 6) (pa_cons (pe_op op_add pe_int (pe_lo l_law_draw (hr.mono (by decide)) (by rfl) (pa_cons (pv 0) (pa_cons (pv 5) pa_nil)))) (pa_cons (pv 6) pa_nil)))))) (pv 4) (fun _ _ => rfl)))
      (pss_cons (ps_set (i := 8) scQLinked.nd rfl (Or.inl rfl) (pe_ix ix_list (pv 3) (pe_ix ix_list (pv 1) (pe_op op_sub (pv 5) (pv 7)) (fun _ _ => rfl)) (fun _ _ => rfl)))
      (pss_one (ps_expr (pe_bm PySem.F.plainAttrs_list PySem.F.slot_list_insert PySem.F.type_list_insert mt_insert (pv 8) (pa_cons (pe_lo l_law_draw (hr.mono (by decide)) (by rfl) (pa_cons (pv 0) (pa_cons (pe_op op_add (pe_callB call_len_seq (by rfl) T.b_len boot'_len (pa_cons (pv 8) pa_nil)) pe_int) pa_nil))) (pa_cons (pe_ix ix_list (pv 1) (pv 5) (fun _ _ => rfl)) pa_nil)))))))))
      (pss_cons (ps_set (i := 9) scQLinked.nd rfl (Or.inl rfl) (pe_lo l_law_draw (hr.mono (by decide)) (by rfl) (pa_cons (pv 0) (pa_cons pe_int pa_nil))))
      (pss_cons (ps_for PassesOwn.never rfl (pi_range1 (by rfl) T.b_range (pa_cons (pe_ix ix_list (pe_lst (pa_cons pe_int (pa_cons (pe_lo l_law_draw (hr.mono (by decide)) (by rfl) (pa_cons (pv 0) (pa_cons pe_int pa_nil))) (pa_cons (pe_op op_fdiv (pv 2) pe_int) (pa_cons (pv 2) pa_nil))))) (pe_lo l_law_draw (hr.mono (by decide)) (by rfl) (pa_cons (pv 0) (pa_cons pe_int pa_nil))) (fun _ _ => rfl)) pa_nil)) (pg_name (i := 10) scQLinked.nd rfl (Or.inl rfl))
      (pss_cons (ps_par (i := 11) (j := 12) rfl scQLinked.nd rfl rfl (by decide) rfl rfl (pa_cons (pe_lo l_law_draw (hr.mono (by decide)) (by rfl) (pa_cons (pv 0) (pa_cons (pv 2) pa_nil))) (pa_cons (pe_lo l_law_draw (hr.mono (by decide)) (by rfl) (pa_cons (pv 0) (pa_cons (pv 2) pa_nil))) pa_nil)) (by rfl))
      (pss_cons (ps_if (pt_cmpR op_eq (pv 9) pe_int (nomark _)) (pss_one (ps_par (i := 11) (j := 12) rfl scQLinked.nd rfl rfl (by decide) rfl rfl (pa_cons (pe_callB (call_min2 rfl) (by rfl) T.b_min boot'_min (pa_cons (pv 11) (pa_cons (pv 12) pa_nil))) (pa_cons (pe_callB (call_max2 rfl) (by rfl) T.b_max boot'_max (pa_cons (pv 11) (pa_cons (pv 12) pa_nil))) pa_nil)) (by rfl))) pss_nil)
      (pss_cons (ps_set (i := 13) scQLinked.nd rfl (Or.inl rfl) (pe_ix ix_list (pe_lst (pa_cons (pe_ix ix_list (pv 1) (pv 12) (fun _ _ => rfl)) (pa_cons pe_non pa_nil))) (pe_callTy call_int1 (by rfl) T.b_int boot'_int (pa_cons (pe_or (pe_cmpR op_eq (pe_lo l_law_draw (hr.mono (by decide)) (by rfl) (pa_cons (pv 0) (pa_cons pe_int pa_nil))) pe_int (nomark _)) (pe_one (pe_and (pe_cmpR op_eq (pv 9) pe_int (nomark _)) (pe_one (pe_cmpR op_eq (pv 11) (pv 12) (nomark _)))))) pa_nil)) (fun _ _ => rfl)))
      (pss_cons (ps_set (i := 8) scQLinked.nd rfl (Or.inl rfl) (pe_ix ix_list (pv 3) (pe_ix ix_list (pv 1) (pv 11) (fun _ _ => rfl)) (fun _ _ => rfl)))
      (pss_one (ps_if (pt_cmpR op_lt (pe_callB call_len_seq (by rfl) T.b_len boot'_len (pa_cons (pv 8) pa_nil)) pe_int (nomark _)) (pss_one (ps_expr (pe_bm PySem.F.plainAttrs_list PySem.F.slot_list_insert PySem.F.type_list_insert mt_insert (pv 8) (pa_cons (pe_lo l_law_draw (hr.mono (by decide)) (by rfl) (pa_cons (pv 0) (pa_cons (pe_op op_add (pe_callB call_len_seq (by rfl) T.b_len boot'_len (pa_cons (pv 8) pa_nil)) pe_int) pa_nil))) (pa_cons (pv 13) pa_nil))))) pss_nil)))))))
      (pss_one (ps_ret (pv 3)))))))), ?_⟩
    refine x_start (σ' := [some (.ref p), some (.ref a), some (.int al), none, none, none, none, none, none, none, none, none, none, none, none]) rfl ?_
    dsimp only [cxOf]
    obtain ⟨⟨op, hp⟩, oc, hc⟩ := hpen.some
    repeat walk_at "rd"
    refine y_lcL (xs := ls.map V.int) ha (fun R nR => ⟨fun i H1 => ∃ rs : List Addr, rs.length = i ∧ H1 R = some (.lst (rs.map V.ref)) ∧ rs.Nodup ∧ R ∉ rs ∧ (∀ r ∈ rs, H r = none ∧ H1 r = some (.lst [])) ∧ Kx [] H H1,
      ⟨[], rfl, upd_same, List.nodup_nil, by simp, by simp, (Kx.refl _ _).new nR⟩, ?_, ?_, ?_⟩)
    · rintro i H1 hi ⟨rs, _, _, _, _, _, k1⟩
      exact k1.sqL (by simp) ha
    · rintro i x H1 H1' hi ⟨rs, e1, e2, e3, e4, e5, k1⟩ ⟨rfl, hx⟩
      rw [List.length_map] at hi
      repeat walk_at "rd"
      refine ⟨rfl, ?_⟩
      repeat walk_at "rd"
      rename_i q nq
      have nqR : q ≠ R := (ne_of_none e2 nq).symm
      refine ⟨rs.map V.ref, lk_ne e2 nq, small1000 (by rw [List.length_map]; omega), rs ++ [q], by rw [List.length_append, e1]; rfl, ?_, ?_, ?_, ?_, ?_⟩
      · rw [upd_same, List.map_append]
        rfl
      · rw [List.nodup_append]
        refine ⟨e3, by simp, ?_⟩
        intro b hb b2 hb2
        rw [List.mem_singleton.mp hb2]
        exact ne_of_none (e5 b hb).2 nq
      · simp only [List.mem_append, List.mem_singleton, not_or]
        exact ⟨e4, nqR.symm⟩
      · intro r hr
        rcases List.mem_append.mp hr with z | z
        · have nrR : r ≠ R := fun e => e4 (e ▸ z)
          exact ⟨(e5 r z).1, by rw [upd_ne nrR]; exact lk_ne (e5 r z).2 nq⟩
        · rw [List.mem_singleton.mp z]
          exact ⟨k1.fresh (by simp) nq, by rw [upd_ne nqR]; exact upd_same⟩
      · exact (k1.new nq).wr (.inl nR)
    rintro H1 ⟨rs, e1, e2, e3, e4, e5, k1⟩
    rw [List.length_map] at e1
    have I1 : RowsI H H1 R rs (rs.map fun _ => []) (ls.take al) 0 := by
      refine ⟨e2, by rw [List.length_map], e3, fun r hr => (e5 r hr).1, nR, e4, ?_, ?_⟩
      · intro i r row h1 h2
        rw [List.getElem?_map, h1] at h2
        rw [← Option.some.inj h2]
        exact (e5 r (List.mem_of_getElem? h1)).2
      · intro row hrow
        obtain ⟨_, _, rfl⟩ := List.mem_map.mp hrow
        exact ⟨Nat.le_refl _, by simp⟩
    have P1 : PenAt H1 p c n := hpen.keep k1 (by simp) (by simp) (Nat.le_refl _)
    have K1 : Kx [p] H H1 := k1.mono (by simp)
    clear e2 e3 e4 e5 k1
    repeat walk_at "rd"
    refine x_draw P1 (by omega) (by omega) (by omega) fun way H2 w0 w1 k2 P2 => ?_
    replace K1 := K1.trans k2
    replace I1 := I1.keep k2 (by simpa using ⟨_, hp⟩)
    clear k2 P1
    repeat walk_at "rd"
    have hnp : ∀ b, H b = none → b ≠ p := fun b hb e => by
      rw [e, hp] at hb
      cases hb
    have hlab : ∀ {w : Int}, 0 ≤ w → w < al → ∃ z, z ∈ ls.take al ∧ 0 ≤ z ∧ z < rs.length ∧ atI (ls.map V.int) w = some (.int z) := by
      intro w hw0 hw1
      obtain ⟨z, hz, hz1, hz2⟩ := at_ints (zs := ls) hw0 (by omega)
      refine ⟨z, ?_, (hls z hz).1, by rw [e1]; exact (hls z hz).2, hz2⟩
      exact List.mem_of_getElem? (i := w.toNat) (by rw [List.getElem?_take_of_lt (by omega)]; exact hz1)
    have hlist : ∀ {H1 : Hp}, Kx [p] H H1 → SqL K H1 a (ls.map V.int) := fun k1 => k1.sqL (by simpa using nap) ha
    refine y_forR2 (by omega) (by omega) (by omega) (by omega) ⟨fun i σ H3 => ∃ rows y5 y6 y7 y8, σ = [some (.ref p), some (.ref a), some (.int al), some (.ref R), some (.int way), y5, y6, y7, y8, none, none, none, none, none, none] ∧
      RowsI H H3 R rs rows (ls.take al) i ∧ Kx [p] H H3 ∧ PenAt H3 p c (n + 1 + 3 * i), ⟨_, none, none, none, none, rfl, I1, K1, P2⟩, fun _ _ _ _ _ => trivial, ?_, ?_⟩
    · rintro i x σ H3 H3' hi ⟨rows, y5, y6, y7, y8, rfl, I3, K3, P3⟩ ⟨rfl, rfl⟩
      have hi2 : 1 + (i : Int) < al := by omega
      repeat walk_at "rd"
      refine x_draw P3 (by omega) (by split <;> omega) (by split <;> omega) fun d1 H4 a0 a1 k4 P4 => ?_
      replace K3 := K3.trans k4
      replace I3 := I3.keep k4 (by simpa using ⟨_, hp⟩)
      clear k4 P3
      repeat walk_at "rd"
      refine x_draw P4 (by omega) (by omega) (by omega) fun d2 H5 b0 b1 k5 P5 => ?_
      replace K3 := K3.trans k5
      replace I3 := I3.keep k5 (by simpa using ⟨_, hp⟩)
      clear k5 P4
      have ha1 : d1 < 1 + (i : Int) ∧ d1 < 3 := by split at a1 <;> omega
      obtain ⟨back, hat, hb0, hb1⟩ : ∃ back, atI [V.int 1, V.int (1 + (i : Int)), V.int (1 + d1), V.int (1 + d2), V.int (1 + d1)] way = some (.int back) ∧ 1 ≤ back ∧ back ≤ 1 + (i : Int) := by
        obtain ⟨z, hz, _, hz2⟩ := at_ints (zs := [1, 1 + (i : Int), 1 + d1, 1 + d2, 1 + d1]) w0 (by simpa using w1)
        refine ⟨z, hz2, ?_⟩
        simp only [List.mem_cons, List.not_mem_nil, or_false] at hz
        omega
      obtain ⟨z, hz, hz0, hz1, hatz⟩ := hlab (w := 1 + (i : Int) - back) (by omega) (by omega)
      obtain ⟨z', hz', _, _, hatz'⟩ := hlab (w := 1 + (i : Int)) (by omega) (by omega)
      obtain ⟨j, r, row, rfl, hrs, hrow, hr, hatr, hr0⟩ := I3.get hz0 hz1
      have hR := I3.hR
      have nrp := hnp r hr0
      repeat walk_at "rd"
      rename_i q nq
      refine ⟨ty_list (SqL.of (by walk_at "lk")), ?_⟩
      repeat walk_at "rd"
      have hrow' := I3.good row (List.mem_of_getElem? hrow)
      refine x_draw (P5.keep ((Kx.refl [] H5).new nq) (by simp) (by simp) (Nat.le_refl _)) (by omega) (by omega) (by omega) fun d3 H6 c0 c1 k6 P6 => ?_
      have hr6 : H6 r = some (.lst row) := k6 r _ (by simpa using nrp) (lk_ne hr nq)
      replace K3 := (K3.new nq).trans k6
      replace I3 := (I3.keep ((Kx.refl [] H5).new nq) (by simp)).keep k6 (by simpa using ⟨_, hp⟩)
      clear k6 P5
      repeat walk_at "rd"
      refine ⟨_, _, _, _, _, rfl, (I3.mono (Nat.le_succ i)).wr hrs (row' := row.take d3.toNat ++ [V.int z'] ++ row.drop d3.toNat) ?_ ?_, K3.wr (.inl hr0), ?_⟩
      · rw [ins_perm.length_eq, List.length_append, List.length_singleton]
        omega
      · intro v hv
        rcases List.mem_append.mp (ins_perm.mem_iff.mp hv) with hv | hv
        · exact hrow'.2 v hv
        · exact .inr ⟨z', hz', List.mem_singleton.mp hv⟩
      · exact P6.up (upd_ne nrp.symm) (upd_ne (fun e => by rw [← e, hc] at hr0; cases hr0)) (by omega)
    · rintro σ H3 ⟨rows, y5, y6, y7, y8, rfl, I3, K3, P3⟩
      repeat walk_at "rd"
      refine x_draw P3 (by omega) (by omega) (by omega) fun fwd H4 f0 f1 k4 P4 => ?_
      replace K3 := K3.trans k4
      replace I3 := (I3.keep k4 (by simpa using ⟨_, hp⟩)).mono (show (al - 1 : Int).toNat ≤ 40 by omega)
      clear k4 P3
      repeat walk_at "rd"
      refine x_draw P4 (by omega) (by omega) (by omega) fun u1 H5 g0 g1 k5 P5 => ?_
      replace K3 := K3.trans k5
      replace I3 := I3.keep k5 (by simpa using ⟨_, hp⟩)
      clear k5 P4
      repeat walk_at "rd"
      rename_i q nq
      have nqp : q ≠ p := hnp q (K3.fresh (fun z => by rw [List.mem_singleton.mp z] at nq; obtain ⟨⟨o, ho⟩, _⟩ := P5.some; rw [ho] at nq; cases nq) nq)
      refine x_draw (P5.keep ((Kx.refl [] H5).new nq) (by simp) (by simp) (Nat.le_refl _)) (by omega) (by omega) (by omega) fun u2 H6 g2 g3 k6 P6 => ?_
      have hq6 : H6 q = some (.lst [V.int 0, V.int u1, V.int ((al : Int) / 2), V.int al]) := k6 q _ (by simpa using nqp) upd_same
      replace K3 := (K3.new nq).trans k6
      replace I3 := (I3.keep ((Kx.refl [] H5).new nq) (by simp)).keep k6 (by simpa using ⟨_, hp⟩)
      clear k6 P5
      obtain ⟨cnt, hat, hc0, hc1⟩ : ∃ cnt, atI [V.int 0, V.int u1, V.int ((al : Int) / 2), V.int al] u2 = some (.int cnt) ∧ 0 ≤ cnt ∧ cnt ≤ 40 := by
        obtain ⟨z, hz, _, hz2⟩ := at_ints (zs := [0, u1, (al : Int) / 2, (al : Int)]) g2 (by simpa using g3)
        refine ⟨z, hz2, ?_⟩
        simp only [List.mem_cons, List.not_mem_nil, or_false] at hz
        omega
      repeat walk_at "rd"
      refine y_forR1 hc0 (by omega) ⟨fun i σ H7 => ∃ rows y5 y6 y7 y8 y10 y11 y12 y13, σ = [some (.ref p), some (.ref a), some (.int al), some (.ref R), some (.int way), y5, y6, y7, y8, some (.int fwd), y10, y11, y12, y13, none] ∧
        RowsI H H7 R rs rows (ls.take al) 40 ∧ Kx [p] H H7 ∧ PenAt H7 p c (n + 130 + 4 * i), ⟨_, _, _, _, _, none, none, none, none, rfl, I3, K3, P6.keep (Kx.refl [] H6) (by simp) (by simp) (by omega)⟩, fun _ _ _ _ _ => trivial, ?_, ?_⟩
      · rintro i x σ H7 H7' hi ⟨rows, y5, y6, y7, y8, y10, y11, y12, y13, rfl, I3, K3, P3⟩ ⟨rfl, rfl⟩
        have hi2 : i < 40 := by omega
        repeat walk_at "rd"
        refine x_draw P3 (by omega) (by omega) (by omega) fun d1 H4 a0 a1 k4 P4 => ?_
        replace K3 := K3.trans k4
        replace I3 := I3.keep k4 (by simpa using ⟨_, hp⟩)
        clear k4 P3
        repeat walk_at "rd"
        refine x_draw P4 (by omega) (by omega) (by omega) fun d2 H5 b0 b1 k5 P5 => ?_
        replace K3 := K3.trans k5
        replace I3 := I3.keep k5 (by simpa using ⟨_, hp⟩)
        clear k5 P4
        repeat walk_at "rd"
        refine ite2 (fun hf => ?A) (fun hf => ?B)
        case' A =>
          repeat walk_at "rd"
          generalize hone : (if d2 < d1 then d2 else d1) = one
          generalize hoth : (if d2 > d1 then d2 else d1) = oth
          have o0 : 0 ≤ one ∧ one < al := by split at hone <;> omega
          have p0 : 0 ≤ oth ∧ oth < al := by split at hoth <;> omega
        case' B =>
          repeat walk_at "rd"
          have o0 : 0 ≤ d1 ∧ d1 < al := ⟨a0, a1⟩
          have p0 : 0 ≤ d2 ∧ d2 < al := ⟨b0, b1⟩
          generalize d1 = one at o0 ⊢
          generalize d2 = oth at p0 ⊢
        all_goals
          obtain ⟨z, hz, hz0, hz1, hatz⟩ := hlab p0.1 p0.2
          obtain ⟨z', hz', hz0', hz1', hatz'⟩ := hlab o0.1 o0.2
          repeat walk_at "rd"
          rename_i q nq
          have nqp : q ≠ p := hnp q (K3.fresh (fun z => by rw [List.mem_singleton.mp z] at nq; obtain ⟨⟨o, ho⟩, _⟩ := P5.some; rw [ho] at nq; cases nq) nq)
          refine x_draw (P5.keep ((Kx.refl [] H5).new nq) (by simp) (by simp) (Nat.le_refl _)) (by omega) (by omega) (by omega) fun d3 H6 c0 c1 k6 P6 => ?_
          have hq6 : H6 q = some (.lst [V.int z, V.non]) := k6 q _ (by simpa using nqp) upd_same
          replace K3 := (K3.new nq).trans k6
          replace I3 := (I3.keep ((Kx.refl [] H5).new nq) (by simp)).keep k6 (by simpa using ⟨_, hp⟩)
          clear k6 P5
          have hR := I3.hR
          obtain ⟨j, r, row, rfl, hrs, hrow, hr, hatr, hr0⟩ := I3.get hz0' hz1'
          have nrp := hnp r hr0
          have hrow' := I3.good row (List.mem_of_getElem? hrow)
          have gN : V.non = .non ∨ ∃ z ∈ ls.take al, V.non = V.int z := .inl rfl
          have gZ : V.int z = .non ∨ ∃ z' ∈ ls.take al, V.int z = V.int z' := .inr ⟨z, hz, rfl⟩
          repeat walk_at "rd"
          refine ite2 (fun e3 => ?_) (fun e3 => ?_)
          all_goals repeat walk_at "rd"
          all_goals refine ite2 (fun e3 => ?_) (fun e3 => ?_)
          all_goals repeat walk_at "rd"
          any_goals
            generalize decide (V.int one = V.int oth) = bb
            cases bb
          all_goals repeat walk_at "rd"
          any_goals refine ite2 (fun e3 => ?_) (fun e3 => ?_)
          all_goals repeat walk_at "rd"
          any_goals exact ⟨rows, _, _, _, _, _, _, _, _, rfl, I3, K3, P6.keep (Kx.refl [] H6) (by simp) (by simp) (by omega)⟩
          all_goals
            refine ⟨ty_list (SqL.of hr), ?_⟩
            have hlen : (row.length : Int) < 40 := of_decide_eq_true e3
            repeat walk_at "rd"
            refine x_draw P6 (by omega) (by omega) (by omega) fun d4 H8 s0 s1 k8 P8 => ?_
            replace K3 := K3.trans k8
            replace I3 := I3.keep k8 (by simpa using ⟨_, hp⟩)
            have hr8 : H8 r = some (.lst row) := k8 r _ (by simpa using nrp) hr
            clear k8 P6
            repeat walk_at "rd"
            refine ⟨_, _, _, _, _, _, _, _, _, rfl, I3.wr hrs ?_ ?_, K3.wr (.inl hr0), P8.up (upd_ne nrp.symm) (upd_ne (fun e => by rw [← e, hc] at hr0; cases hr0)) (by omega)⟩
            · rw [ins_perm.length_eq, List.length_append, List.length_singleton]
              omega
            · intro v hv
              rcases List.mem_append.mp (ins_perm.mem_iff.mp hv) with hv | hv
              · exact hrow'.2 v hv
              · rw [List.mem_singleton.mp hv]
                first
                  | exact gN
                  | exact gZ
      · rintro σ H7 ⟨rows, y5, y6, y7, y8, y10, y11, y12, y13, rfl, I3, K3, P3⟩
        repeat walk_at "rd"
        exact k R rs rows H7 I3 e1 K3 (P3.keep (Kx.refl [] H7) (by simp) (by simp) (by omega))
end

section
variable {P : Program} {w : World} {K : PySem.W.Frag} {mg : Str → Option Value} {base : Heap}
/-- a row of slots as data, and as values -/
abbrev Rw := List (Option Nat)
def slotV : Option Nat → V
  | none => .non
  | some k => .int k
def rowV (l : Rw) : List V := l.map slotV
/-- a heap at D: its rows (none: free) and its outside references -/
structure HeapAt (K : PySem.W.Frag) (H : Hp) (D : Addr) (slots : List (Option Rw)) (outs : List Int) : Prop where
  ex : ∃ (S O : Addr) (vs : List V), SqT K H D [.ref S, .ref O] ∧ SqT K H S vs ∧ SqT K H O (outs.map V.int) ∧ vs.length = slots.length ∧
    ∀ (i : Nat) (o : Option Rw), slots[i]? = some o → (o = none ∧ vs[i]? = some V.non) ∨ ∃ r row, o = some row ∧ vs[i]? = some (.ref r) ∧ FT H r (rowV row)
structure WfB (b : Int) (slots : List (Option Rw)) (outs : List Int) : Prop where
  len : outs.length = slots.length
  most : slots.length ≤ 40
  free : ∀ m : Nat, slots[m]? = some none → outs[m]? = some 0
  outs : ∀ z ∈ outs, 0 ≤ z ∧ z ≤ b
  row : ∀ row, some row ∈ slots → row.length ≤ 40
  live : ∀ row, some row ∈ slots → ∀ k, some k ∈ row → ∃ r, slots[k]? = some (some r)
abbrev Wf := WfB 9
theorem HeapAt.keep {K : PySem.W.Frag} {H H' : Hp} {D : Addr} {slots : List (Option Rw)} {outs : List Int} (h : HeapAt K H D slots outs) (k : Same H H') : HeapAt K H' D slots outs := by
  obtain ⟨S, O, vs, h1, h2, h3, h4, h5⟩ := h.ex
  have k0 : Kx [] H H' := .same k []
  refine ⟨S, O, vs, k0.sqT (by simp) h1, k0.sqT (by simp) h2, k0.sqT (by simp) h3, h4, fun i o ho => ?_⟩
  rcases h5 i o ho with z | ⟨r, row, e1, e2, ob, e3, e4, e5⟩
  · exact .inl z
  · exact .inr ⟨r, row, e1, e2, ob, k _ _ e3, e4, e5⟩
def spBase (K : PySem.W.Frag) : Sp := fun vs H Q _ => ∃ (p c : Addr) (n : Nat), vs = [.ref p] ∧ PenAt H p c n ∧ n ≤ 800000 ∧
  ∀ (B D : Addr) (lab : Nat) (slots : List (Option Rw)) (outs : List Int) H', H' B = some (.tup [.ref D, .int lab]) → HeapAt K H' D slots outs → Wf slots outs → 1 ≤ slots.length → (∃ (row : Rw) (z : Int), slots[lab]? = some (some row) ∧ outs[lab]? = some z ∧ 1 ≤ z) → Kx [p] H H' → PenAt H' p c (n + 700) → Q (.ref B) H'
def toI : V → Int
  | .int i => i
  | _ => 0
theorem perm_ints {ys : List V} {zs : List Int} (h : ys.Perm (zs.map V.int)) : ∃ ls : List Int, ys = ls.map V.int ∧ ls.Perm zs := by
  refine ⟨ys.map toI, ?_, ?_⟩
  · rw [List.map_map]
    have : ∀ y ∈ ys, (V.int ∘ toI) y = y := by
      intro y hy
      obtain ⟨z, _, rfl⟩ := List.mem_map.mp (h.mem_iff.mp hy)
      rfl
    rw [List.map_congr_left this, List.map_id']
  · have e := h.map toI
    rw [List.map_map] at e
    have e2 : zs.map (toI ∘ V.int) = zs := by
      rw [show (toI ∘ V.int) = id from rfl, List.map_id]
    rwa [e2] at e
theorem rg_ints (N : Nat) : rgV 0 (N : Int) = ((List.range N).map fun (i : Nat) => (i : Int)).map V.int := by
  unfold rgV
  rw [List.map_map, show ((N : Int) - 0).toNat = N by omega]
  refine List.map_congr_left fun i _ => ?_
  show V.int (0 + (i : Int)) = V.int i
  rw [Int.zero_add]
def unV : V → Option Nat
  | .int z => some z.toNat
  | _ => none
theorem Kx.comb {S : List Addr} {H H1 H2 : Hp} {Z : Addr} (a : Kx S H H1) (b : Kx [Z] H1 H2) (n : H Z = none) : Kx S H H2 := fun q o hq h =>
  b q o (fun z => by rw [List.mem_singleton.mp z, n] at h; cases h) (a q o hq h)
theorem cut_from (xs : List V) (k : Nat) : cutV xs (some (k : Int)) none = xs.drop k := by
  unfold cutV
  rw [HT.sIx_none, show HT.sIx xs.length 0 (some (k : Int)) = min k xs.length from HT.sIx_nat xs.length 0 k]
  rcases Nat.le_total k xs.length with h | h
  · rw [Nat.min_eq_left h, List.take_of_length_le (by rw [List.length_drop]; exact Nat.le_refl _)]
  · rw [Nat.min_eq_right h, Nat.sub_self, List.take_zero, List.drop_of_length_le h]
theorem ix_nat {n j : Nat} (hj : j < n) : ixN n (j : Int) = some j := by
  unfold ixN
  rw [if_pos (by omega), if_pos (by omega), Int.toNat_natCast]
theorem RowsI.other {H0 H : Hp} {R A : Addr} {o : HO} {rs : List Addr} {rows : List (List V)} {live : List Int} {B : Nat} (h : RowsI H0 H R rs rows live B) (nR : A ≠ R) (n : A ∉ rs) : RowsI H0 (upd H A o) R rs rows live B :=
  ⟨(upd_ne nR.symm).trans h.hR, h.len, h.nd, h.fr, h.frR, h.nR, fun i r row h1 h2 => (upd_ne (fun e => n (by rw [← e]; exact List.mem_of_getElem? h1))).trans (h.at_ i r row h1 h2), h.good⟩
theorem ok_base {f : Addr} {fd : FuncData} (F : Fun K "_law_base" "_law_base" sQBase f fd) (T : Txt mg) (l_law_draw : Lo P w K mg base "_law_draw" 1 ["_law_pen_here", "_law_most_one"] spDraw)
    (l_law_shuffled : Lo P w K mg base "_law_shuffled" 2 ["_law_pen_here", "_law_row"] (spShuf K)) (l_law_linked : Lo P w K mg base "_law_linked" 2 ["_law_pen_here", "_law_labels", "_law_alive"] (spLinked K)) :
    FnOk P w K mg base CX0 3 f fd ["_law_pen_here"] (spBase K) := by
  refine F.ok scQBase (fun vs H Q E h => ?_) (fun cdv A outer s H vs Q E hr h => ?_)
  · obtain ⟨p, c, n, rfl, _⟩ := h
    rfl
  · obtain ⟨p, c, n, rfl, hpen, hn, k⟩ := h
    refine ⟨_, (pss_cons (ps_set (i := 1) scQBase.nd rfl (Or.inl rfl) (pe_ix ix_list (pe_lst (pa_cons (pe_op op_add pe_int (pe_lo l_law_draw (hr.mono (by decide)) (by rfl) (pa_cons (pv 0) (pa_cons pe_int pa_nil)))) (pa_cons (pe_op op_add pe_int (pe_lo l_law_draw (hr.mono (by decide)) (by rfl) (pa_cons (pv 0) (pa_cons pe_int pa_nil)))) (pa_cons pe_int (pa_cons (pe_op op_add pe_int (pe_lo l_law_draw (hr.mono (by decide)) (by rfl) (pa_cons (pv 0) (pa_cons pe_int pa_nil)))) pa_nil))))) (pe_lo l_law_draw (hr.mono (by decide)) (by rfl) (pa_cons (pv 0) (pa_cons pe_int pa_nil))) (fun _ _ => rfl)))
      (pss_cons (ps_set (i := 2) scQBase.nd rfl (Or.inl rfl) (pe_ix ix_list (pe_lst (pa_cons pe_int (pa_cons pe_int (pa_cons (pe_lo l_law_draw (hr.mono (by decide)) (by rfl) (pa_cons (pv 0) (pa_cons (pe_op op_sub pe_int (pv 1)) pa_nil))) (pa_cons (pe_callB (call_min2 rfl) (by rfl) T.b_min boot'_min (pa_cons pe_int (pa_cons (pe_op op_sub pe_int (pv 1)) pa_nil))) pa_nil))))) (pe_lo l_law_draw (hr.mono (by decide)) (by rfl) (pa_cons (pv 0) (pa_cons pe_int pa_nil))) (fun _ _ => rfl)))
      (pss_cons (ps_set (i := 3) scQBase.nd rfl (Or.inl rfl) (pe_lo l_law_shuffled (hr.mono (by decide)) (by rfl) (pa_cons (pv 0) (pa_cons (pe_listRg rfl (by rfl) T.b_list (prg_1 (by rfl) T.b_range (pe_op op_add (pv 1) (pv 2)))) pa_nil))))
      (pss_cons (ps_set (i := 4) scQBase.nd rfl (Or.inl rfl) (pe_lo l_law_linked (hr.mono (by decide)) (by rfl) (pa_cons (pv 0) (pa_cons (pv 3) (pa_cons (pv 1) pa_nil)))))
      (pss_cons (ps_setLc (i := 6) (own := [("_law_label", 5)]) rfl scQBase.nd rfl rfl (sw_true rfl rfl rfl (by decide +kernel)) (pi_list (pv 3)) (blkOk_by (N := ["_law_pen_here", "_law_alive", "_law_spare", "_law_labels", "_law_rows", "_law_label", "_law_handles", "_law_turn", "_law_row"]) (sc := defScope sQBase) (by decide +kernel)) (fun _ _ _ _ _ => (pg_name (i := 5) scQBase.nd rfl (Or.inl rfl))) (fun _ _ _ _ _ => pts_nil) (fun _ _ _ _ _ => pe_int))
      (pss_cons (ps_for PassesOwn.never rfl (pi_range1 (by rfl) T.b_range (pa_cons (pe_ix ix_list (pe_lst (pa_cons pe_int (pa_cons pe_int (pa_cons pe_int (pa_cons pe_int pa_nil))))) (pe_lo l_law_draw (hr.mono (by decide)) (by rfl) (pa_cons (pv 0) (pa_cons pe_int pa_nil))) (fun _ _ => rfl)) pa_nil)) (pg_name (i := 7) scQBase.nd rfl (Or.inl rfl))
      (pss_one (ps_asg (pe_op op_add pe_int (pe_lo l_law_draw (hr.mono (by decide)) (by rfl) (pa_cons (pv 0) (pa_cons pe_int pa_nil)))) (pg_sub (pv 6) (pe_ix ix_list (pv 3) (pe_lo l_law_draw (hr.mono (by decide)) (by rfl) (pa_cons (pv 0) (pa_cons (pv 1) pa_nil))) (fun _ _ => rfl)) set_list))))
      (pss_cons (ps_asg (pe_ix ix_list (pe_lst (pa_cons pe_int (pa_cons pe_int (pa_cons pe_int (pa_cons pe_int (pa_cons pe_int pa_nil)))))) (pe_lo l_law_draw (hr.mono (by decide)) (by rfl) (pa_cons (pv 0) (pa_cons pe_int pa_nil))) (fun _ _ => rfl)) (pg_sub (pv 6) (pe_ix ix_list (pv 3) pe_int (fun _ _ => rfl)) set_list))
      (pss_cons (ps_setLc (i := 4) (own := [("_law_row", 8)]) rfl scQBase.nd rfl rfl (sw_true rfl rfl rfl (by decide +kernel)) (pi_list (pv 4)) (blkOk_by (N := ["_law_pen_here", "_law_alive", "_law_spare", "_law_labels", "_law_rows", "_law_label", "_law_handles", "_law_turn", "_law_row"]) (sc := defScope sQBase) (by decide +kernel)) (fun _ _ _ _ _ => (pg_name (i := 8) scQBase.nd rfl (Or.inl rfl))) (fun _ _ _ _ _ => pts_nil) (fun _ _ _ _ _ => (pe_callTy (call_tupFK (K := K)) (by rfl) T.b_tuple boot'_tuple (pa_cons (pv 8) pa_nil))))
      (pss_cons (ps_for PassesOwn.never rfl (pi_list (pe_slice sl_list (pv 3) (po_some (pv 1)) po_none)) (pg_name (i := 5) scQBase.nd rfl (Or.inl rfl))
      (pss_one (ps_asg pe_non (pg_sub (pv 4) (pv 5) set_list))))
      (pss_one (ps_ret (pe_tup (pa_cons (pe_tup (pa_cons (pe_callTy call_tuple_of (by rfl) T.b_tuple boot'_tuple (pa_cons (pv 4) pa_nil)) (pa_cons (pe_callTy call_tuple_of (by rfl) T.b_tuple boot'_tuple (pa_cons (pv 6) pa_nil)) pa_nil))) (pa_cons (pe_ix ix_list (pv 3) pe_int (fun _ _ => rfl)) pa_nil)))))))))))))), ?_⟩
    refine x_start (σ' := [some (.ref p), none, none, none, none, none, none, none, none]) rfl ?_
    dsimp only [cxOf]
    obtain ⟨⟨op, hp⟩, oc, hc⟩ := hpen.some
    have hnp : ∀ b, H b = none → b ≠ p := fun b hb e => by
      rw [e, hp] at hb
      cases hb
    have npfree : ∀ {H1 : Hp} {q m}, PenAt H1 p c m → H1 q = none → q ≠ p := fun hp1 hq e => by
      obtain ⟨⟨o, ho⟩, _⟩ := hp1.some
      rw [e, ho] at hq
      cases hq
    repeat walk_at "rd"
    refine x_draw hpen (by omega) (by omega) (by omega) fun a1 H1 a1l a1h k1 P1 => ?_
    repeat walk_at "rd"
    refine x_draw P1 (by omega) (by omega) (by omega) fun a2 H2 a2l a2h k2 P2 => ?_
    replace k2 := k1.trans k2
    clear k1 P1
    repeat walk_at "rd"
    refine x_draw P2 (by omega) (by omega) (by omega) fun a3 H3 a3l a3h k3 P3 => ?_
    replace k3 := k2.trans k3
    clear k2 P2
    repeat walk_at "rd"
    rename_i q nq
    have nqp := npfree P3 nq
    refine x_draw (P3.keep ((Kx.refl [] H3).new nq) (by simp) (by simp) (Nat.le_refl _)) (by omega) (by omega) (by omega) fun a4 H4 a4l a4h k4 P4 => ?_
    have hq4 : H4 q = some (.lst [V.int (1 + a1), V.int (2 + a2), V.int 40, V.int (1 + a3)]) := k4 q _ (by simpa using nqp) upd_same
    have K4 := (k3.new nq).trans k4
    clear k4 P3 k3
    obtain ⟨al, hat, al0, al1⟩ : ∃ al : Nat, atI [V.int (1 + a1), V.int (2 + a2), V.int 40, V.int (1 + a3)] a4 = some (.int al) ∧ 1 ≤ al ∧ al ≤ 40 := by
      obtain ⟨z, hz, _, hz2⟩ := at_ints (zs := [1 + a1, 2 + a2, 40, 1 + a3]) a4l (by simpa using a4h)
      simp only [List.mem_cons, List.not_mem_nil, or_false] at hz
      refine ⟨z.toNat, ?_, by omega, by omega⟩
      rw [show ((z.toNat : Nat) : Int) = z by omega]
      exact hz2
    repeat walk_at "rd"
    refine x_draw P4 (by omega) (by omega) (by omega) fun s1 H5 s1l s1h k5 P5 => ?_
    replace K4 := K4.trans k5
    clear k5 P4
    repeat walk_at "rd"
    rename_i q2 nq2
    have nq2p := npfree P5 nq2
    refine x_draw (P5.keep ((Kx.refl [] H5).new nq2) (by simp) (by simp) (Nat.le_refl _)) (by omega) (by omega) (by omega) fun s2 H6 s2l s2h k6 P6 => ?_
    have hq6 : H6 q2 = some (.lst [V.int 0, V.int 0, V.int s1, V.int (if 40 - (al : Int) < 2 then 40 - (al : Int) else 2)]) := k6 q2 _ (by simpa using nq2p) upd_same
    have K6 := (K4.new nq2).trans k6
    clear k6 P5 K4
    obtain ⟨sp, hat2, sp1⟩ : ∃ sp : Nat, atI [V.int 0, V.int 0, V.int s1, V.int (if 40 - (al : Int) < 2 then 40 - (al : Int) else 2)] s2 = some (.int sp) ∧ sp + al ≤ 40 := by
      obtain ⟨z, hz, _, hz2⟩ := at_ints (zs := [0, 0, s1, if 40 - (al : Int) < 2 then 40 - (al : Int) else 2]) s2l (by simpa using s2h)
      simp only [List.mem_cons, List.not_mem_nil, or_false] at hz
      have hzz : 0 ≤ z ∧ z + al ≤ 40 := by
        split at hz <;> omega
      refine ⟨z.toNat, ?_, by omega⟩
      rw [show ((z.toNat : Nat) : Int) = z by omega]
      exact hz2
    repeat walk_at "rd"
    refine ⟨RgOk.of_le (by omega) (by omega) (by omega) (by omega), fun q3 nq3 => ?_⟩
    repeat walk_at "rd"
    have nq3p := npfree P6 nq3
    have eN : (al : Int) + (sp : Int) = ((al + sp : Nat) : Int) := by omega
    refine ⟨p, c, q3, n + 6, _, rfl, P6.keep ((Kx.refl [] H6).new nq3) (by simp) (by simp) (by omega), SqL.of upd_same, nq3p, by rw [rgV_length]; omega, by omega, fun L ys H7 nL hperm k7 hL P7 => ?_⟩
    rw [rgV_length] at P7
    rw [eN, rg_ints] at hperm
    obtain ⟨ls, rfl, hls⟩ := perm_ints hperm
    have hlen : ls.length = al + sp := by
      rw [hls.length_eq, List.length_map, List.length_range]
    have hmem : ∀ z ∈ ls, 0 ≤ z ∧ z < ls.length := by
      intro z hz
      obtain ⟨m, hm, rfl⟩ := List.mem_map.mp (hls.mem_iff.mp hz)
      have := List.mem_range.mp hm
      omega
    have hall : ∀ m : Nat, m < ls.length → (m : Int) ∈ ls := by
      intro m hm
      exact hls.mem_iff.mpr (List.mem_map.mpr ⟨m, List.mem_range.mpr (by omega), rfl⟩)
    have hnd : ls.Nodup := by
      refine hls.symm.nodup ?_
      refine List.Pairwise.map _ ?_ List.nodup_range
      intro a b hab e
      exact hab (by omega)
    have K7 := (K6.new nq3).trans k7
    have nLp := npfree (P6.keep ((Kx.refl [] H6).new nq3) (by simp) (by simp) (Nat.le_refl _)) nL
    clear k7 P6 K6 hq4 hq6 nqp nq2p hat hat2
    repeat walk_at "rd"
    refine ⟨p, c, L, _, ls, al, rfl, P7, SqL.of hL, nLp, by omega, hmem, al0, by omega, by omega, fun R rs rows H8 I8 e8 k8 P8 => ?_⟩
    have K8 := K7.trans k8
    have hL8 : H8 L = some (.lst (ls.map V.int)) := k8 L _ (by simpa using nLp) hL
    repeat walk_at "rd"
    have hlab : ∀ {w : Int}, 0 ≤ w → w < al → ∃ j : Nat, (j : Int) ∈ ls.take al ∧ j < ls.length ∧ atI (ls.map V.int) w = some (.int (j : Int)) := by
      intro w hw0 hw1
      obtain ⟨z, hz, hz1, hz2⟩ := at_ints (zs := ls) hw0 (by omega)
      have h3 := hmem z hz
      refine ⟨z.toNat, ?_, by omega, ?_⟩
      · rw [show ((z.toNat : Nat) : Int) = z by omega]
        exact List.mem_of_getElem? (i := w.toNat) (by rw [List.getElem?_take_of_lt (by omega)]; exact hz1)
      · rw [show ((z.toNat : Nat) : Int) = z by omega]
        exact hz2
    refine y_lcL (xs := ls.map V.int) (SqL.of hL8) (fun A nA => ⟨fun i H1 => Kx [] H8 H1 ∧ H1 A = some (.lst ((List.replicate i (0 : Int)).map V.int)), ⟨(Kx.refl _ _).new nA, upd_same⟩, ?_, ?_, ?_⟩)
    · rintro i H1 hi ⟨k1, _⟩
      exact k1.sqL (by simp) (SqL.of hL8)
    · rintro i x H1 H1' hi ⟨k1, e1⟩ ⟨rfl, hx⟩
      rw [List.length_map] at hi
      repeat walk_at "rd"
      refine ⟨rfl, ?_⟩
      repeat walk_at "rd"
      refine ⟨_, e1, small1000 (by rw [List.length_map, List.length_replicate]; omega), k1.wr (.inl nA), ?_⟩
      rw [upd_same, List.replicate_succ', List.map_append]
      rfl
    rintro H9 ⟨k9, hA⟩
    rw [List.length_map] at hA
    have K9 := K8.trans (k9.mono (by simp))
    have I9 := I8.keep k9 (by simp)
    have hL9 : H9 L = some (.lst (ls.map V.int)) := k9 L _ (by simp) hL8
    have P9 := P8.keep k9 (by simp) (by simp) (Nat.le_refl _)
    have nAp := npfree P8 nA
    have nAL : A ≠ L := fun e => by rw [e, hL8] at nA; cases nA
    have nAR : A ≠ R := fun e => by rw [e, I8.hR] at nA; cases nA
    have nArs : A ∉ rs := fun z => by
      obtain ⟨m, hm⟩ := List.mem_iff_getElem?.mp z
      obtain ⟨row, hrow⟩ : ∃ row, rows[m]? = some row := ⟨_, List.getElem?_eq_getElem (by rw [I8.len]; exact (List.getElem?_eq_some_iff.mp hm).1)⟩
      rw [I8.at_ m A row hm hrow] at nA
      cases nA
    have nA0 : H A = none := (K8.fresh (by simpa using nAp) nA)
    have P8' := P8
    clear k9 P8
    repeat walk_at "rd"
    rename_i q4 nq4
    have nq4p := npfree P9 nq4
    refine x_draw (P9.keep ((Kx.refl [] H9).new nq4) (by simp) (by simp) (Nat.le_refl _)) (by omega) (by omega) (by omega) fun s3 H10 s3l s3h k10 P10 => ?_
    have hq4 : H10 q4 = some (.lst [V.int 0, V.int 0, V.int 1, V.int 3]) := k10 q4 _ (by simpa using nq4p) upd_same
    have K10 := (K9.new nq4).trans k10
    have I10 := (I9.keep ((Kx.refl [] H9).new nq4) (by simp)).keep k10 (by simpa using P7.some.1)
    have hA10 : H10 A = some (.lst ((List.replicate ls.length (0 : Int)).map V.int)) := k10 A _ (by simpa using nAp) (lk_ne hA nq4)
    have hL10 : H10 L = some (.lst (ls.map V.int)) := k10 L _ (by simpa using nLp) (lk_ne hL9 nq4)
    clear k10 P9 I9 hA hL9
    obtain ⟨cnt, hat, hc0, hc1⟩ : ∃ cnt, atI [V.int 0, V.int 0, V.int 1, V.int 3] s3 = some (.int cnt) ∧ 0 ≤ cnt ∧ cnt ≤ 3 := by
      obtain ⟨z, hz, _, hz2⟩ := at_ints (zs := [0, 0, 1, 3]) s3l (by simpa using s3h)
      refine ⟨z, hz2, ?_⟩
      simp only [List.mem_cons, List.not_mem_nil, or_false] at hz
      omega
    repeat walk_at "rd"
    refine y_forR1 hc0 (by omega) ⟨fun i σ H11 => ∃ (hs : List Int) (y7 : Option V), σ = [some (.ref p), some (.int al), some (.int sp), some (.ref L), some (.ref R), none, some (.ref A), y7, none] ∧
      H11 A = some (.lst (hs.map V.int)) ∧ hs.length = ls.length ∧ (∀ z ∈ hs, 0 ≤ z ∧ z ≤ 9) ∧ (∀ m : Nat, m < ls.length → (m : Int) ∉ ls.take al → hs[m]? = some 0) ∧ H11 L = some (.lst (ls.map V.int)) ∧ RowsI H7 H11 R rs rows (ls.take al) 40 ∧ Kx [p] H H11 ∧ PenAt H11 p c (n + 600 + 2 * i),
      ⟨_, none, rfl, hA10, List.length_replicate, fun z hz => by rw [(List.mem_replicate.mp hz).2]; omega, fun m hm _ => by rw [List.getElem?_replicate, if_pos hm], hL10, I10, K10, P10.keep (Kx.refl [] H10) (by simp) (by simp) (by omega)⟩, fun _ _ _ _ _ => trivial, ?_, ?_⟩
    · rintro i x σ H11 H11' hi ⟨hs, y7, rfl, hA11, hhl, hhb, hhf, hL11, I11, K11, P11⟩ ⟨rfl, rfl⟩
      repeat walk_at "rd"
      refine x_draw P11 (by omega) (by omega) (by omega) fun v0 H12 v0l v0h k12 P12 => ?_
      have K12 := K11.trans k12
      have I12 := I11.keep k12 (by simpa using P7.some.1)
      have hA12 : H12 A = some (.lst (hs.map V.int)) := k12 A _ (by simpa using nAp) hA11
      have hL12 : H12 L = some (.lst (ls.map V.int)) := k12 L _ (by simpa using nLp) hL11
      clear k12 P11
      repeat walk_at "rd"
      refine x_draw P12 (by omega) (by omega) (by omega) fun v1 H13 v1l v1h k13 P13 => ?_
      have K13 := K12.trans k13
      have I13 := I12.keep k13 (by simpa using P7.some.1)
      have hA13 : H13 A = some (.lst (hs.map V.int)) := k13 A _ (by simpa using nAp) hA12
      have hL13 : H13 L = some (.lst (ls.map V.int)) := k13 L _ (by simpa using nLp) hL12
      clear k13 P12
      obtain ⟨j, hj, hj2, hatj⟩ := hlab v1l v1h
      have hix : ixN (hs.map V.int).length (j : Int) = some j := ix_nat (by rw [List.length_map]; omega)
      repeat walk_at "rd"
      refine ⟨hs.set j (1 + v0), _, rfl, ?_, by rw [List.length_set]; exact hhl, ?_, fun m hm hmt => by rw [List.getElem?_set_ne (fun e => hmt (by rw [← e]; exact hj))]; exact hhf m hm hmt, ?_, I13.other nAR nArs, K13.wr (.inl nA0), ?_⟩
      · rw [upd_same, List.map_set]
      · intro z hz
        rcases List.mem_or_eq_of_mem_set hz with hz | rfl
        · exact hhb z hz
        · omega
      · rw [upd_ne nAL.symm]
        exact hL13
      · exact P13.up (upd_ne nAp.symm) (upd_ne (fun e => by obtain ⟨_, o, ho⟩ := P8'.some; rw [← e, ho] at nA; cases nA)) (by omega)
    · rintro σ H11 ⟨hs, y7, rfl, hA11, hhl, hhb, hhf, hL11, I11, K11, P11⟩
      repeat walk_at "rd"
      rename_i q5 nq5
      have nq5p := npfree P11 nq5
      refine x_draw (P11.keep ((Kx.refl [] H11).new nq5) (by simp) (by simp) (Nat.le_refl _)) (by omega) (by omega) (by omega) fun s4 H12 s4l s4h k12 P12 => ?_
      have hq12 : H12 q5 = some (.lst [V.int 1, V.int 1, V.int 1, V.int 2, V.int 9]) := k12 q5 _ (by simpa using nq5p) upd_same
      have K12 := (K11.new nq5).trans k12
      have I12 := (I11.keep ((Kx.refl [] H11).new nq5) (by simp)).keep k12 (by simpa using P7.some.1)
      have hA12 : H12 A = some (.lst (hs.map V.int)) := k12 A _ (by simpa using nAp) (lk_ne hA11 nq5)
      have hL12 : H12 L = some (.lst (ls.map V.int)) := k12 L _ (by simpa using nLp) (lk_ne hL11 nq5)
      clear k12 P11 I11
      obtain ⟨hv, hat5, hv0, hv1⟩ : ∃ hv, atI [V.int 1, V.int 1, V.int 1, V.int 2, V.int 9] s4 = some (.int hv) ∧ 1 ≤ hv ∧ hv ≤ 9 := by
        obtain ⟨z, hz, _, hz2⟩ := at_ints (zs := [1, 1, 1, 2, 9]) s4l (by simpa using s4h)
        refine ⟨z, hz2, ?_⟩
        simp only [List.mem_cons, List.not_mem_nil, or_false] at hz
        omega
      obtain ⟨j0, hj0, hj02, hatj0⟩ := hlab (w := 0) (by omega) (by omega)
      have hix0 : ixN (hs.map V.int).length (j0 : Int) = some j0 := ix_nat (by rw [List.length_map]; omega)
      repeat walk_at "rd"
      have hA13 : upd H12 A (.lst ((hs.map V.int).set j0 (.int hv))) A = some (.lst ((hs.set j0 hv).map V.int)) := by rw [upd_same, List.map_set]
      have hL13 : upd H12 A (.lst ((hs.map V.int).set j0 (.int hv))) L = some (.lst (ls.map V.int)) := (upd_ne nAL.symm).trans hL12
      have I13 : RowsI H7 (upd H12 A (.lst ((hs.map V.int).set j0 (.int hv)))) R rs rows (ls.take al) 40 := I12.other nAR nArs
      have K13 : Kx [p] H (upd H12 A (.lst ((hs.map V.int).set j0 (.int hv)))) := K12.wr (.inl nA0)
      have P13 : PenAt (upd H12 A (.lst ((hs.map V.int).set j0 (.int hv)))) p c (n + 620) := P12.up (upd_ne nAp.symm) (upd_ne (fun e => by obtain ⟨_, o, ho⟩ := P8'.some; rw [← e, ho] at nA; cases nA)) (by omega)
      generalize upd H12 A (.lst ((hs.map V.int).set j0 (.int hv))) = H13 at *
      have hb2 : ∀ z ∈ hs.set j0 hv, 0 ≤ z ∧ z ≤ 9 := by
        intro z hz
        rcases List.mem_or_eq_of_mem_set hz with hz | rfl
        · exact hhb z hz
        · omega
      have hl2 : (hs.set j0 hv).length = ls.length := by rw [List.length_set]; exact hhl
      have hf2 : ∀ m : Nat, m < ls.length → (m : Int) ∉ ls.take al → (hs.set j0 hv)[m]? = some 0 := fun m hm hmt => by rw [List.getElem?_set_ne (fun e => hmt (by rw [← e]; exact hj0))]; exact hhf m hm hmt
      have hg2 : (hs.set j0 hv)[j0]? = some hv := List.getElem?_set_self (by omega)
      generalize hs.set j0 hv = hs2 at *
      clear hA12 hL12 I12 K12 P12 hq12
      refine y_lcL (xs := rs.map V.ref) (SqL.of I13.hR) (fun Z nZ => ⟨fun i H1 => Kx [] H13 H1 ∧ ∃ ts : List Addr, ts.length = i ∧ H1 Z = some (.lst (ts.map V.ref)) ∧ ∀ (m : Nat) (t : Addr) (row : List V), ts[m]? = some t → rows[m]? = some row → FT H1 t row,
        ⟨(Kx.refl _ _).new nZ, [], rfl, upd_same, by simp⟩, ?_, ?_, ?_⟩)
      · rintro i H1 hi ⟨k1, _⟩
        exact k1.sqL (by simp) (SqL.of I13.hR)
      · rintro i x H1 H1' hi ⟨k1, ts, et, eZ, hF⟩ ⟨rfl, hx⟩
        rw [List.length_map] at hi
        rw [List.getElem?_map, List.getElem?_eq_getElem hi] at hx
        cases Option.some.inj hx
        have hi3 : i < rows.length := by rw [I13.len]; exact hi
        have hrow := List.getElem?_eq_getElem hi3
        have hr1 : H1' rs[i] = some (.lst rows[i]) := k1 _ _ (by simp) (I13.at_ i _ _ (List.getElem?_eq_getElem hi) hrow)
        repeat walk_at "rd"
        refine ⟨rfl, ?_⟩
        repeat walk_at "rd"
        intro t o nt ho1 ho2
        have ntZ : t ≠ Z := (ne_of_none eZ nt).symm
        refine ⟨ts.map V.ref, lk_ne eZ nt, small1000 (by rw [List.length_map]; omega), (k1.new nt).wr (.inl nZ), ts ++ [t], by rw [List.length_append, et]; rfl, ?_, ?_⟩
        · rw [upd_same, List.map_append]
          rfl
        · intro m t' row' h1 h2
          by_cases hm : m < ts.length
          · rw [List.getElem?_append_left hm] at h1
            have f := hF m t' row' h1 h2
            have nt' : t' ≠ Z := by
              obtain ⟨ob, e, _⟩ := f
              exact ne_of e eZ (by intro z; cases z)
            obtain ⟨ob, e, f1, f2⟩ := f
            exact ⟨ob, lk_ne2 nt' (lk_ne e nt), f1, f2⟩
          · rw [List.getElem?_append_right (by omega)] at h1
            obtain ⟨e0, e1⟩ := List.getElem?_eq_some_iff.mp h1
            have em : m = i := by
              rw [List.length_singleton] at e0
              omega
            subst em
            rw [hrow] at h2
            simp only [et, Nat.sub_self, List.getElem_cons_zero] at e1
            rw [← e1, ← Option.some.inj h2]
            exact ⟨o, by rw [upd_ne ntZ]; exact upd_same, ho1, ho2⟩
      rintro H14 ⟨k14, ts, et, hZ, hF⟩
      rw [List.length_map, e8] at et
      have hA14 : H14 A = some (.lst (hs2.map V.int)) := k14 A _ (by simp) hA13
      have hL14 : H14 L = some (.lst (ls.map V.int)) := k14 L _ (by simp) hL13
      have K14 := K13.trans (k14.mono (by simp))
      have P14 := P13.keep k14 (by simp) (by simp) (Nat.le_refl _)
      have nZ0 : H Z = none := K13.fresh (by simpa using npfree P13 nZ) nZ
      have nZp := npfree P13 nZ
      have nAZ : A ≠ Z := fun e => by rw [← e, hA13] at nZ; cases nZ
      have nLZ : L ≠ Z := fun e => by rw [← e, hL13] at nZ; cases nZ
      repeat walk_at "rd"
      intro q6 nq6
      have nq6Z : q6 ≠ Z := (ne_of_none hZ nq6).symm
      rw [cut_from, ← List.map_drop]
      refine y_forL (xs := (ls.drop al).map V.int) (SqL.of upd_same) ⟨fun i σ Hx => ∃ (vs : List V) (y5 : Option V), σ = [some (.ref p), some (.int al), some (.int sp), some (.ref L), some (.ref Z), y5, some (.ref A), y7, none] ∧
        Hx Z = some (.lst vs) ∧ vs.length = ls.length ∧ (∀ (m : Nat) (t : Addr), ts[m]? = some t → vs[m]? = some (if (m : Int) ∈ (ls.drop al).take i then V.non else .ref t)) ∧ Kx [Z] (upd H14 q6 (.lst ((ls.drop al).map V.int))) Hx,
        ⟨ts.map V.ref, none, rfl, lk_ne hZ nq6, by rw [List.length_map]; exact et, ?_, Kx.refl _ _⟩, ?_, ?_, ?_⟩
      · intro m t ht
        rw [List.getElem?_map, ht, List.take_zero, if_neg (by simp)]
        rfl
      · rintro i σ Hx hi ⟨vs, y5, rfl, e1, e2, e3, kx⟩
        exact SqL.of (kx _ _ (by simpa using nq6Z) upd_same)
      · rintro i x σ Hx Hx' hi ⟨vs, y5, rfl, e1, e2, e3, kx⟩ ⟨rfl, hx⟩
        rw [List.length_map] at hi
        rw [List.getElem?_map, List.getElem?_eq_getElem hi] at hx
        cases Option.some.inj hx
        have hzm := hmem _ (List.mem_of_mem_drop (List.getElem_mem hi))
        obtain ⟨jz, hjz⟩ : ∃ jz : Nat, (ls.drop al)[i] = jz := ⟨((ls.drop al)[i]).toNat, by omega⟩
        rw [hjz] at hzm
        have hixz : ixN vs.length ((ls.drop al)[i]) = some jz := by
          rw [hjz]
          exact ix_nat (by omega)
        repeat walk_at "rd"
        refine ⟨vs.set jz .non, _, rfl, upd_same, by rw [List.length_set]; exact e2, ?_, kx.wr (.inr (by simp))⟩
        intro m t ht
        have et := List.take_add_one (l := ls.drop al) (i := i)
        rw [List.getElem?_eq_getElem hi] at et
        rw [et]
        by_cases hm : m = jz
        · subst hm
          rw [List.getElem?_set_self (by omega), if_pos (by simp [hjz])]
        · rw [List.getElem?_set_ne (Ne.symm hm), e3 m t ht]
          have : ((m : Int) ∈ (ls.drop al).take i ++ [(ls.drop al)[i]]) ↔ ((m : Int) ∈ (ls.drop al).take i) := by
            rw [List.mem_append, List.mem_singleton, hjz]
            constructor
            · rintro (z | z)
              · exact z
              · exact absurd (Int.ofNat.inj z) hm
            · exact .inl
          simp only [Option.toList_some, this]
      · rintro σ Hx ⟨vs, y5, rfl, e1, e2, e3, kx⟩
        rw [List.length_map, List.take_length] at e3
        have hAx : Hx A = some (.lst (hs2.map V.int)) := kx _ _ (by simpa using nAZ) (lk_ne hA14 nq6)
        have hLx : Hx L = some (.lst (ls.map V.int)) := kx _ _ (by simpa using nLZ) (lk_ne hL14 nq6)
        repeat walk_at "rd"
        intro S nS
        repeat walk_at "rd"
        intro O nO
        repeat walk_at "rd"
        rename_i D nD B nB
        have nZc : c ≠ Z := fun e => by
          obtain ⟨_, o, ho⟩ := P13.some
          rw [e, nZ] at ho
          cases ho
        have KX : Kx [p] H Hx := (K14.new nq6).comb kx nZ0
        have PX : PenAt Hx p c (n + 700) := (P14.keep ((Kx.refl [] H14).new nq6) (by simp) (by simp) (Nat.le_refl _)).keep kx (by simpa using nZp.symm) (by simpa using nZc) (by omega)
        have kf : Kx [] Hx (upd (upd (upd (upd Hx S (.tup vs)) O (.tup (hs2.map V.int))) D (.tup [.ref S, .ref O])) B (.tup [.ref D, .int j0])) := ((((Kx.refl [] Hx).new nS).new nO).new nD).new nB
        have hS : SqT K (upd (upd (upd (upd Hx S (.tup vs)) O (.tup (hs2.map V.int))) D (.tup [.ref S, .ref O])) B (.tup [.ref D, .int j0])) S vs := SqT.of (by walk_at "lk")
        have hO : SqT K (upd (upd (upd (upd Hx S (.tup vs)) O (.tup (hs2.map V.int))) D (.tup [.ref S, .ref O])) B (.tup [.ref D, .int j0])) O (hs2.map V.int) := SqT.of (by walk_at "lk")
        have hD : SqT K (upd (upd (upd (upd Hx S (.tup vs)) O (.tup (hs2.map V.int))) D (.tup [.ref S, .ref O])) B (.tup [.ref D, .int j0])) D [.ref S, .ref O] := SqT.of (by walk_at "lk")
        have hB : (upd (upd (upd (upd Hx S (.tup vs)) O (.tup (hs2.map V.int))) D (.tup [.ref S, .ref O])) B (.tup [.ref D, .int j0])) B = some (.tup [.ref D, .int j0]) := upd_same
        generalize (upd (upd (upd (upd Hx S (.tup vs)) O (.tup (hs2.map V.int))) D (.tup [.ref S, .ref O])) B (.tup [.ref D, .int j0])) = Hf at *
        have hrl : rows.length = ls.length := I13.len.trans e8
        have hsl : ((List.range ls.length).map fun m => if ((m : Nat) : Int) ∈ ls.drop al then (none : Option Rw) else some (((rows[m]?).getD []).map unV)).length = ls.length := by rw [List.length_map, List.length_range]
        have hget : ∀ m, m < ls.length → ((List.range ls.length).map fun m => if ((m : Nat) : Int) ∈ ls.drop al then (none : Option Rw) else some (((rows[m]?).getD []).map unV))[m]? = some (if ((m : Nat) : Int) ∈ ls.drop al then (none : Option Rw) else some (((rows[m]?).getD []).map unV)) := by
          intro m hm
          rw [List.getElem?_map, List.getElem?_range hm]
          rfl
        have hap : ∀ z, z ∈ ls.take al → z ∉ ls.drop al := by
          intro z hz hz2
          have := hnd
          rw [← List.take_append_drop al ls, List.nodup_append] at this
          exact this.2.2 z hz z hz2 rfl
        have hfr : ∀ m : Nat, ((List.range ls.length).map fun m => if ((m : Nat) : Int) ∈ ls.drop al then (none : Option Rw) else some (((rows[m]?).getD []).map unV))[m]? = some none → hs2[m]? = some 0 := by
          intro m hm
          have hm1 : m < ls.length := by
            have := (List.getElem?_eq_some_iff.mp hm).1
            rwa [hsl] at this
          rw [hget m hm1] at hm
          by_cases hd : (m : Int) ∈ ls.drop al
          · exact hf2 m hm1 fun z => hap _ z hd
          · rw [if_neg hd] at hm
            cases hm
        have hlb : ∃ (row : Rw) (z : Int), ((List.range ls.length).map fun m => if ((m : Nat) : Int) ∈ ls.drop al then (none : Option Rw) else some (((rows[m]?).getD []).map unV))[j0]? = some (some row) ∧ hs2[j0]? = some z ∧ 1 ≤ z := by
          refine ⟨((rows[j0]?).getD []).map unV, hv, ?_, hg2, hv0⟩
          rw [hget j0 hj02, if_neg (hap _ hj0)]
        refine k B D j0 _ hs2 Hf hB ⟨S, O, vs, hD, hS, hO, e2.trans hsl.symm, ?_⟩ ⟨hl2.trans hsl.symm, by rw [hsl]; omega, hfr, hb2, ?_, ?_⟩ (by rw [hsl]; omega) hlb (KX.trans (kf.mono (by simp))) (PX.keep kf (by simp) (by simp) (Nat.le_refl _))
        · intro m o ho
          have hm : m < ls.length := by
            have := (List.getElem?_eq_some_iff.mp ho).1
            rwa [hsl] at this
          rw [hget m hm] at ho
          have e4 := e3 m ts[m] (List.getElem?_eq_getElem (by omega))
          by_cases hd : (m : Int) ∈ ls.drop al
          · rw [if_pos hd] at ho e4
            exact .inl ⟨(Option.some.inj ho).symm, e4⟩
          · rw [if_neg hd] at ho e4
            have hm2 : m < rows.length := by omega
            have er := List.getElem?_eq_getElem hm2
            rw [er] at ho
            refine .inr ⟨ts[m], _, (Option.some.inj ho).symm, e4, ?_⟩
            obtain ⟨ob, f0, f1, f2⟩ := hF m ts[m] rows[m] (List.getElem?_eq_getElem (by omega)) er
            have nt : ts[m] ≠ Z := ne_of f0 hZ (by intro z; cases z)
            refine ⟨ob, kf _ _ (by simp) (kx _ _ (by simpa using nt) (lk_ne ?_ nq6)), f1, f2⟩
            rw [f0]
            have := (I13.good rows[m] (List.getElem_mem hm2)).2
            have ev : rowV ((some rows[m]).getD [] |>.map unV) = rows[m] := by
              unfold rowV
              show ((rows[m]).map unV).map slotV = rows[m]
              rw [List.map_map]
              have : ∀ v ∈ rows[m], (slotV ∘ unV) v = v := by
                intro v hv
                rcases this v hv with rfl | ⟨z, hz, rfl⟩
                · rfl
                · have := hmem z (List.mem_of_mem_take hz)
                  show V.int ((z.toNat : Nat) : Int) = V.int z
                  rw [show ((z.toNat : Nat) : Int) = z by omega]
              rw [List.map_congr_left this, List.map_id']
            rw [ev]
        · intro row hrow
          obtain ⟨m, hm, e⟩ := List.mem_map.mp hrow
          have hm := List.mem_range.mp hm
          by_cases hd : (m : Int) ∈ ls.drop al
          · rw [if_pos hd] at e
            cases e
          · rw [if_neg hd, List.getElem?_eq_getElem (show m < rows.length by omega)] at e
            rw [← Option.some.inj e, List.length_map]
            exact (I13.good _ (List.getElem_mem (show m < rows.length by omega))).1
        · intro row hrow k hk
          obtain ⟨m, hm, e⟩ := List.mem_map.mp hrow
          have hm := List.mem_range.mp hm
          by_cases hd : (m : Int) ∈ ls.drop al
          · rw [if_pos hd] at e
            cases e
          · rw [if_neg hd, List.getElem?_eq_getElem (show m < rows.length by omega)] at e
            rw [← Option.some.inj e] at hk
            obtain ⟨v, hv, ev⟩ := List.mem_map.mp hk
            rcases (I13.good _ (List.getElem_mem (show m < rows.length by omega))).2 v hv with rfl | ⟨z, hz, rfl⟩
            · cases ev
            · have h3 := hmem z (List.mem_of_mem_take hz)
              have ek : z.toNat = k := Option.some.inj ev
              have hk2 : (k : Int) = z := by omega
              have e9 := hget k (by omega)
              rw [if_neg (by rw [hk2]; exact hap z hz)] at e9
              exact ⟨_, e9⟩
end


/-- a heap at D, its rows any tuples -/
structure HeapT (K : PySem.W.Frag) (H : Hp) (D : Addr) (slots : List (Option Rw)) (outs : List Int) : Prop where
  ex : ∃ (S O : Addr) (vs : List V), SqT K H D [.ref S, .ref O] ∧ SqT K H S vs ∧ SqT K H O (outs.map V.int) ∧ vs.length = slots.length ∧
    ∀ (i : Nat) (o : Option Rw), slots[i]? = some o → (o = none ∧ vs[i]? = some V.non) ∨ ∃ r row, o = some row ∧ vs[i]? = some (.ref r) ∧ SqT K H r (rowV row)
theorem HeapAt.toT {K : PySem.W.Frag} {H : Hp} {D : Addr} {slots : List (Option Rw)} {outs : List Int} (h : HeapAt K H D slots outs) : HeapT K H D slots outs := by
  obtain ⟨S, O, vs, h1, h2, h3, h4, h5⟩ := h.ex
  refine ⟨S, O, vs, h1, h2, h3, h4, fun i o ho => ?_⟩
  rcases h5 i o ho with z | ⟨r, row, e1, e2, e3⟩
  · exact .inl z
  · exact .inr ⟨r, row, e1, e2, e3.seq⟩
theorem HeapT.keep {K : PySem.W.Frag} {H H' : Hp} {D : Addr} {slots : List (Option Rw)} {outs : List Int} (h : HeapT K H D slots outs) (k : Kx [] H H') : HeapT K H' D slots outs := by
  obtain ⟨S, O, vs, h1, h2, h3, h4, h5⟩ := h.ex
  refine ⟨S, O, vs, k.sqT (by simp) h1, k.sqT (by simp) h2, k.sqT (by simp) h3, h4, fun i o ho => ?_⟩
  rcases h5 i o ho with z | ⟨r, row, e1, e2, e3⟩
  · exact .inl z
  · exact .inr ⟨r, row, e1, e2, k.sqT (by simp) e3⟩
def slotD : Option Nat → PyData
  | none => .none
  | some k => .int k
def rowD : Option Rw → PyData
  | none => .none
  | some l => .tuple (l.map slotD)
def heapD (slots : List (Option Rw)) (outs : List Int) : PyData := .tuple [.tuple (slots.map rowD), .tuple (outs.map .int)]
theorem dp_slots {K : PySem.W.Frag} {H : Hp} : ∀ l : Rw, DpAll K H (rowV l) (l.map slotD)
  | [] => .nil
  | none :: r => .cons .non (dp_slots r)
  | some k :: r => .cons (.int k) (dp_slots r)
theorem dpAll_at {K : PySem.W.Frag} {H : Hp} : ∀ {vs : List V} {ds : List PyData}, vs.length = ds.length → (∀ (i : Nat) (d : PyData), ds[i]? = some d → ∃ v, vs[i]? = some v ∧ Dp K H v d) → DpAll K H vs ds
  | [], [], _, _ => .nil
  | [], _ :: _, h, _ => by cases h
  | _ :: _, [], h, _ => by cases h
  | v :: vs, d :: ds, h, q => by
    obtain ⟨v', e, hd⟩ := q 0 d rfl
    cases Option.some.inj e
    exact .cons hd (dpAll_at (Nat.succ.inj h) fun i d' hi => q (i + 1) d' hi)
theorem dp_intsT {K : PySem.W.Frag} {H : Hp} : ∀ cs : List Int, DpAll K H (cs.map V.int) (cs.map PyData.int)
  | [] => .nil
  | z :: r => .cons (.int z) (dp_intsT r)
theorem HeapT.dp {K : PySem.W.Frag} {H : Hp} {D : Addr} {slots : List (Option Rw)} {outs : List Int} (h : HeapT K H D slots outs) : Dp K H (.ref D) (heapD slots outs) := by
  obtain ⟨S, O, vs, h1, h2, h3, h4, h5⟩ := h.ex
  refine .tup h1 (.cons (.tup h2 (dpAll_at (by rw [List.length_map]; exact h4) ?_)) (.cons (.tup h3 (dp_intsT outs)) .nil))
  intro i d hd
  rw [List.getElem?_map] at hd
  cases e : slots[i]? with
  | none => rw [e] at hd; cases hd
  | some o =>
    rw [e] at hd
    cases Option.some.inj hd
    rcases h5 i o e with ⟨rfl, z⟩ | ⟨r, row, rfl, z, f⟩
    · exact ⟨_, z, .non⟩
    · exact ⟨_, z, .tup f (dp_slots row)⟩
theorem good_heap {slots : List (Option Rw)} {outs : List Int} (w : Wf slots outs) : Good (heapD slots outs) 3 (2 * (40 * (40 * 32 + 1) + 1)) := by
  have hrow : ∀ row, some row ∈ slots → Good (rowD (some row)) 1 (40 * 32) := by
    intro row hr
    refine Good.tuple (n := 40) ?_ (by rw [List.length_map]; exact w.row row hr)
    intro d hd
    obtain ⟨s, hs, rfl⟩ := List.mem_map.mp hd
    cases s with
    | none => exact Good.none.mono (Nat.le_refl _) (by decide)
    | some k =>
      obtain ⟨r, e⟩ := w.live row hr k hs
      have hk := (List.getElem?_eq_some_iff.mp e).1
      have := w.most
      exact Good.int (by show ((k : Int)).natAbs < _; omega)
  refine Good.tuple (n := 2) (k := 2) (w := 40 * (40 * 32 + 1)) ?_ (by simp)
  intro d hd
  simp only [List.mem_cons, List.not_mem_nil, or_false] at hd
  rcases hd with rfl | rfl
  · refine Good.tuple ?_ (by rw [List.length_map]; exact w.most)
    intro d hd
    obtain ⟨o, ho, rfl⟩ := List.mem_map.mp hd
    cases o with
    | none => exact Good.none.mono (by decide) (by decide)
    | some row => exact hrow row ho
  · refine (Good.tuple (k := 0) (w := 31) (n := 40) ?_ (by rw [List.length_map, w.len]; exact w.most)).mono (by decide) (by decide)
    intro d hd
    obtain ⟨z, hz, rfl⟩ := List.mem_map.mp hd
    have := w.outs z hz
    exact Good.int (by omega)
/-! ### what the program says of a heap -/
def isLive (slots : List (Option Rw)) (m : Nat) : Bool := ((slots[m]?).getD none).isSome
def liveUp (slots : List (Option Rw)) (n : Nat) : List Int := ((List.range n).filter (isLive slots)).map fun (m : Nat) => (m : Int)
theorem liveUp_succ (slots : List (Option Rw)) (n : Nat) : liveUp slots (n + 1) = if isLive slots n then liveUp slots n ++ [(n : Int)] else liveUp slots n := by
  unfold liveUp
  rw [List.range_succ, List.filter_append, List.map_append]
  cases h : isLive slots n
  · simp [List.filter, h]
  · simp [List.filter, h]
theorem liveUp_len (slots : List (Option Rw)) (n : Nat) : (liveUp slots n).length ≤ n := by
  unfold liveUp
  rw [List.length_map]
  exact Nat.le_trans (List.length_filter_le _ _) (by rw [List.length_range]; exact Nat.le_refl _)
def cntO (k : Nat) : Option Rw → Nat
  | none => 0
  | some row => row.count (some k)
/-- how many slots hold k -/
def useC (slots : List (Option Rw)) (k : Nat) : Nat := (slots.map (cntO k)).sum
def useL (slots : List (Option Rw)) : List Int := (List.range slots.length).map fun k => (useC slots k : Int)
def countV (slots : List (Option Rw)) (outs : List Int) (m : Nat) : V := if isLive slots m then .int ((outs[m]?).getD 0 + useC slots m) else .non
def countsV (slots : List (Option Rw)) (outs : List Int) : List V := (List.range slots.length).map (countV slots outs)
section
variable {P : Program} {w : World} {K : PySem.W.Frag} {mg : Str → Option Value} {base : Heap}
def spLive (K : PySem.W.Frag) : Sp := fun vs H Q _ => ∃ (D : Addr) (slots : List (Option Rw)) (outs : List Int), vs = [.ref D] ∧ HeapT K H D slots outs ∧ Wf slots outs ∧
  ∀ p H', H p = none → Kx [] H H' → H' p = some (.lst ((liveUp slots slots.length).map V.int)) → Q (.ref p) H'
theorem ok_live {f : Addr} {fd : FuncData} (F : Fun K "live_nodes" "live_nodes" sLiveNodes f fd) (T : Txt mg) : FnOk P w K mg base CX0 1 f fd ["heap"] (spLive K) := by
  refine F.ok scLiveNodes (fun vs H Q E h => ?_) (fun cdv A outer s H vs Q E hr h => ?_)
  · obtain ⟨D, slots, outs, rfl, _⟩ := h
    rfl
  · obtain ⟨D, slots, outs, rfl, ⟨S, O, vs, hD, hS, hO, hl, hv⟩, wf, k⟩ := h
    refine ⟨_, (pss_one (ps_ret (pe_lc (own := [("node", 1), ("row", 2)]) rfl scLiveNodes.nd (pi_enumT (by rfl) T.b_enumerate (pa_cons (pe_ix ix_tup (pv 0) pe_int (fun _ _ => rfl)) pa_nil)) (blkOk_by (N := ["heap", "node", "row"]) (sc := defScope sLiveNodes) (by decide +kernel)) (fun _ _ _ _ _ => (pg_tupK (K := K) (n := 2) rfl rfl (pgs_cons (pg_name (i := 1) scLiveNodes.nd rfl (Or.inl rfl)) (pgs_cons (pg_name (i := 2) scLiveNodes.nd rfl (Or.inl rfl)) pgs_nil)))) (fun _ _ _ _ _ => (pts_one (pt_cmpR op_notN1 (pv 2) pe_non (nomark _)))) (fun _ _ _ _ _ => (pv 1))))), ?_⟩
    refine x_start (σ' := [some (.ref D), none, none]) rfl ?_
    dsimp only [cxOf]
    repeat walk_at "rd"
    refine y_lcET (xs := vs) hS (fun Z nZ => ⟨fun i H1 => Kx [] H H1 ∧ H1 Z = some (.lst ((liveUp slots i).map V.int)), ⟨(Kx.refl _ _).new nZ, upd_same⟩, ?_, ?_, ?_⟩)
    · rintro i H1 hi ⟨k1, _⟩
      exact k1.sqT (by simp) hS
    · rintro i x H1 H1' hi ⟨k1, e1⟩ ⟨U, x1, x2, rfl, nU, rfl, f1, f2⟩
      cases f1
      have nUZ : Z ≠ U := ne_of_none e1 nU
      have h40 := wf.most
      repeat walk_at "rd"
      refine ⟨rfl, ?_⟩
      have hs : i < slots.length := by omega
      repeat walk_at "rd"
      have es := List.getElem?_eq_getElem hs
      have hlen := liveUp_len slots i
      rcases hv i _ es with ⟨e, z⟩ | ⟨r, row, e, z, _⟩
      · cases Option.some.inj (z.symm.trans f2)
        refine iteF ⟨(k1.new nU), ?_⟩
        rw [liveUp_succ, if_neg (by simp [isLive, es, e])]
        exact lk_ne e1 nU
      · cases Option.some.inj (z.symm.trans f2)
        refine iteT ?_
        repeat walk_at "rd"
        refine ⟨_, lk_ne e1 nU, small1000 (by rw [List.length_map]; omega), (k1.new nU).wr (.inl nZ), ?_⟩
        rw [upd_same, liveUp_succ, if_pos (by simp [isLive, es, e]), List.map_append]
        rfl
    · rintro H1 ⟨k1, e1⟩
      rw [hl] at e1
      exact k Z H1 nZ k1 e1
end


/-! ### what can be reached -/
def rowOf (slots : List (Option Rw)) (h : Nat) : Rw := ((slots[h]?).getD none).getD []
inductive Reach (slots : List (Option Rw)) (outs : List Int) : Nat → Prop
  | src {m : Nat} {z : Int} : isLive slots m = true → outs[m]? = some z → 0 < z → Reach slots outs m
  | step {h m : Nat} : Reach slots outs h → some m ∈ rowOf slots h → Reach slots outs m
/-- the state of a walk: ks found, ps to do, cur being done -/
structure WI (slots : List (Option Rw)) (outs : List Int) (ks ps : List Int) (cur : Option Nat) : Prop where
  nd : ks.Nodup
  re : ∀ z ∈ ks, ∃ n : Nat, z = n ∧ Reach slots outs n
  sub : ∀ z ∈ ps, z ∈ ks
  src : ∀ (n : Nat) (z : Int), isLive slots n = true → outs[n]? = some z → 0 < z → (n : Int) ∈ ks
  cl : ∀ h : Nat, (h : Int) ∈ ks → (h : Int) ∈ ps ∨ cur = some h ∨ ∀ m : Nat, some m ∈ rowOf slots h → (m : Int) ∈ ks
section
variable {slots : List (Option Rw)} {outs : List Int} {ks ps : List Int} {cur : Option Nat}
theorem WI.add (h : WI slots outs ks ps cur) {m : Nat} (r : Reach slots outs m) (n : (m : Int) ∉ ks) : WI slots outs (ks ++ [(m : Int)]) (ps ++ [(m : Int)]) cur := by
  refine ⟨?_, ?_, ?_, fun a z h1 h2 h3 => List.mem_append_left _ (h.src a z h1 h2 h3), ?_⟩
  · rw [List.nodup_append]
    refine ⟨h.nd, by simp, fun a ha b hb => ?_⟩
    rw [List.mem_singleton.mp hb]
    rintro rfl
    exact n ha
  · intro z hz
    rcases List.mem_append.mp hz with hz | hz
    · exact h.re z hz
    · exact ⟨m, List.mem_singleton.mp hz, r⟩
  · intro z hz
    rcases List.mem_append.mp hz with hz | hz
    · exact List.mem_append_left _ (h.sub z hz)
    · exact List.mem_append_right _ hz
  · intro a ha
    rcases List.mem_append.mp ha with ha | ha
    · rcases h.cl a ha with c | c | c
      · exact .inl (List.mem_append_left _ c)
      · exact .inr (.inl c)
      · exact .inr (.inr fun k hk => List.mem_append_left _ (c k hk))
    · exact .inl (List.mem_append_right _ ha)
theorem WI.pop (h : WI slots outs ks ps none) {a : Nat} {ps' : List Int} (s : ∀ z ∈ ps', z ∈ ps) (t : ∀ z ∈ ps, z ∈ ps' ∨ z = (a : Int)) : WI slots outs ks ps' (some a) := by
  refine ⟨h.nd, h.re, fun z hz => h.sub z (s z hz), h.src, fun b hb => ?_⟩
  rcases h.cl b hb with c | c | c
  · rcases t _ c with c | c
    · exact .inl c
    · exact .inr (.inl (by rw [Int.ofNat.inj c]))
  · cases c
  · exact .inr (.inr c)
theorem WI.done {a : Nat} (h : WI slots outs ks ps (some a)) (c : ∀ m : Nat, some m ∈ rowOf slots a → (m : Int) ∈ ks) : WI slots outs ks ps none := by
  refine ⟨h.nd, h.re, h.sub, h.src, fun b hb => ?_⟩
  rcases h.cl b hb with d | d | d
  · exact .inl d
  · cases d
    exact .inr (.inr c)
  · exact .inr (.inr d)
theorem WI.all (h : WI slots outs ks [] none) {m : Nat} (r : Reach slots outs m) : (m : Int) ∈ ks := by
  induction r with
  | src h1 h2 h3 => exact h.src _ _ h1 h2 h3
  | step _ hm ih =>
    rcases h.cl _ ih with c | c | c
    · cases c
    · cases c
    · exact c _ hm
/-- the ascending list of what can be reached -/
structure IsR (slots : List (Option Rw)) (outs : List Int) (ns : List Int) : Prop where
  up : ns.Pairwise (· ≤ ·)
  nd : ns.Nodup
  mem : ∀ z, z ∈ ns ↔ ∃ n : Nat, z = n ∧ Reach slots outs n
theorem IsR.of (h : WI slots outs ks [] none) {ns : List Int} (p : ns.Perm ks) (u : ns.Pairwise (· ≤ ·)) : IsR slots outs ns := by
  refine ⟨u, p.symm.nodup h.nd, fun z => ?_⟩
  rw [p.mem_iff]
  constructor
  · exact h.re z
  · rintro ⟨n, rfl, r⟩
    exact h.all r
theorem IsR.uniq {ns ms : List Int} (h : IsR slots outs ns) (g : IsR slots outs ms) : ns = ms := by
  have p : ns.Perm ms := (List.perm_ext_iff_of_nodup h.nd g.nd).mpr fun z => by rw [h.mem, g.mem]
  exact p.eq_of_pairwise (fun a b _ _ h1 h2 => Int.le_antisymm h1 h2) h.up g.up
theorem Reach.live (wf : Wf slots outs) {m : Nat} (r : Reach slots outs m) : isLive slots m = true := by
  cases r with
  | src h _ _ => exact h
  | @step h _ _ hm =>
    unfold rowOf at hm
    cases e : (slots[h]?).getD none with
    | none => rw [e] at hm; cases hm
    | some row =>
      rw [e] at hm
      have e2 : slots[h]? = some (some row) := by
        cases e3 : slots[h]? with
        | none => rw [e3] at e; cases e
        | some o => rw [e3] at e; exact congrArg some e
      obtain ⟨r2, e4⟩ := wf.live row (List.mem_of_getElem? e2) m hm
      simp [isLive, e4]
theorem live_lt {m : Nat} (h : isLive slots m = true) : ∃ row, slots[m]? = some (some row) ∧ m < slots.length := by
  unfold isLive at h
  cases e : slots[m]? with
  | none => rw [e] at h; cases h
  | some o =>
    cases o with
    | none => rw [e] at h; cases h
    | some row => exact ⟨row, rfl, (List.getElem?_eq_some_iff.mp e).1⟩
theorem nodup_len {n : Nat} : ∀ {zs : List Int}, zs.Nodup → (∀ z ∈ zs, 0 ≤ z ∧ z < n) → zs.length ≤ n := by
  intro zs hn hz
  have hp := hn.length_le_of_subset (l₂ := (List.range n).map fun k : Nat => (k : Int)) fun z h => by
    obtain ⟨h1, h2⟩ := hz z h
    exact List.mem_map.mpr ⟨z.toNat, List.mem_range.mpr (by omega), by omega⟩
  rwa [List.length_map, List.length_range] at hp
theorem WI.len (wf : Wf slots outs) (h : WI slots outs ks ps cur) : ks.length ≤ slots.length := by
  refine nodup_len h.nd fun z hz => ?_
  obtain ⟨n, rfl, r⟩ := h.re z hz
  obtain ⟨_, _, hl⟩ := live_lt (r.live wf)
  omega
theorem rowOf_some {h : Nat} {row : Rw} (e : slots[h]? = some (some row)) : rowOf slots h = row := by simp [rowOf, e]
end
/-- the keys of a dict of ints -/
def KeysI (kvs : List (Key × V)) (ks : List Int) : Prop := kvs.map (·.1) = ks.map Sum.inl
theorem KeysI.len {kvs : List (Key × V)} {ks : List Int} (h : KeysI kvs ks) : kvs.length = ks.length := by
  have := congrArg List.length h
  rwa [List.length_map, List.length_map] at this
theorem KeysI.has {ks : List Int} (i : Int) : ∀ {kvs : List (Key × V)}, KeysI kvs ks → (valV kvs (.inl i)).isSome = decide (i ∈ ks) := by
  intro kvs h
  rw [← valV_any]
  have e : (kvs.any fun kv => decide (kv.1 = .inl i)) = (kvs.map (·.1)).any fun k => decide (k = Sum.inl i) := by rw [List.any_map]; rfl
  rw [e, h, List.any_map, Bool.eq_iff_iff]
  simp
theorem KeysI.put {kvs : List (Key × V)} {ks : List Int} (h : KeysI kvs ks) {i : Int} (n : i ∉ ks) (v : V) : KeysI (putK kvs (.inl i) v) (ks ++ [i]) := by
  have e := h.has i
  rw [decide_eq_false n] at e
  rw [putK_new v (Option.isNone_iff_eq_none.mp (by rw [← Option.not_isSome, e]; rfl))]
  unfold KeysI
  rw [List.map_append, List.map_append, h]
  rfl
theorem KeysI.vals {kvs : List (Key × V)} {ks : List Int} (h : KeysI kvs ks) : (kvs.map fun kv => kV kv.1) = ks.map V.int := by
  have e : (kvs.map fun kv => kV kv.1) = (kvs.map (·.1)).map kV := by rw [List.map_map]; rfl
  rw [e, h, List.map_map]
  rfl
theorem liveUp_mem {slots : List (Option Rw)} {n : Nat} {z : Int} : z ∈ liveUp slots n ↔ ∃ m : Nat, z = m ∧ m < n ∧ isLive slots m = true := by
  unfold liveUp
  rw [List.mem_map]
  constructor
  · rintro ⟨m, hm, rfl⟩
    have := List.mem_filter.mp hm
    exact ⟨m, rfl, List.mem_range.mp this.1, this.2⟩
  · rintro ⟨m, rfl, h1, h2⟩
    exact ⟨m, List.mem_filter.mpr ⟨List.mem_range.mpr h1, h2⟩, rfl⟩
theorem liveUp_nd (slots : List (Option Rw)) (n : Nat) : (liveUp slots n).Nodup := by
  unfold liveUp
  refine List.Pairwise.map _ ?_ ((List.nodup_range).filter _)
  intro a b hab e
  exact hab (Int.ofNat.inj e)
def srcUp (slots : List (Option Rw)) (outs : List Int) (i : Nat) : List Int := ((liveUp slots slots.length).take i).filter fun z => decide (0 < (outs[z.toNat]?).getD 0)
theorem srcUp_succ {slots : List (Option Rw)} {outs : List Int} {i : Nat} {z : Int} (h : (liveUp slots slots.length)[i]? = some z) : srcUp slots outs (i + 1) = srcUp slots outs i ++ (if 0 < (outs[z.toNat]?).getD 0 then [z] else []) := by
  unfold srcUp
  rw [List.take_add_one, h, List.filter_append]
  by_cases e : 0 < (outs[z.toNat]?).getD 0
  · simp [List.filter, e]
  · simp [List.filter, e]
theorem srcUp_new {slots : List (Option Rw)} {outs : List Int} {i : Nat} {z : Int} (h : (liveUp slots slots.length)[i]? = some z) : z ∉ srcUp slots outs i := by
  intro hz
  have h1 := (List.mem_filter.mp hz).1
  have nd := liveUp_nd slots slots.length
  obtain ⟨j, hj⟩ := List.mem_iff_getElem?.mp h1
  obtain ⟨hj1, hj2⟩ := List.getElem?_eq_some_iff.mp hj
  rw [List.length_take] at hj1
  rw [List.getElem?_take_of_lt (by omega)] at hj
  have := (List.getElem?_inj (by omega) nd).mp (hj.trans h.symm)
  omega
theorem srcUp_len (slots : List (Option Rw)) (outs : List Int) (i : Nat) : (srcUp slots outs i).length ≤ slots.length := by
  refine Nat.le_trans (List.length_filter_le _ _) (Nat.le_trans (List.length_take_le' _ _) (liveUp_len _ _))
theorem WI.start {slots : List (Option Rw)} {outs : List Int} : WI slots outs (srcUp slots outs (liveUp slots slots.length).length) (srcUp slots outs (liveUp slots slots.length).length) none := by
  refine ⟨?_, ?_, fun _ h => h, ?_, fun _ h => .inl h⟩
  · unfold srcUp
    rw [List.take_length]
    exact (liveUp_nd _ _).filter _
  · intro z hz
    unfold srcUp at hz
    rw [List.take_length] at hz
    obtain ⟨h1, h2⟩ := List.mem_filter.mp hz
    obtain ⟨m, rfl, hm, hlv⟩ := liveUp_mem.mp h1
    have h3 := of_decide_eq_true h2
    rw [Int.toNat_natCast] at h3
    cases e : outs[m]? with
    | none => rw [e] at h3; exact absurd h3 (by decide)
    | some z => rw [e] at h3; exact ⟨m, rfl, .src hlv e h3⟩
  · intro n z hlv e hz
    unfold srcUp
    rw [List.take_length]
    obtain ⟨_, _, hl⟩ := live_lt hlv
    exact List.mem_filter.mpr ⟨liveUp_mem.mpr ⟨n, rfl, hl, hlv⟩, by rw [Int.toNat_natCast, e]; exact decide_eq_true hz⟩
theorem iteP {c : Bool} {A B : Prop} (h : c = true) (q : A) : if c = true then A else B := by rw [if_pos h]; exact q
theorem iteN {c : Bool} {A B : Prop} (h : c = false) (q : B) : if c = true then A else B := by rw [h]; exact q
section
variable {P : Program} {w : World} {K : PySem.W.Frag} {mg : Str → Option Value} {base : Heap}

def spSrcs (K : PySem.W.Frag) : Sp := fun vs H Q _ => ∃ (D : Addr) (slots : List (Option Rw)) (outs : List Int), vs = [.ref D] ∧ HeapT K H D slots outs ∧ Wf slots outs ∧
  ∀ p H' kvs ks, H p = none → Kx [] H H' → H' p = some (.dK kvs) → KeysI kvs ks → WI slots outs ks [] none → Q (.ref p) H'
def spHeld (K : PySem.W.Frag) : Sp := fun vs H Q _ => ∃ (D A : Addr) (slots : List (Option Rw)) (outs : List Int), vs = [.ref D, .ref A] ∧ HeapT K H D slots outs ∧ Wf slots outs ∧ SqL K H A ((srcUp slots outs (liveUp slots slots.length).length).map V.int) ∧
  ∀ p H' kvs ks, H p = none → Kx [] H H' → H' p = some (.dK kvs) → KeysI kvs ks → WI slots outs ks [] none → Q (.ref p) H'
theorem ok_held {f : Addr} {fd : FuncData} (F : Fun K "held_from" "held_from" sHeldFrom f fd) (T : Txt mg) : FnOk P w K mg base CX0 1 f fd ["heap", "starts"] (spHeld K) := by
  refine F.ok scHeldFrom (fun vs H Q E h => ?_) (fun cdv A outer s H vs Q E hr h => ?_)
  · obtain ⟨D, A, slots, outs, rfl, _⟩ := h
    rfl
  · obtain ⟨D, A0, slots, outs, rfl, hT, wf, hA, k⟩ := h
    obtain ⟨S, O, vs, hD, hS, hO, hl, hv⟩ := id hT.ex
    refine ⟨_, (pss_cons (ps_setDc (i := 2) (own := [("node", 6)]) rfl scHeldFrom.nd rfl rfl (sw_trueD rfl rfl rfl (by decide +kernel)) (pi_list (pv 1)) (blkOk_by (N := ["heap", "starts", "sources", "pending", "holder", "held", "node"]) (sc := defScope sHeldFrom) (by decide +kernel)) (fun _ _ _ _ _ => (pg_name (i := 6) scHeldFrom.nd rfl (Or.inl rfl))) (fun _ _ _ _ _ => pts_nil) (fun _ _ _ _ _ => (pv 6)) (fun _ _ _ _ _ => pe_non))
      (pss_cons (ps_set (i := 3) scHeldFrom.nd rfl (Or.inl rfl) (pe_callTy (call_list_dK rfl) (by rfl) T.b_list boot'_list (pa_cons (pv 2) pa_nil)))
      (pss_cons (ps_while PassesOwn.never (pt_truth' (pv 3))
      (pss_cons (ps_set (i := 4) scHeldFrom.nd rfl (Or.inl rfl) (pe_bm0 PySem.F.plainAttrs_list PySem.F.slot_list_pop PySem.F.type_list_pop mt_pop (pv 3)))
      (pss_one (ps_for PassesOwn.never rfl (pi_tup (pe_ix ix_tup (pe_ix ix_tup (pv 0) pe_int (fun _ _ => rfl)) (pv 4) (fun _ _ => rfl))) (pg_name (i := 5) scHeldFrom.nd rfl (Or.inl rfl))
      (pss_one (ps_if ((pw_and (pt_cmpR op_notN1 (pv 5) pe_non (nomark _)) (pw_and1 (pt_cmp (pc_dnotin (hu_of hr) (pv 5) (pv 2)))))).pt (pss_cons (ps_dput (hu_of hr) (pv 2) (pv 5) (pv 4) rfl)
      (pss_one (ps_expr (pe_bm PySem.F.plainAttrs_list PySem.F.slot_list_append PySem.F.type_list_append mt_append (pv 3) (pa_cons (pv 5) pa_nil))))) pss_nil))))))
      (pss_one (ps_ret (pv 2)))))), ?_⟩
    refine x_start (σ' := [some (.ref D), some (.ref A0), none, none, none, none, none]) rfl ?_
    dsimp only [cxOf]
    have h40 := wf.most
    have hsl := srcUp_len slots outs (liveUp slots slots.length).length
    have hnd : (srcUp slots outs (liveUp slots slots.length).length).Nodup := WI.start.nd
    repeat walk_at "rd"
    refine y_dcL hA (fun Dd nD => ⟨fun i H2 => Kx [] H H2 ∧ ∃ kvs, H2 Dd = some (.dK kvs) ∧ KeysI kvs ((srcUp slots outs (liveUp slots slots.length).length).take i), ⟨(Kx.refl _ _).new nD, [], upd_same, rfl⟩, ?_, ?_, ?_⟩)
    · rintro i H2 hi ⟨k2, _⟩
      exact k2.sqL (by simp) hA
    · rintro i x H2 H2' hi ⟨k2, kvs, e2, hk⟩ ⟨rfl, hx⟩
      rw [List.length_map] at hi
      have hci := List.getElem?_eq_getElem hi
      have hx2 : ((srcUp slots outs (liveUp slots slots.length).length).map V.int)[i]? = some x := hx
      rw [List.getElem?_map, hci] at hx2
      cases Option.some.inj hx2
      have en : (srcUp slots outs (liveUp slots slots.length).length)[i] ∉ (srcUp slots outs (liveUp slots slots.length).length).take i := fun hm => by
        obtain ⟨j, hj⟩ := List.mem_iff_getElem?.mp hm
        obtain ⟨hj1, hj2⟩ := List.getElem?_eq_some_iff.mp hj
        rw [List.length_take] at hj1
        rw [List.getElem?_take_of_lt (by omega)] at hj
        have := (List.getElem?_inj (by omega) hnd).mp (hj.trans hci.symm)
        omega
      have es : (srcUp slots outs (liveUp slots slots.length).length).take (i + 1) = (srcUp slots outs (liveUp slots slots.length).length).take i ++ [(srcUp slots outs (liveUp slots slots.length).length)[i]] := by rw [List.take_add_one, hci]; rfl
      repeat walk_at "rd"
      refine ⟨rfl, ?_⟩
      repeat walk_at "rd"
      refine ⟨kvs, .inl _, rfl, e2, small1000 (by rw [hk.len, List.length_take]; omega), k2.wr (.inl nD), _, upd_same, ?_⟩
      rw [es]
      exact hk.put en _
    rintro H2 ⟨k2, kvs0, e2, hk0⟩
    rw [List.length_map, List.take_length] at hk0
    have nD0 : H Dd = none := nD
    have k12 := k2
    repeat walk_at "rd"
    rename_i L nL
    have nDL : Dd ≠ L := ne_of_none e2 nL
    have nL0 : H L = none := k12.fresh (by simp) nL
    refine ⟨fun m σ H3 => ∃ kvs ks ps y5 y6, σ = [some (.ref D), some (.ref A0), some (.ref Dd), some (.ref L), y5, y6, none] ∧ Kx [] H H3 ∧ H3 Dd = some (.dK kvs) ∧ KeysI kvs ks ∧ H3 L = some (.lst (ps.map V.int)) ∧
      WI slots outs ks ps none ∧ m = 2 * (40 - ks.length) + ps.length ∧ m ≤ 200, ⟨_, kvs0, _, _, none, none, rfl, k12.new nL, lk_ne e2 nL, hk0, by rw [upd_same, hk0.vals], WI.start, rfl, ?_⟩, ?_⟩
    · have := srcUp_len slots outs (liveUp slots slots.length).length
      omega
    rintro m σ H3 ⟨kvs, ks, ps, y5, y6, rfl, k3, e3, hk, eL, wi, rfl, hm200⟩
    repeat walk_at "rd"
    rcases List.eq_nil_or_concat ps with rfl | ⟨qs, z, rfl⟩
    · refine iteF ?_
      repeat walk_at "rd"
      exact k Dd H3 kvs ks nD0 k3 e3 hk wi
    · refine iteP (by simp) (x_turn ?_)
      obtain ⟨n, rfl, hR0⟩ := wi.re z (wi.sub z (by simp))
      obtain ⟨row, er, hnl⟩ := live_lt (hR0.live wf)
      have eat : ((qs ++ [(n : Int)]).map V.int)[((qs ++ [(n : Int)]).map V.int).length - 1]? = some (.int n) := by simp
      repeat walk_at "rd"
      refine ⟨ty_list (SqL.of eL), ?_⟩
      rcases hv n _ er with ⟨e', _⟩ | ⟨r, row', e', zr, hR⟩
      · cases e'
      cases Option.some.inj e'
      have at2 : atI vs (n : Int) = some (V.ref r) := atI_nat zr
      rw [List.concat_eq_append] at *
      repeat walk_at "rd"
      have k4 : Kx [] H (upd H3 L (.lst ((qs ++ [(n : Int)]).map V.int).dropLast)) := k3.wr (.inl nL0)
      have e4 : (upd H3 L (.lst ((qs ++ [(n : Int)]).map V.int).dropLast)) Dd = some (.dK kvs) := lk_ne2 nDL e3
      have eL4 : (upd H3 L (.lst ((qs ++ [(n : Int)]).map V.int).dropLast)) L = some (.lst (qs.map V.int)) := by
        rw [upd_same, List.map_append]
        simp
      generalize (upd H3 L (.lst ((qs ++ [(n : Int)]).map V.int).dropLast)) = H4 at *
      have hS4 := k4.sqT (by simp) hS
      have hr4 := k4.sqT (by simp) hR
      have wi0 := wi.pop (a := n) (ps' := qs) (fun z hz => List.mem_append_left _ hz) (fun z hz => by simpa using hz)
      have hlen0 := wi.len wf
      rw [List.length_append, List.length_singleton] at hm200
      repeat walk_at "rd"
      refine y_forT (xs := rowV row) hr4 ⟨fun i σ H5 => ∃ kvs' ks' ps' y6, σ = [some (.ref D), some (.ref A0), some (.ref Dd), some (.ref L), some (.int n), y6, none] ∧ Kx [] H H5 ∧ H5 Dd = some (.dK kvs') ∧ KeysI kvs' ks' ∧
        H5 L = some (.lst (ps'.map V.int)) ∧ WI slots outs ks' ps' (some n) ∧ (∀ m : Nat, some m ∈ row.take i → (m : Int) ∈ ks') ∧ 2 * (40 - ks'.length) + ps'.length ≤ 2 * (40 - ks.length) + qs.length,
        ⟨kvs, ks, qs, y6, rfl, k4, e4, hk, eL4, wi0, by simp, Nat.le_refl _⟩, ?_, ?_, ?_⟩
      · rintro i σ H5 hi ⟨_, _, _, _, rfl, k5, _⟩
        exact k5.sqT (by simp) hR
      · rintro i x σ H5 H5' hi ⟨kvs', ks', ps', y6, rfl, k5, e5, hk5, eL5, wi5, hin, hμ⟩ ⟨rfl, hx⟩
        have hi2 : i < row.length := by simpa [rowV] using hi
        have hrow : row[i]? = some row[i] := List.getElem?_eq_getElem hi2
        have hx2 : slotV row[i] = x := by
          unfold rowV at hx
          rw [List.getElem?_map, hrow] at hx
          exact Option.some.inj hx
        have htake : row.take (i + 1) = row.take i ++ [row[i]] := by rw [List.take_add_one, hrow]; rfl
        have hlen5 := wi5.len wf
        cases hc : row[i] with
        | none =>
          rw [hc] at hx2
          obtain rfl : V.non = x := hx2
          repeat walk_at "rd"
          refine iteF ?_
          repeat walk_at "rd"
          refine ⟨kvs', ks', ps', _, rfl, k5, e5, hk5, eL5, wi5, fun m hm => ?_, hμ⟩
          rw [htake, hc] at hm
          exact hin m (by simpa using hm)
        | some m =>
          rw [hc] at hx2
          obtain rfl : V.int (m : Int) = x := hx2
          have hRm : Reach slots outs m := .step hR0 (by rw [rowOf_some er, ← hc]; exact List.getElem_mem hi2)
          repeat walk_at "rd"
          refine iteT ?_
          repeat walk_at "rd"
          rw [hk5.has]
          by_cases hm0 : (m : Int) ∈ ks'
          · rw [decide_eq_true hm0]
            refine iteF ?_
            repeat walk_at "rd"
            refine ⟨kvs', ks', ps', _, rfl, k5, e5, hk5, eL5, wi5, fun b hb => ?_, hμ⟩
            rw [htake, hc] at hb
            rcases List.mem_append.mp hb with hb | hb
            · exact hin b hb
            · cases Option.some.inj (List.mem_singleton.mp hb)
              exact hm0
          · rw [decide_eq_false hm0]
            refine iteT ?_
            have hz1 : kvs'.length < sizeLine := small1000 (by rw [hk5.len]; omega)
            have hps : ps'.length ≤ 1000 := by omega
            have hadd := wi5.add hRm hm0
            have hlen6 := hadd.len wf
            rw [List.length_append, List.length_singleton] at hlen6
            repeat walk_at "rd"
            refine ⟨ty_list (SqL.of (lk_ne2 nDL.symm eL5)), ?_⟩
            repeat walk_at "rd"
            refine ⟨_, ks' ++ [(m : Int)], ps' ++ [(m : Int)], _, rfl, (k5.wr (.inl nD0)).wr (.inl nL0), lk_ne2 nDL upd_same, hk5.put hm0 _, by rw [upd_same, List.map_append]; rfl, hadd, fun b hb => ?_, ?_⟩
            · rw [htake, hc] at hb
              rcases List.mem_append.mp hb with hb | hb
              · exact List.mem_append_left _ (hin b hb)
              · cases Option.some.inj (List.mem_singleton.mp hb)
                exact List.mem_append_right _ List.mem_cons_self
            · simp only [List.length_append, List.length_singleton]
              omega
      · rintro σ H5 ⟨kvs', ks', ps', y6, rfl, k5, e5, hk5, eL5, wi5, hin, hμ⟩
        rw [show (rowV row).length = row.length by simp [rowV], List.take_length] at hin
        refine ⟨_, ?_, kvs', ks', ps', _, _, rfl, k5, e5, hk5, eL5, wi5.done fun b hb => hin b (by rw [← rowOf_some er]; exact hb), rfl, by omega⟩
        rw [List.length_append, List.length_singleton]
        omega
theorem ok_srcs {f : Addr} {fd : FuncData} (F : Fun K "_sources" "_sources" sSources f fd) (T : Txt mg) (l_live_nodes : Lo P w K mg base "live_nodes" 1 ["heap"] (spLive K)) (l_held_from : Lo P w K mg base "held_from" 1 ["heap", "starts"] (spHeld K)) : FnOk P w K mg base CX0 2 f fd ["heap"] (spSrcs K) := by
  refine F.ok scSources (fun vs H Q E h => ?_) (fun cdv A outer s H vs Q E hr h => ?_)
  · obtain ⟨D, slots, outs, rfl, _⟩ := h
    rfl
  · obtain ⟨D, slots, outs, rfl, hT, wf, k⟩ := h
    obtain ⟨S, O, vs, hD, hS, hO, hl, hv⟩ := id hT.ex
    refine ⟨_, (pss_one (ps_ret (pe_lo l_held_from (hr.mono (by decide)) (by rfl) (pa_cons (pv 0) (pa_cons (pe_lc (own := [("node", 1)]) rfl scSources.nd (pi_list (pe_lo l_live_nodes (hr.mono (by decide)) (by rfl) (pa_cons (pv 0) pa_nil))) (blkOk_by (N := ["heap", "node"]) (sc := defScope sSources) (by decide +kernel)) (fun _ _ _ _ _ => (pg_name (i := 1) scSources.nd rfl (Or.inl rfl))) (fun _ _ _ _ _ => (pts_one (pt_cmpR op_gt (pe_ix (ix_tupK (K := K)) (pe_ix (ix_tupK (K := K)) (pv 0) pe_int (fun _ _ => rfl)) (pv 1) (fun _ _ => rfl)) pe_int (nomark _)))) (fun _ _ _ _ _ => (pv 1))) pa_nil))))), ?_⟩
    refine x_start (σ' := [some (.ref D), none]) rfl ?_
    dsimp only [cxOf]
    have h40 := wf.most
    repeat walk_at "rd"
    refine ⟨D, slots, outs, rfl, hT, wf, fun Z H1 nZ k1 e1 => ?_⟩
    have hO1 := k1.sqT (by simp) hO
    have hD1 := k1.sqT (by simp) hD
    repeat walk_at "rd"
    refine y_lcL (SqL.of e1) (fun Y nY => ⟨fun i H2 => Kx [] H1 H2 ∧ H2 Y = some (.lst ((srcUp slots outs i).map V.int)), ⟨(Kx.refl _ _).new nY, upd_same⟩, ?_, ?_, ?_⟩)
    · rintro i H2 hi ⟨k2, _⟩
      exact k2.sqL (by simp) (SqL.of e1)
    · rintro i x H2 H2' hi ⟨k2, e2⟩ ⟨rfl, hx⟩
      rw [List.getElem?_map] at hx
      cases ez : (liveUp slots slots.length)[i]? with
      | none => rw [ez] at hx; cases hx
      | some z =>
        rw [ez] at hx
        cases Option.some.inj hx
        obtain ⟨n, rfl, hn, hlv⟩ := liveUp_mem.mp (List.mem_of_getElem? ez)
        have hout : n < outs.length := by rw [wf.len]; exact hn
        have at1 : atI (outs.map V.int) (n : Int) = some (.int outs[n]) := atI_nat (by rw [List.getElem?_map, List.getElem?_eq_getElem hout]; rfl)
        have hO2 := k2.sqT (by simp) hO1
        have hD2 := k2.sqT (by simp) hD1
        repeat walk_at "rd"
        refine ⟨rfl, ?_⟩
        repeat walk_at "rd"
        have es := srcUp_succ (outs := outs) ez
        have el := srcUp_len slots outs i
        rw [Int.toNat_natCast, List.getElem?_eq_getElem hout] at es
        by_cases h0 : 0 < outs[n]
        · refine iteP (decide_eq_true h0) ?_
          repeat walk_at "rd"
          refine ⟨_, e2, small1000 (by rw [List.length_map]; omega), k2.wr (.inl nY), ?_⟩
          rw [upd_same, es]
          simp only [Option.getD_some, h0, if_true]
          rw [List.map_append]
          rfl
        · refine iteN (decide_eq_false h0) ⟨k2, ?_⟩
          rw [e2, es]
          simp only [Option.getD_some, h0, if_false, List.append_nil]
    rintro H2 ⟨k2, e2⟩
    rw [List.length_map] at e2
    have k12 := k1.trans k2
    repeat walk_at "rd"
    refine ⟨D, Y, slots, outs, rfl, hT.keep k12, wf, SqL.of e2, fun p H3 kvs ks np k3 e3 hk wi => ?_⟩
    repeat walk_at "rd"
    exact k p H3 kvs ks (k12.fresh (by simp) np) (k12.trans k3) e3 hk wi
def spReach (K : PySem.W.Frag) : Sp := fun vs H Q _ => ∃ (D : Addr) (slots : List (Option Rw)) (outs : List Int), vs = [.ref D] ∧ HeapT K H D slots outs ∧ Wf slots outs ∧
  ∀ p H' ns, H p = none → Kx [] H H' → H' p = some (.lst (ns.map V.int)) → IsR slots outs ns → Q (.ref p) H'
theorem ok_reach {f : Addr} {fd : FuncData} (F : Fun K "reachable" "reachable" sReachable f fd) (T : Txt mg) (l_sources : Lo P w K mg base "_sources" 2 ["heap"] (spSrcs K)) : FnOk P w K mg base CX0 3 f fd ["heap"] (spReach K) := by
  refine F.ok scReachable (fun vs H Q E h => ?_) (fun cdv A outer s H vs Q E hr h => ?_)
  · obtain ⟨D, slots, outs, rfl, _⟩ := h
    rfl
  · obtain ⟨D, slots, outs, rfl, hT, wf, k⟩ := h
    refine ⟨_, (pss_one (ps_ret (pe_callB (cr_sortedDI rfl) (by rfl) T.b_sorted boot'_sorted (pa_cons (pe_lo l_sources (hr.mono (by decide)) (by rfl) (pa_cons (pv 0) pa_nil)) pa_nil)))), ?_⟩
    refine x_start (σ' := [some (.ref D)]) rfl ?_
    try dsimp only [cxOf]
    repeat walk_at "rd"
    refine ⟨D, slots, outs, rfl, hT, wf, fun p H1 kvs ks np k1 e1 hk wi => ?_⟩
    repeat walk_at "rd"
    refine x_sortedD e1 hk fun ns q pm up nq => ?_
    exact k q _ ns (k1.fresh (by simp) nq) (k1.new nq) upd_same (IsR.of wi pm up)
end


theorem sqT_kx {S : List Addr} {K : PySem.W.Frag} {H H' : Hp} {a : Addr} {xs : List V} (h : SqT K H a xs) (k : Kx S H H') (l : ∀ b ∈ S, ∃ ys : List V, H b = some (.lst ys)) : SqT K H' a xs := by
  rcases h with h | h
  · refine .inl ?_
    rcases h with h | ⟨o, h⟩
    · exact .inl (k _ _ (fun z => by obtain ⟨ys, e⟩ := l _ z; rw [h] at e; cases e) h)
    · exact .inr ⟨o, k _ _ (fun z => by obtain ⟨ys, e⟩ := l _ z; rw [h] at e; cases e) h⟩
  · exact .inr h
theorem sqT_wr {K : PySem.W.Frag} {H : Hp} {a p : Addr} {xs ys : List V} {o : HO} (h : SqT K H a xs) (l : H p = some (.lst ys)) : SqT K (upd H p o) a xs :=
  sqT_kx (S := [p]) h (fun b u hb e => lk_ne2 (fun z => hb (by rw [z]; exact List.mem_cons_self)) e) (fun b hb => by rw [List.mem_singleton.mp hb]; exact ⟨ys, l⟩)
theorem pen_lst {H : Hp} {p c : Addr} {n : Nat} (h : PenAt H p c n) : ∀ b ∈ [p], ∃ ys : List V, H b = some (.lst ys) := by
  obtain ⟨cs, pl, r, hp, _⟩ := h
  intro b hb
  rw [List.mem_singleton.mp hb]
  exact ⟨_, hp⟩
/-- the rows of a heap, in a list of values -/
structure RowsT (K : PySem.W.Frag) (H : Hp) (vs : List V) (slots : List (Option Rw)) : Prop where
  len : vs.length = slots.length
  at_ : ∀ (i : Nat) (o : Option Rw), slots[i]? = some o → (o = none ∧ vs[i]? = some V.non) ∨ ∃ r row, o = some row ∧ vs[i]? = some (.ref r) ∧ SqT K H r (rowV row)
theorem RowsT.kx {S : List Addr} {K : PySem.W.Frag} {H H' : Hp} {vs : List V} {slots : List (Option Rw)} (h : RowsT K H vs slots) (k : Kx S H H') (l : ∀ b ∈ S, ∃ ys : List V, H b = some (.lst ys)) : RowsT K H' vs slots := by
  refine ⟨h.len, fun i o ho => ?_⟩
  rcases h.at_ i o ho with z | ⟨r, row, e1, e2, e3⟩
  · exact .inl z
  · exact .inr ⟨r, row, e1, e2, sqT_kx e3 k l⟩
theorem RowsT.keep {K : PySem.W.Frag} {H H' : Hp} {vs : List V} {slots : List (Option Rw)} (h : RowsT K H vs slots) (k : Kx [] H H') : RowsT K H' vs slots := h.kx k (by simp)
theorem RowsT.wr {K : PySem.W.Frag} {H : Hp} {p : Addr} {ys vs : List V} {o : HO} {slots : List (Option Rw)} (h : RowsT K H vs slots) (l : H p = some (.lst ys)) : RowsT K (upd H p o) vs slots :=
  h.kx (S := [p]) (fun b u hb e => lk_ne2 (fun z => hb (by rw [z]; exact List.mem_cons_self)) e) (fun b hb => by rw [List.mem_singleton.mp hb]; exact ⟨ys, l⟩)
theorem RowsT.set {K : PySem.W.Frag} {H : Hp} {vs : List V} {slots : List (Option Rw)} (h : RowsT K H vs slots) {n : Nat} {t : Addr} {row : Rw} (ht : SqT K H t (rowV row)) (hn : n < slots.length) : RowsT K H (vs.set n (.ref t)) (slots.set n (some row)) := by
  refine ⟨by rw [List.length_set, List.length_set]; exact h.len, fun i o ho => ?_⟩
  by_cases e : i = n
  · subst e
    rw [List.getElem?_set_self hn] at ho
    cases Option.some.inj ho
    exact .inr ⟨t, row, rfl, List.getElem?_set_self (by rw [h.len]; exact hn), ht⟩
  · rw [List.getElem?_set_ne (Ne.symm e)] at ho
    rw [List.getElem?_set_ne (Ne.symm e)]
    exact h.at_ i o ho
theorem rowV_len (a : Rw) : (rowV a).length = a.length := List.length_map _
theorem rowV_app (a b : Rw) : rowV (a ++ b) = rowV a ++ rowV b := List.map_append
/-- a row more in two rows -/
theorem Wf.put {slots : List (Option Rw)} {outs : List Int} (wf : Wf slots outs) {n : Nat} {row row' : Rw} (h : slots[n]? = some (some row)) (hl : row'.length ≤ 40) (hm : ∀ k : Nat, some k ∈ row' → some k ∈ row ∨ ∃ r, slots[k]? = some (some r)) :
    Wf (slots.set n (some row')) outs := by
  have hn := (List.getElem?_eq_some_iff.mp h).1
  have key : ∀ (k : Nat) (r : Rw), slots[k]? = some (some r) → ∃ r, (slots.set n (some row'))[k]? = some (some r) := by
    intro k r hk
    by_cases e : n = k
    · subst e
      exact ⟨row', List.getElem?_set_self hn⟩
    · exact ⟨r, by rw [List.getElem?_set_ne e]; exact hk⟩
  refine ⟨by rw [List.length_set]; exact wf.len, by rw [List.length_set]; exact wf.most, fun m hm2 => ?_, wf.outs, fun r hr => ?_, fun r hr k hk => ?_⟩
  · by_cases e : n = m
    · subst e
      rw [List.getElem?_set_self hn] at hm2
      cases hm2
    · rw [List.getElem?_set_ne e] at hm2
      exact wf.free m hm2
  · rcases List.mem_or_eq_of_mem_set hr with hr | hr
    · exact wf.row r hr
    · cases hr
      exact hl
  · rcases List.mem_or_eq_of_mem_set hr with hr | hr
    · obtain ⟨q, hq⟩ := wf.live r hr k hk
      exact key k q hq
    · cases hr
      rcases hm k hk with h1 | ⟨q, hq⟩
      · obtain ⟨q, hq⟩ := wf.live row (List.mem_of_getElem? h) k h1
        exact key k q hq
      · exact key k q hq
theorem Wf.zero {slots : List (Option Rw)} {outs : List Int} (wf : Wf slots outs) (n : Nat) : Wf slots (outs.set n 0) := by
  refine ⟨by rw [List.length_set]; exact wf.len, wf.most, fun m hm => ?_, fun z hz => ?_, wf.row, wf.live⟩
  · have := wf.free m hm
    by_cases e : n = m
    · subst e
      exact List.getElem?_set_self (List.getElem?_eq_some_iff.mp this).1
    · rw [List.getElem?_set_ne e]
      exact this
  · rcases List.mem_or_eq_of_mem_set hz with hz | rfl
    · exact wf.outs z hz
    · omega
theorem live_set {slots : List (Option Rw)} {n : Nat} {row row' : Rw} (h : slots[n]? = some (some row)) (m : Nat) : isLive (slots.set n (some row')) m = isLive slots m := by
  have hn := (List.getElem?_eq_some_iff.mp h).1
  unfold isLive
  by_cases e : n = m
  · subst e
    rw [List.getElem?_set_self hn, h]
    rfl
  · rw [List.getElem?_set_ne e]
def posUp (outs : List Int) (n : Nat) : List Int := ((List.range n).filter fun m => decide (0 < (outs[m]?).getD 0)).map fun (m : Nat) => (m : Int)
theorem posUp_succ (outs : List Int) (n : Nat) : posUp outs (n + 1) = if 0 < (outs[n]?).getD 0 then posUp outs n ++ [(n : Int)] else posUp outs n := by
  unfold posUp
  rw [List.range_succ, List.filter_append, List.map_append]
  by_cases h : 0 < (outs[n]?).getD 0
  · simp [List.filter, h]
  · simp [List.filter, h]
theorem posUp_len (outs : List Int) (n : Nat) : (posUp outs n).length ≤ n := by
  unfold posUp
  rw [List.length_map]
  exact Nat.le_trans (List.length_filter_le _ _) (by rw [List.length_range]; exact Nat.le_refl _)
theorem WI.start2 {slots : List (Option Rw)} {outs : List Int} (wf : Wf slots outs) : WI slots outs (posUp outs outs.length) (posUp outs outs.length) none := by
  have key : ∀ z, z ∈ posUp outs outs.length ↔ ∃ m : Nat, z = m ∧ m < outs.length ∧ 0 < (outs[m]?).getD 0 := by
    intro z
    unfold posUp
    rw [List.mem_map]
    constructor
    · rintro ⟨m, hm, rfl⟩
      have := List.mem_filter.mp hm
      exact ⟨m, rfl, List.mem_range.mp this.1, of_decide_eq_true this.2⟩
    · rintro ⟨m, rfl, h1, h2⟩
      exact ⟨m, List.mem_filter.mpr ⟨List.mem_range.mpr h1, decide_eq_true h2⟩, rfl⟩
  refine ⟨?_, ?_, fun _ h => h, ?_, fun _ h => .inl h⟩
  · unfold posUp
    refine List.Pairwise.map _ ?_ ((List.nodup_range).filter _)
    intro a b hab e
    exact hab (Int.ofNat.inj e)
  · intro z hz
    obtain ⟨m, rfl, hm, hp⟩ := (key z).mp hz
    rw [List.getElem?_eq_getElem hm] at hp
    have hs : m < slots.length := by rw [← wf.len]; exact hm
    refine ⟨m, rfl, .src ?_ (List.getElem?_eq_getElem hm) hp⟩
    cases e : slots[m] with
    | none =>
      have := wf.free m (by rw [List.getElem?_eq_getElem hs, e])
      rw [List.getElem?_eq_getElem hm] at this
      rw [Option.some.inj this] at hp
      exact absurd hp (by decide)
    | some row => simp [isLive, List.getElem?_eq_getElem hs, e]
  · intro n z hlv e hz
    obtain ⟨hm, em⟩ := List.getElem?_eq_some_iff.mp e
    exact (key n).mpr ⟨n, rfl, hm, by rw [e]; exact hz⟩
section
variable {P : Program} {w : World} {K : PySem.W.Frag} {mg : Str → Option Value} {base : Heap}

def spLoose (K : PySem.W.Frag) : Sp := fun vs H Q _ => ∃ (p c D : Addr) (n : Nat) (slots : List (Option Rw)) (outs : List Int), vs = [.ref p, .ref D] ∧ PenAt H p c n ∧ n ≤ 900000 ∧ HeapT K H D slots outs ∧ Wf slots outs ∧ (∃ m, isLive slots m = true) ∧
  ∀ D' slots' outs' H', HeapT K H' D' slots' outs' → Wf slots' outs' → Kx [p] H H' → PenAt H' p c (n + 100) → Q (.ref D') H'
theorem ok_loose {f : Addr} {fd : FuncData} (F : Fun K "_law_loose" "_law_loose" sQLoose f fd) (T : Txt mg) (l_law_draw : Lo P w K mg base "_law_draw" 1 ["_law_pen_here", "_law_most_one"] spDraw) :
    FnOk P w K mg base CX0 2 f fd ["_law_pen_here", "_law_base_here"] (spLoose K) := by
  refine F.ok scQLoose (fun vs H Q E h => ?_) (fun cdv A outer s H vs Q E hr h => ?_)
  · obtain ⟨p, c, D, n, slots, outs, rfl, _⟩ := h
    rfl
  · obtain ⟨p, c, D, n, slots, outs, rfl, hpen, hn, hT, wf, ⟨m0, hm0⟩, k⟩ := h
    obtain ⟨S, O, vs, hD, hS, hO, hl, hv⟩ := id hT.ex
    refine ⟨_, (pss_cons (ps_par (i := 2) (j := 3) rfl scQLoose.nd rfl rfl (by decide) rfl rfl (pa_cons (pe_callTy call_list_of (by rfl) T.b_list boot'_list (pa_cons (pe_ix ix_tup (pv 1) pe_int (fun _ _ => rfl)) pa_nil)) (pa_cons (pe_callTy call_list_of (by rfl) T.b_list boot'_list (pa_cons (pe_ix ix_tup (pv 1) pe_int (fun _ _ => rfl)) pa_nil)) pa_nil)) (by rfl))
      (pss_cons (ps_setLc (i := 4) (own := [("_law_spot", 8), ("_law_row", 9)]) rfl scQLoose.nd rfl rfl (sw_true rfl rfl rfl (by decide +kernel)) (pi_enum (by rfl) T.b_enumerate (pa_cons (pv 2) pa_nil)) (blkOk_by (N := ["_law_pen_here", "_law_base_here", "_law_rows", "_law_handles", "_law_alive", "_law_turn", "_law_one", "_law_other", "_law_spot", "_law_row"]) (sc := defScope sQLoose) (by decide +kernel)) (fun _ _ _ _ _ => (pg_tupK (K := K) (n := 2) rfl rfl (pgs_cons (pg_name (i := 8) scQLoose.nd rfl (Or.inl rfl)) (pgs_cons (pg_name (i := 9) scQLoose.nd rfl (Or.inl rfl)) pgs_nil)))) (fun _ _ _ _ _ => (pts_one (pt_cmpR op_notN1 (pv 9) pe_non (nomark _)))) (fun _ _ _ _ _ => (pv 8)))
      (pss_cons (ps_for PassesOwn.never rfl (pi_range1 (by rfl) T.b_range (pa_cons (pe_ix ix_list (pe_lst (pa_cons pe_int (pa_cons pe_int (pa_cons pe_int (pa_cons pe_int pa_nil))))) (pe_lo l_law_draw (hr.mono (by decide)) (by rfl) (pa_cons (pv 0) (pa_cons pe_int pa_nil))) (fun _ _ => rfl)) pa_nil)) (pg_name (i := 5) scQLoose.nd rfl (Or.inl rfl))
      (pss_cons (ps_set (i := 6) scQLoose.nd rfl (Or.inl rfl) (pe_ix ix_list (pv 4) (pe_lo l_law_draw (hr.mono (by decide)) (by rfl) (pa_cons (pv 0) (pa_cons (pe_callB call_len_seq (by rfl) T.b_len boot'_len (pa_cons (pv 4) pa_nil)) pa_nil))) (fun _ _ => rfl)))
      (pss_cons (ps_set (i := 7) scQLoose.nd rfl (Or.inl rfl) (pe_ix ix_list (pv 4) (pe_lo l_law_draw (hr.mono (by decide)) (by rfl) (pa_cons (pv 0) (pa_cons (pe_callB call_len_seq (by rfl) T.b_len boot'_len (pa_cons (pv 4) pa_nil)) pa_nil))) (fun _ _ => rfl)))
      (pss_one (ps_if ((pw_and (pt_cmpR op_lt (pe_callB call_len_seq (by rfl) T.b_len boot'_len (pa_cons (pe_ix ix_list (pv 2) (pv 6) (fun _ _ => rfl)) pa_nil)) (pe_op op_sub pe_int (pe_callTy call_int1 (by rfl) T.b_int boot'_int (pa_cons (pe_cmpR op_eq (pv 6) (pv 7) (nomark _)) pa_nil))) (nomark _)) (pw_and1 (pt_cmpR op_lt (pe_callB call_len_seq (by rfl) T.b_len boot'_len (pa_cons (pe_ix ix_list (pv 2) (pv 7) (fun _ _ => rfl)) pa_nil)) pe_int (nomark _))))).pt (pss_cons (ps_asg (pe_op op_catA (pe_ix ix_list (pv 2) (pv 6) (fun _ _ => rfl)) (pe_tup (pa_cons (pv 7) pa_nil))) (pg_sub (pv 2) (pv 6) set_list))
      (pss_cons (ps_asg (pe_op op_catA (pe_tup (pa_cons (pv 6) pa_nil)) (pe_ix ix_list (pv 2) (pv 7) (fun _ _ => rfl))) (pg_sub (pv 2) (pv 7) set_list))
      (pss_one (ps_if (pt_cmpR op_gt (pe_lo l_law_draw (hr.mono (by decide)) (by rfl) (pa_cons (pv 0) (pa_cons pe_int pa_nil))) pe_int (nomark _)) (pss_cons (ps_asg pe_int (pg_sub (pv 3) (pv 6) set_list))
      (pss_one (ps_asg pe_int (pg_sub (pv 3) (pv 7) set_list)))) pss_nil)))) pss_nil)))))
      (pss_one (ps_ret (pe_tup (pa_cons (pe_callTy call_tuple_of (by rfl) T.b_tuple boot'_tuple (pa_cons (pv 2) pa_nil)) (pa_cons (pe_callTy call_tuple_of (by rfl) T.b_tuple boot'_tuple (pa_cons (pv 3) pa_nil)) pa_nil)))))))), ?_⟩
    refine x_start (σ' := [some (.ref p), some (.ref D), none, none, none, none, none, none, none, none]) rfl ?_
    dsimp only [cxOf]
    have h40 := wf.most
    repeat walk_at "rd"
    intro R nR
    have hO1 : SqT K (upd H R (.lst vs)) O (outs.map V.int) := ((Kx.refl [] H).new nR).sqT (by simp) hO
    have hD1 : SqT K (upd H R (.lst vs)) D [.ref S, .ref O] := ((Kx.refl [] H).new nR).sqT (by simp) hD
    repeat walk_at "rd"
    intro G nG
    have nRG : R ≠ G := ne_of_none (show (upd H R (.lst vs)) R = some (.lst vs) from upd_same) nG
    have nG0 : H G = none := ((Kx.refl [] H).new nR).fresh (by simp) nG
    have hrt : RowsT K H vs slots := ⟨hl, hv⟩
    repeat walk_at "rd"
    generalize hG0 : upd (upd H R (.lst vs)) G (.lst (outs.map V.int)) = HG
    have k0 : Kx [] H HG := hG0 ▸ ((Kx.refl [] H).new nR).new nG
    have eR0 : HG R = some (.lst vs) := by rw [← hG0]; exact lk_ne2 nRG upd_same
    have eG0 : HG G = some (.lst (outs.map V.int)) := by rw [← hG0]; exact upd_same
    have rt0 := hrt.keep k0
    have hp0 := hpen.keep k0 (by simp) (by simp) (Nat.le_refl _)
    clear hG0
    refine y_lcE (xs := vs) (SqL.of eR0) (fun Z nZ => ⟨fun i H1 => Kx [] HG H1 ∧ H1 Z = some (.lst ((liveUp slots i).map V.int)), ⟨(Kx.refl _ _).new nZ, upd_same⟩, ?_, ?_, ?_⟩)
    · rintro i H1 hi ⟨k1, _⟩
      exact k1.sqL (by simp) (SqL.of eR0)
    · rintro i x H1 H1' hi ⟨k1, e1⟩ ⟨U, x1, x2, rfl, nU, rfl, f1, f2⟩
      cases f1
      have nUZ : Z ≠ U := ne_of_none e1 nU
      repeat walk_at "rd"
      refine ⟨rfl, ?_⟩
      have hs : i < slots.length := by omega
      repeat walk_at "rd"
      have es := List.getElem?_eq_getElem hs
      have hlen := liveUp_len slots i
      rcases hv i _ es with ⟨e, z⟩ | ⟨r, row, e, z, _⟩
      · cases Option.some.inj (z.symm.trans f2)
        refine iteF ⟨(k1.new nU), ?_⟩
        rw [liveUp_succ, if_neg (by simp [isLive, es, e])]
        exact lk_ne e1 nU
      · cases Option.some.inj (z.symm.trans f2)
        refine iteT ?_
        repeat walk_at "rd"
        refine ⟨_, lk_ne e1 nU, small1000 (by rw [List.length_map]; omega), (k1.new nU).wr (.inl nZ), ?_⟩
        rw [upd_same, liveUp_succ, if_pos (by simp [isLive, es, e]), List.map_append]
        rfl
    rintro H1 ⟨k1, eZ⟩
    rw [hl] at eZ
    have nRZ : R ≠ Z := ne_of_none eR0 nZ
    have nGZ : G ≠ Z := ne_of_none eG0 nZ
    have nZ0 : H Z = none := k0.fresh (by simp) nZ
    have k01 := k0.trans k1
    have eR1 := k1 R _ (by simp) eR0
    have eG1 := k1 G _ (by simp) eG0
    have rt1 := rt0.keep k1
    have hp1 := hp0.keep k1 (by simp) (by simp) (Nat.le_refl _)
    have hpn : ∀ {q : Addr}, H q = none → q ≠ p := fun hq e => by
      obtain ⟨⟨o, ho⟩, _⟩ := hpen.some
      rw [e, ho] at hq
      cases hq
    have hcn : ∀ {q : Addr}, H q = none → q ≠ c := fun hq e => by
      obtain ⟨_, o, ho⟩ := hpen.some
      rw [e, ho] at hq
      cases hq
    have nRp := hpn nR
    have nGp := hpn nG0
    have nZp := hpn nZ0
    have nRc := hcn nR
    have nGc := hcn nG0
    clear hrt rt0 hp0 k0 k1
    repeat walk_at "rd"
    rename_i q4 nq4
    refine x_draw (hp1.keep ((Kx.refl [] H1).new nq4) (by simp) (by simp) (Nat.le_refl _)) (by omega) (by omega) (by omega) fun s3 H2 s3l s3h k2 P2 => ?_
    have k02 := ((k01.new nq4).mono (by simp)).trans k2
    have nq4p : q4 ≠ p := fun e => by
      obtain ⟨⟨o, ho⟩, _⟩ := hp1.some
      rw [← e, nq4] at ho
      cases ho
    have hq2 : H2 q4 = some (.lst [V.int 1, V.int 1, V.int 3, V.int 8]) := k2 q4 _ (by simpa using nq4p) upd_same
    have rt2 := (rt1.keep ((Kx.refl [] H1).new nq4)).kx k2 (pen_lst (hp1.keep ((Kx.refl [] H1).new nq4) (by simp) (by simp) (Nat.le_refl _)))
    have eR2 := k2 R _ (by simpa using nRp) (lk_ne eR1 nq4)
    have eG2 := k2 G _ (by simpa using nGp) (lk_ne eG1 nq4)
    have eZ2 := k2 Z _ (by simpa using nZp) (lk_ne eZ nq4)
    obtain ⟨cnt, hat, hc0, hc1⟩ : ∃ cnt, atI [V.int 1, V.int 1, V.int 3, V.int 8] s3 = some (.int cnt) ∧ 0 ≤ cnt ∧ cnt ≤ 8 := by
      obtain ⟨z, hz, _, hz2⟩ := at_ints (zs := [1, 1, 3, 8]) s3l (by simpa using s3h)
      refine ⟨z, hz2, ?_⟩
      simp only [List.mem_cons, List.not_mem_nil, or_false] at hz
      omega
    clear k2 rt1 hp1 eR1 eG1 eZ k01
    repeat walk_at "rd"
    have hlpos : 0 < (liveUp slots slots.length).length := by
      obtain ⟨_, _, hl0⟩ := live_lt hm0
      exact List.length_pos_of_mem (liveUp_mem.mpr ⟨m0, rfl, hl0, hm0⟩)
    have hlle := liveUp_len slots slots.length
    have hpick : ∀ {d : Int}, 0 ≤ d → d < (liveUp slots slots.length).length → ∃ m : Nat, atI ((liveUp slots slots.length).map V.int) d = some (.int (m : Int)) ∧ isLive slots m = true := by
      intro d h0 h1
      obtain ⟨z, hz, _, hz2⟩ := at_ints h0 h1
      obtain ⟨m, rfl, _, hm⟩ := liveUp_mem.mp hz
      exact ⟨m, hz2, hm⟩
    refine y_forR1 hc0 (by omega) ⟨fun i σ H3 => ∃ (slots' : List (Option Rw)) (outs' : List Int) (vs' : List V) (y5 y6 y7 : Option V), σ = [some (.ref p), some (.ref D), some (.ref R), some (.ref G), some (.ref Z), y5, y6, y7, none, none] ∧
      H3 R = some (.lst vs') ∧ RowsT K H3 vs' slots' ∧ H3 G = some (.lst (outs'.map V.int)) ∧ Wf slots' outs' ∧ (∀ m, isLive slots' m = isLive slots m) ∧ H3 Z = some (.lst ((liveUp slots slots.length).map V.int)) ∧ Kx [p] H H3 ∧ PenAt H3 p c (n + 1 + 3 * i),
      ⟨slots, outs, vs, none, none, none, rfl, eR2, rt2, eG2, wf, fun _ => rfl, eZ2, k02, P2.keep (Kx.refl [] _) (by simp) (by simp) (by omega)⟩, fun _ _ _ _ _ => trivial, ?_, ?_⟩
    · rintro i x σ H3 H3' hi ⟨slots', outs', vs', y5, y6, y7, rfl, eR3, rt3, eG3, wf3, lv3, eZ3, k3, P3⟩ ⟨rfl, rfl⟩
      have hi8 : i < 8 := by omega
      repeat walk_at "rd"
      refine x_draw P3 (by omega) (by rw [List.length_map]; omega) (by rw [List.length_map]; omega) fun d1 H4 d1l d1h k4 P4 => ?_
      rw [List.length_map] at d1h
      obtain ⟨m1, hat1, hm1⟩ := hpick d1l d1h
      have k04 := k3.trans k4
      have rt4 := rt3.kx k4 (pen_lst P3)
      have eR4 := k4 R _ (by simpa using nRp) eR3
      have eG4 := k4 G _ (by simpa using nGp) eG3
      have eZ4 := k4 Z _ (by simpa using nZp) eZ3
      clear k4 rt3 eR3 eG3 eZ3 k3 P3
      repeat walk_at "rd"
      refine x_draw P4 (by omega) (by rw [List.length_map]; omega) (by rw [List.length_map]; omega) fun d2 H5 d2l d2h k5 P5 => ?_
      rw [List.length_map] at d2h
      obtain ⟨m2, hat2, hm2⟩ := hpick d2l d2h
      have k05 := k04.trans k5
      have rt5 := rt4.kx k5 (pen_lst P4)
      have eR5 := k5 R _ (by simpa using nRp) eR4
      have eG5 := k5 G _ (by simpa using nGp) eG4
      have eZ5 := k5 Z _ (by simpa using nZp) eZ4
      clear k5 rt4 eR4 eG4 eZ4 k04 P4
      rw [← lv3] at hm1 hm2
      obtain ⟨row1, e1, hl1⟩ := live_lt hm1
      obtain ⟨row2, e2, hl2⟩ := live_lt hm2
      rcases rt5.at_ m1 _ e1 with ⟨e', _⟩ | ⟨r1, _, e', z1, t1⟩
      · cases e'
      cases Option.some.inj e'
      rcases rt5.at_ m2 _ e2 with ⟨e', _⟩ | ⟨r2, _, e', z2, t2⟩
      · cases e'
      cases Option.some.inj e'
      have a1 : atI vs' (m1 : Int) = some (.ref r1) := atI_nat z1
      have a2 : atI vs' (m2 : Int) = some (.ref r2) := atI_nat z2
      have g1 := wf3.row row1 (List.mem_of_getElem? e1)
      have g2 := wf3.row row2 (List.mem_of_getElem? e2)
      repeat walk_at "rd"
      have hsame : ∃ (slots' : List (Option Rw)) (outs' : List Int) (vs' : List V) (y5 y6 y7 : Option V), [some (V.ref p), some (V.ref D), some (V.ref R), some (V.ref G), some (V.ref Z), some (V.int (0 + (i : Int))), some (V.int (m1 : Int)), some (V.int (m2 : Int)), none, none] = [some (.ref p), some (.ref D), some (.ref R), some (.ref G), some (.ref Z), y5, y6, y7, none, none] ∧
          H5 R = some (.lst vs') ∧ RowsT K H5 vs' slots' ∧ H5 G = some (.lst (outs'.map V.int)) ∧ Wf slots' outs' ∧ (∀ m, isLive slots' m = isLive slots m) ∧ H5 Z = some (.lst ((liveUp slots slots.length).map V.int)) ∧ Kx [p] H H5 ∧ PenAt H5 p c (n + 1 + 3 * (i + 1)) :=
        ⟨slots', outs', vs', _, _, _, rfl, eR5, rt5, eG5, wf3, lv3, eZ5, k05, P5.keep (Kx.refl [] _) (by simp) (by simp) (by omega)⟩
      by_cases hc1 : ((rowV row1).length : Int) < 40 - if decide (V.int (m1 : Int) = V.int (m2 : Int)) = true then 1 else 0
      · refine iteP (decide_eq_true hc1) ?_
        repeat walk_at "rd"
        by_cases hc2 : ((rowV row2).length : Int) < 40
        · refine iteP (decide_eq_true hc2) ?_
          clear hsame
          repeat walk_at "rd"
          rename_i t nt
          rw [rowV_len] at hc1 hc2
          have b1 : row1.length < 40 := by split at hc1 <;> omega
          have kt := (Kx.refl [] H5).new (o := .tup [V.int (m2 : Int)]) nt
          refine x_cat (kt.sqT (by simp) t1) (SqT.of upd_same) (Nat.le_of_lt (small1000 (by rw [rowV_len]; show row1.length + 1 ≤ 1000; omega))) fun q H6 hq k6 => ?_
          replace k6 := kt.trans k6
          have hq6 : SqT K H6 q (rowV (row1 ++ [some m2])) := by rw [rowV_app]; exact hq
          have rt6 := (rt5.keep k6).set hq6 hl1
          have eR6 := k6 R _ (by simp) eR5
          have eG6 := k6 G _ (by simp) eG5
          have eZ6 := k6 Z _ (by simp) eZ5
          have P6 := P5.keep k6 (by simp) (by simp) (Nat.le_refl _)
          have k06 := k05.trans (k6.mono (by simp))
          have hix1 : ixN vs'.length (m1 : Int) = some m1 := ix_nat (by rw [rt5.len]; exact hl1)
          have wf6 := wf3.put e1 (row' := row1 ++ [some m2]) (by rw [List.length_append]; show row1.length + 1 ≤ 40; omega) (fun k hk => by
            rcases List.mem_append.mp hk with h | h
            · exact .inl h
            · cases Option.some.inj (List.mem_singleton.mp h)
              exact .inr ⟨row2, e2⟩)
          have lv6 : ∀ m, isLive (slots'.set m1 (some (row1 ++ [some m2]))) m = isLive slots m := fun m => (live_set e1 m).trans (lv3 m)
          obtain ⟨row3, e3, hl3⟩ := live_lt (m := m2) (by rw [lv6, ← lv3]; exact hm2)
          have b3 : row3.length < 40 := by
            by_cases e : m1 = m2
            · subst e
              rw [List.getElem?_set_self hl1] at e3
              cases Option.some.inj (Option.some.inj e3)
              rw [if_pos (by simp)] at hc1
              rw [List.length_append]
              show row1.length + 1 < 40
              omega
            · rw [List.getElem?_set_ne e, e2] at e3
              cases Option.some.inj (Option.some.inj e3)
              omega
          have hl13 : m1 < (slots'.set m1 (some (row1 ++ [some m2]))).length := by rw [List.length_set]; exact hl1
          have hl23 : m2 < (slots'.set m1 (some (row1 ++ [some m2]))).length := by rw [List.length_set]; exact hl2
          have e13 : ∃ r, (slots'.set m1 (some (row1 ++ [some m2])))[m1]? = some (some r) := ⟨_, List.getElem?_set_self hl1⟩
          clear hq kt t1 t2 rt5 eR5 eG5 eZ5 P5 k05 k6 a1 a2 hc1 hc2
          repeat walk_at "rd"
          rename_i t' nt'
          have rt7 := rt6.wr (o := .lst (vs'.set m1 (.ref q))) eR6
          have eR7 : upd H6 R (.lst (vs'.set m1 (.ref q))) R = _ := upd_same
          have eG7 := lk_ne2 (o := .lst (vs'.set m1 (.ref q))) nRG.symm eG6
          have eZ7 := lk_ne2 (o := .lst (vs'.set m1 (.ref q))) nRZ.symm eZ6
          have P7 := P6.up (upd_ne (o := .lst (vs'.set m1 (.ref q))) nRp.symm) (upd_ne nRc.symm) (Nat.le_refl _)
          have k07 := k06.wr (p := R) (o := .lst (vs'.set m1 (.ref q))) (.inl nR)
          generalize upd H6 R (.lst (vs'.set m1 (.ref q))) = H7 at *
          clear rt6 eR6 eG6 eZ6 P6 k06 hq6
          generalize hS1 : slots'.set m1 (some (row1 ++ [some m2])) = S1 at *
          generalize hvs1 : vs'.set m1 (.ref q) = vs1 at *
          rcases rt7.at_ m2 _ e3 with ⟨e', _⟩ | ⟨r3, _, e', z3, t3⟩
          · cases e'
          cases Option.some.inj e'
          have a3 : atI vs1 (m2 : Int) = some (.ref r3) := atI_nat z3
          have hix2 : ixN vs1.length (m2 : Int) = some m2 := ix_nat (by rw [rt7.len]; exact hl23)
          repeat walk_at "rd"
          have kt := (Kx.refl [] H7).new (o := .tup [V.int (m1 : Int)]) nt'
          refine x_cat (SqT.of upd_same) (kt.sqT (by simp) t3) (Nat.le_of_lt (small1000 (by rw [rowV_len]; show 1 + row3.length ≤ 1000; omega))) fun q2 H8 hq k8 => ?_
          replace k8 := kt.trans k8
          have hq8 : SqT K H8 q2 (rowV (some m1 :: row3)) := hq
          have rt8 := (rt7.keep k8).set hq8 hl23
          have eR8 := k8 R _ (by simp) eR7
          have eG8 := k8 G _ (by simp) eG7
          have eZ8 := k8 Z _ (by simp) eZ7
          have P8 := P7.keep k8 (by simp) (by simp) (Nat.le_refl _)
          have k08 := k07.trans (k8.mono (by simp))
          have wf8 := wf6.put e3 (row' := some m1 :: row3) (by show row3.length + 1 ≤ 40; omega) (fun k hk => by
            rcases List.mem_cons.mp hk with h | h
            · cases Option.some.inj h
              exact .inr e13
            · exact .inl h)
          have lv8 : ∀ m, isLive (S1.set m2 (some (some m1 :: row3))) m = isLive slots m := fun m => (live_set e3 m).trans (lv6 m)
          have hlo1 : m1 < outs'.length := by rw [wf3.len]; exact hl1
          have hlo2 : m2 < outs'.length := by rw [wf3.len]; exact hl2
          clear hq kt t3 rt7 eR7 eG7 eZ7 P7 k07 k8 a3 hq8
          repeat walk_at "rd"
          have rt9 := rt8.wr (o := .lst (vs1.set m2 (.ref q2))) eR8
          have eR9 : upd H8 R (.lst (vs1.set m2 (.ref q2))) R = _ := upd_same
          have eG9 := lk_ne2 (o := .lst (vs1.set m2 (.ref q2))) nRG.symm eG8
          have eZ9 := lk_ne2 (o := .lst (vs1.set m2 (.ref q2))) nRZ.symm eZ8
          have P9 := P8.up (upd_ne (o := .lst (vs1.set m2 (.ref q2))) nRp.symm) (upd_ne nRc.symm) (Nat.le_refl _)
          have k09 := k08.wr (p := R) (o := .lst (vs1.set m2 (.ref q2))) (.inl nR)
          generalize upd H8 R (.lst (vs1.set m2 (.ref q2))) = H9 at *
          clear rt8 eR8 eG8 eZ8 P8 k08
          generalize hS2 : S1.set m2 (some (some m1 :: row3)) = S2 at *
          generalize hvs2 : vs1.set m2 (.ref q2) = vs2 at *
          refine x_draw P9 (by omega) (by omega) (by omega) fun d3 HA d3l d3h kA PA => ?_
          have k0A := k09.trans kA
          have rtA := rt9.kx kA (pen_lst P9)
          have eRA := kA R _ (by simpa using nRp) eR9
          have eGA := kA G _ (by simpa using nGp) eG9
          have eZA := kA Z _ (by simpa using nZp) eZ9
          clear kA rt9 eR9 eG9 eZ9 k09 P9
          have hj1 : ixN (outs'.map V.int).length (m1 : Int) = some m1 := ix_nat (by rw [List.length_map]; exact hlo1)
          have hj2 : ixN ((outs'.map V.int).set m1 (.int 0)).length (m2 : Int) = some m2 := ix_nat (by rw [List.length_set, List.length_map]; exact hlo2)
          repeat walk_at "rd"
          by_cases hd : 0 < d3
          · refine iteP (decide_eq_true hd) ?_
            repeat walk_at "rd"
            refine ⟨S2, (outs'.set m1 0).set m2 0, vs2, _, _, _, rfl, lk_ne2 nRG (lk_ne2 nRG eRA), (rtA.wr eGA).wr upd_same, by rw [upd_same, List.map_set, List.map_set], (wf8.zero m1).zero m2, lv8, lk_ne2 nGZ.symm (lk_ne2 nGZ.symm eZA), (k0A.wr (.inl nG0)).wr (.inl nG0), ?_⟩
            exact (PA.up (upd_ne nGp.symm) (upd_ne nGc.symm) (Nat.le_refl _)).up (upd_ne nGp.symm) (upd_ne nGc.symm) (by omega)
          · refine iteN (decide_eq_false hd) ?_
            repeat walk_at "rd"
            exact ⟨S2, outs', vs2, _, _, _, rfl, eRA, rtA, eGA, wf8, lv8, eZA, k0A, PA.keep (Kx.refl [] _) (by simp) (by simp) (by omega)⟩
        · refine iteN (decide_eq_false hc2) ?_
          repeat walk_at "rd"
          exact hsame
      · refine iteN (decide_eq_false hc1) ?_
        refine iteF ?_
        repeat walk_at "rd"
        exact hsame
    · rintro σ H3 ⟨slots', outs', vs', y5, y6, y7, rfl, eR3, rt3, eG3, wf3, lv3, eZ3, k3, P3⟩
      repeat walk_at "rd"
      intro S' nS
      repeat walk_at "rd"
      intro O' nO
      repeat walk_at "rd"
      rename_i D' nD
      have kf : Kx [] H3 (upd (upd (upd H3 S' (.tup vs')) O' (.tup (outs'.map V.int))) D' (.tup [.ref S', .ref O'])) := (((Kx.refl [] H3).new nS).new nO).new nD
      have rtf := rt3.keep kf
      exact k D' slots' outs' _ ⟨S', O', vs', SqT.of upd_same, SqT.of (by walk_at "lk"), SqT.of (by walk_at "lk"), rtf.len, rtf.at_⟩ wf3 (k3.trans (kf.mono (by simp))) (P3.keep kf (by simp) (by simp) (by omega))
def spReached (K : PySem.W.Frag) : Sp := fun vs H Q _ => ∃ (D : Addr) (slots : List (Option Rw)) (outs : List Int), vs = [.ref D] ∧ HeapT K H D slots outs ∧ Wf slots outs ∧
  ∀ p H' ns, H p = none → Kx [] H H' → H' p = some (.lst (ns.map V.int)) → IsR slots outs ns → Q (.ref p) H'
theorem ok_reached {f : Addr} {fd : FuncData} (F : Fun K "_law_reached" "_law_reached" sQReached f fd) (T : Txt mg) : FnOk P w K mg base CX0 1 f fd ["_law_base_here"] (spReached K) := by
  refine F.ok scQReached (fun vs H Q E h => ?_) (fun cdv A outer s H vs Q E hr h => ?_)
  · obtain ⟨D, slots, outs, rfl, _⟩ := h
    rfl
  · obtain ⟨D, slots, outs, rfl, hT, wf, k⟩ := h
    obtain ⟨S, O, vs, hD, hS, hO, hl, hv⟩ := id hT.ex
    refine ⟨_, (pss_cons (ps_asg (pv 0) (pg_tup rfl (pgs_cons (pg_name (i := 1) scQReached.nd rfl (Or.inl rfl)) (pgs_cons (pg_name (i := 2) scQReached.nd rfl (Or.inl rfl)) pgs_nil))))
      (pss_cons (ps_setLc (i := 3) (own := [("_law_spot", 6), ("_law_number", 7)]) rfl scQReached.nd rfl rfl (sw_true rfl rfl rfl (by decide +kernel)) (pi_enumT (by rfl) T.b_enumerate (pa_cons (pv 2) pa_nil)) (blkOk_by (N := ["_law_base_here", "_law_rows", "_law_handles", "_law_found", "_law_at", "_law_entry", "_law_spot", "_law_number"]) (sc := defScope sQReached) (by decide +kernel)) (fun _ _ _ _ _ => (pg_tupK (K := K) (n := 2) rfl rfl (pgs_cons (pg_name (i := 6) scQReached.nd rfl (Or.inl rfl)) (pgs_cons (pg_name (i := 7) scQReached.nd rfl (Or.inl rfl)) pgs_nil)))) (fun _ _ _ _ _ => (pts_one (pt_cmpR op_gt (pv 7) pe_int (nomark _)))) (fun _ _ _ _ _ => (pv 6)))
      (pss_cons (ps_set (i := 4) scQReached.nd rfl (Or.inl rfl) pe_int)
      (pss_cons (ps_while PassesOwn.never (pt_cmpR op_lt (pv 4) (pe_callB call_len_seq (by rfl) T.b_len boot'_len (pa_cons (pv 3) pa_nil)) (nomark _))
      (pss_cons (ps_for PassesOwn.never rfl (pi_tup (pe_ix ix_tup (pv 1) (pe_ix ix_list (pv 3) (pv 4) (fun _ _ => rfl)) (fun _ _ => rfl))) (pg_name (i := 5) scQReached.nd rfl (Or.inl rfl))
      (pss_one (ps_if ((pw_and (pt_cmpR op_notN1 (pv 5) pe_non (nomark _)) (pw_and1 (pt_cmpR op_notIn_seq (pv 5) (pv 3) (by with_unfolding_all rfl))))).pt (pss_one (ps_expr (pe_bm PySem.F.plainAttrs_list PySem.F.slot_list_append PySem.F.type_list_append mt_append (pv 3) (pa_cons (pv 5) pa_nil)))) pss_nil)))
      (pss_one (ps_set (i := 4) scQReached.nd rfl (Or.inl rfl) (pe_op op_add (pv 4) pe_int)))))
      (pss_one (ps_ret (pe_callB cr_sortedI (by rfl) T.b_sorted boot'_sorted (pa_cons (pv 3) pa_nil)))))))), ?_⟩
    refine x_start (σ' := [some (.ref D), none, none, none, none, none, none, none]) rfl ?_
    dsimp only [cxOf]
    have h40 := wf.most
    repeat walk_at "rd"
    refine y_lcET (xs := outs.map V.int) hO (fun Z nZ => ⟨fun i H1 => Kx [] H H1 ∧ H1 Z = some (.lst ((posUp outs i).map V.int)), ⟨(Kx.refl _ _).new nZ, upd_same⟩, ?_, ?_, ?_⟩)
    · rintro i H1 hi ⟨k1, _⟩
      exact k1.sqT (by simp) hO
    · rintro i x H1 H1' hi ⟨k1, e1⟩ ⟨U, x1, x2, rfl, nU, rfl, f1, f2⟩
      cases f1
      rw [List.length_map] at hi
      replace f2 : (outs.map V.int)[i]? = some x2 := f2
      rw [List.getElem?_map, List.getElem?_eq_getElem hi] at f2
      cases Option.some.inj f2
      have nUZ : Z ≠ U := ne_of_none e1 nU
      have hlo := wf.len
      repeat walk_at "rd"
      refine ⟨rfl, ?_⟩
      have hlen := posUp_len outs i
      repeat walk_at "rd"
      by_cases h0 : 0 < outs[i]
      · refine iteP (decide_eq_true h0) ?_
        repeat walk_at "rd"
        refine ⟨_, lk_ne e1 nU, small1000 (by rw [List.length_map]; omega), (k1.new nU).wr (.inl nZ), ?_⟩
        rw [upd_same, posUp_succ, if_pos (by rw [List.getElem?_eq_getElem hi]; exact h0), List.map_append]
        rfl
      · refine iteN (decide_eq_false h0) ⟨k1.new nU, ?_⟩
        rw [posUp_succ, if_neg (by rw [List.getElem?_eq_getElem hi]; exact h0)]
        exact lk_ne e1 nU
    rintro H1 ⟨k1, e1⟩
    rw [List.length_map] at e1
    have nZ0 : H Z = none := by assumption
    repeat walk_at "rd"
    refine ⟨fun m σ H3 => ∃ (ks : List Int) (at' : Nat) (y5 : Option V), σ = [some (.ref D), some (.ref S), some (.ref O), some (.ref Z), some (.int (at' : Int)), y5, none, none] ∧ Kx [] H H3 ∧ H3 Z = some (.lst (ks.map V.int)) ∧
      WI slots outs ks (ks.drop at') none ∧ at' ≤ ks.length ∧ m = slots.length - at', ⟨_, _, 0, none, rfl, k1, e1, WI.start2 wf, Nat.zero_le _, rfl⟩, ?_⟩
    rintro m σ H3 ⟨ks, at', y5, rfl, k3, e3, wi, hat, rfl⟩
    have hk40 := wi.len wf
    repeat walk_at "rd"
    rw [List.length_map]
    by_cases hlt : at' < ks.length
    · refine iteP (decide_eq_true (by omega)) (x_turn ?_)
      obtain ⟨n, en, hR0⟩ := wi.re ks[at'] (List.getElem_mem hlt)
      obtain ⟨row, er, hnl⟩ := live_lt (hR0.live wf)
      have at1 : atI (ks.map V.int) (at' : Int) = some (.int (n : Int)) := atI_nat (by rw [List.getElem?_map, List.getElem?_eq_getElem hlt, en]; rfl)
      rcases hv n _ er with ⟨e', _⟩ | ⟨r, row', e', zr, hR⟩
      · cases e'
      cases Option.some.inj e'
      have at2 : atI vs (n : Int) = some (V.ref r) := atI_nat zr
      have hS3 := k3.sqT (by simp) hS
      have hr3 := k3.sqT (by simp) hR
      have hdr : ks.drop at' = (n : Int) :: ks.drop (at' + 1) := by rw [← en]; exact List.drop_eq_getElem_cons hlt
      have wi0 := wi.pop (a := n) (ps' := ks.drop (at' + 1)) (fun z hz => by rw [hdr]; exact List.mem_cons_of_mem _ hz) (fun z hz => by
        rw [hdr] at hz
        rcases List.mem_cons.mp hz with h | h
        · exact .inr h
        · exact .inl h)
      repeat walk_at "rd"
      refine y_forT (xs := rowV row) hr3 ⟨fun i σ H5 => ∃ (ks' : List Int) (y5 : Option V), σ = [some (.ref D), some (.ref S), some (.ref O), some (.ref Z), some (.int (at' : Int)), y5, none, none] ∧ Kx [] H H5 ∧
        H5 Z = some (.lst (ks'.map V.int)) ∧ WI slots outs ks' (ks'.drop (at' + 1)) (some n) ∧ at' < ks'.length ∧ (∀ m : Nat, some m ∈ row.take i → (m : Int) ∈ ks'),
        ⟨ks, y5, rfl, k3, e3, wi0, hlt, by simp⟩, ?_, ?_, ?_⟩
      · rintro i σ H5 hi ⟨_, _, rfl, k5, _⟩
        exact k5.sqT (by simp) hR
      · rintro i x σ H5 H5' hi ⟨ks', y5, rfl, k5, e5, wi5, hlt5, hin⟩ ⟨rfl, hx⟩
        have hi2 : i < row.length := by simpa [rowV] using hi
        have hrow : row[i]? = some row[i] := List.getElem?_eq_getElem hi2
        have hx2 : slotV row[i] = x := by
          unfold rowV at hx
          rw [List.getElem?_map, hrow] at hx
          exact Option.some.inj hx
        have htake : row.take (i + 1) = row.take i ++ [row[i]] := by rw [List.take_add_one, hrow]; rfl
        have hlen5 := wi5.len wf
        cases hc : row[i] with
        | none =>
          rw [hc] at hx2
          obtain rfl : V.non = x := hx2
          repeat walk_at "rd"
          refine iteF ?_
          repeat walk_at "rd"
          refine ⟨ks', _, rfl, k5, e5, wi5, hlt5, fun m hm => ?_⟩
          rw [htake, hc] at hm
          exact hin m (by simpa using hm)
        | some m =>
          rw [hc] at hx2
          obtain rfl : V.int (m : Int) = x := hx2
          have hRm : Reach slots outs m := .step hR0 (by rw [rowOf_some er, ← hc]; exact List.getElem_mem hi2)
          repeat walk_at "rd"
          refine iteT ?_
          repeat walk_at "rd"
          rw [in_int]
          by_cases hm0 : (m : Int) ∈ ks'
          · rw [decide_eq_true hm0]
            refine iteF ?_
            repeat walk_at "rd"
            refine ⟨ks', _, rfl, k5, e5, wi5, hlt5, fun b hb => ?_⟩
            rw [htake, hc] at hb
            rcases List.mem_append.mp hb with hb | hb
            · exact hin b hb
            · cases Option.some.inj (List.mem_singleton.mp hb)
              exact hm0
          · rw [decide_eq_false hm0]
            refine iteT ?_
            have hadd := wi5.add hRm hm0
            have hz1 : (ks'.map V.int).length < sizeLine := small1000 (by rw [List.length_map]; omega)
            repeat walk_at "rd"
            refine ⟨ty_list (SqL.of e5), ?_⟩
            repeat walk_at "rd"
            refine ⟨ks' ++ [(m : Int)], _, rfl, k5.wr (.inl nZ0), by rw [upd_same, List.map_append]; rfl, by rw [List.drop_append_of_le_length (by omega)]; exact hadd, by rw [List.length_append]; omega, fun b hb => ?_⟩
            rw [htake, hc] at hb
            rcases List.mem_append.mp hb with hb | hb
            · exact List.mem_append_left _ (hin b hb)
            · cases Option.some.inj (List.mem_singleton.mp hb)
              exact List.mem_append_right _ List.mem_cons_self
      · rintro σ H5 ⟨ks', y5, rfl, k5, e5, wi5, hlt5, hin⟩
        rw [rowV_len, List.take_length] at hin
        have hlen5 := wi5.len wf
        repeat walk_at "rd"
        exact ⟨slots.length - (at' + 1), by omega, ks', at' + 1, _, rfl, k5, e5, wi5.done fun b hb => hin b (by rw [← rowOf_some er]; exact hb), hlt5, rfl⟩
    · refine iteN (decide_eq_false (by omega)) ?_
      have hd : ks.drop at' = [] := List.drop_eq_nil_of_le (by omega)
      rw [hd] at wi
      repeat walk_at "rd"
      refine x_sortedL (SqL.of e3) fun ns q pm up nq => ?_
      exact k q _ ns (k3.fresh (by simp) nq) (k3.new nq) upd_same (IsR.of wi pm up)
end


theorem good_reach {slots : List (Option Rw)} {outs ns : List Int} (wf : Wf slots outs) (h : IsR slots outs ns) : Good (.list (ns.map PyData.int)) 1 (40 * 32) := by
  have hb : ∀ z ∈ ns, 0 ≤ z ∧ z < slots.length := fun z hz => by
    obtain ⟨n, rfl, r⟩ := (h.mem z).mp hz
    obtain ⟨_, _, hl⟩ := live_lt (r.live wf)
    omega
  have h40 := wf.most
  refine Good.list (k := 0) (w := 31) (n := 40) ?_ (by rw [List.length_map]; exact Nat.le_trans (nodup_len h.nd hb) h40)
  intro d hd
  obtain ⟨z, hz, rfl⟩ := List.mem_map.mp hd
  have := hb z hz
  exact Good.int (by omega)
section
variable {P : Program} {w : World} {K : PySem.W.Frag} {mg : Str → Option Value} {base : Heap}

def spRight (K : PySem.W.Frag) : Sp := fun vs H Q _ => ∃ (D : Addr) (slots : List (Option Rw)) (outs : List Int), vs = [.ref D] ∧ HeapT K H D slots outs ∧ Wf slots outs ∧ ∀ H', Kx [] H H' → Q (.bl true) H'
theorem ok_right {f : Addr} {fd : FuncData} (F : Fun K "_law_right" "_law_right" sQRight f fd) (T : Txt mg) (l_reachable : Lo P w K mg base "reachable" 3 ["heap"] (spReach K)) (k_reachable : Lkw P w K mg base "reachable" 3 ["heap"] ["heap"] id (spReach K))
    (l_law_reached : Lo P w K mg base "_law_reached" 1 ["_law_base_here"] (spReached K)) : FnG P w K mg base 4 f fd ["_law_base_here"] (spRight K) := by
  refine FnG.body F scQRight (fun vs H Q E h => ?_) (fun cdv A outer s H vs Q E hgd hr h => ?_)
  · obtain ⟨D, slots, outs, rfl, _⟩ := h
    rfl
  · obtain ⟨D, slots, outs, rfl, hH, wf, k⟩ := h
    have hdp := hH.dp
    have gh := good_heap wf
    obtain ⟨S, O, vs, hD, hS, hO, hl, hv⟩ := id hH.ex
    refine ⟨_, (pss_cons (ps_set (i := 1) scQRight.nd rfl (Or.inl rfl) (pe_callB (call_repr hgd hr.units) (by rfl) T.b_repr boot'_repr (pa_cons (pv 0) pa_nil)))
      (pss_cons (ps_set (i := 2) scQRight.nd rfl (Or.inl rfl) (pe_lo l_law_reached (hr.mono (by decide)) (by rfl) (pa_cons (pv 0) pa_nil)))
      (pss_cons (ps_set (i := 3) scQRight.nd rfl (Or.inr rfl) (pe_lo l_reachable (hr.mono (by decide)) (by rfl) (pa_cons (pv 0) pa_nil)))
      (pss_cons (ps_if ((pw_or (pt_cmpR op_ne (pe_callB (call_repr hgd hr.units) (by rfl) T.b_repr boot'_repr (pa_cons (pv 3) pa_nil)) (pe_callB (call_repr hgd hr.units) (by rfl) T.b_repr boot'_repr (pa_cons (pv 2) pa_nil)) (nomark _)) (pw_or1 (pt_cmpR op_ne (pe_callB (call_repr hgd hr.units) (by rfl) T.b_repr boot'_repr (pa_cons (pe_lkw k_reachable (hr.mono (by decide)) (by rfl) (pk_cons (pv 0) pk_nil)) pa_nil)) (pe_callB (call_repr hgd hr.units) (by rfl) T.b_repr boot'_repr (pa_cons (pv 2) pa_nil)) (nomark _))))).pt (pss_one (ps_ret pe_bl)) pss_nil)
      (pss_cons (ps_for PassesOwn.never rfl (pi_list (pv 2)) (pg_name (i := 4) scQRight.nd rfl (Or.inl rfl))
      (pss_one (ps_if (pt_cmpR (op_neD hr.units) (pe_lc (own := [("_law_entry", 5)]) rfl scQRight.nd (pi_tup (pe_ix ix_tup (pe_ix ix_tup (pv 0) pe_int (fun _ _ => rfl)) (pv 4) (fun _ _ => rfl))) (blkOk_by (N := ["_law_base_here", "_law_before", "_law_expected", "_law_found", "_law_spot", "_law_entry"]) (sc := defScope sQRight) (by decide +kernel)) (fun _ _ _ _ _ => (pg_name (i := 5) scQRight.nd rfl (Or.inl rfl))) (fun _ _ _ _ _ => (pts_one ((pw_and (pt_cmpR op_notN1 (pv 5) pe_non (nomark _)) (pw_and1 (pt_cmpR (op_notIn_seqK (K := K)) (pv 5) (pv 3) (by with_unfolding_all rfl))))).pt)) (fun _ _ _ _ _ => pe_int)) (pe_lst pa_nil) (nomark _)) (pss_one (ps_ret pe_bl)) pss_nil)))
      (pss_cons (ps_expr (pe_bm PySem.F.plainAttrs_list PySem.F.slot_list_append PySem.F.type_list_append mt_append (pv 3) (pa_cons pe_int pa_nil)))
      (pss_one (ps_ret (pe_and (pe_cmpR op_eq (pe_callB (call_repr hgd hr.units) (by rfl) T.b_repr boot'_repr (pa_cons (pe_lo l_reachable (hr.mono (by decide)) (by rfl) (pa_cons (pv 0) pa_nil)) pa_nil)) (pe_callB (call_repr hgd hr.units) (by rfl) T.b_repr boot'_repr (pa_cons (pv 2) pa_nil)) (nomark _)) (pe_one (pe_cmpR op_eq (pe_callB (call_repr hgd hr.units) (by rfl) T.b_repr boot'_repr (pa_cons (pv 0) pa_nil)) (pv 1) (nomark _)))))))))))), ?_⟩
    refine x_start (σ' := [some (.ref D), none, none, none, none, none]) rfl ?_
    dsimp only [cxOf]
    have h40 := wf.most
    repeat walk_at "rd"
    refine x_repr hdp gh (by decide) (by decide) ?_
    repeat walk_at "rd"
    refine ⟨D, slots, outs, rfl, hH, wf, fun Z H1 ns nZ k1 eZ hR => ?_⟩
    have gr := good_reach wf hR
    have hkeep : ∀ {H2 : Hp}, Kx [] H H2 → HeapT K H2 D slots outs := fun kk => hH.keep kk
    repeat walk_at "rd"
    refine ⟨D, slots, outs, rfl, hkeep k1, wf, fun L H2 ns2 nL k2 eL hR2 => ?_⟩
    cases hR2.uniq hR
    have k02 := k1.trans k2
    have eZ2 := k2 Z _ (by simp) eZ
    have nL0 : H L = none := k1.fresh (by simp) nL
    have nZL : Z ≠ L := ne_of_none eZ nL
    repeat walk_at "rd"
    refine x_repr (.lst (SqL.of eL) (dp_intsT _)) gr (by decide) (by decide) ?_
    repeat walk_at "rd"
    refine x_repr (.lst (SqL.of eZ2) (dp_intsT _)) gr (by decide) (by decide) ?_
    repeat walk_at "rd"
    refine ite2 (fun hc => absurd hc (by simp)) (fun _ => ?_)
    repeat walk_at "rd"
    refine ⟨D, slots, outs, rfl, hkeep k02, wf, fun L3 H3 ns3 nL3 k3 eL3 hR3 => ?_⟩
    cases hR3.uniq hR
    have k03 := k02.trans k3
    have eZ3 := k3 Z _ (by simp) eZ2
    have eL2 := k3 L _ (by simp) eL
    repeat walk_at "rd"
    refine x_repr (.lst (SqL.of eL3) (dp_intsT _)) gr (by decide) (by decide) ?_
    repeat walk_at "rd"
    refine x_repr (.lst (SqL.of eZ3) (dp_intsT _)) gr (by decide) (by decide) ?_
    repeat walk_at "rd"
    refine ite2 (fun hc => absurd hc (by simp)) (fun _ => ?_)
    repeat walk_at "rd"
    refine y_forL (xs := ns.map V.int) (SqL.of eZ3) ⟨fun i σ H4 => ∃ y4 : Option V, σ = [some (.ref D), some (.str (heapD slots outs).shown), some (.ref Z), some (.ref L), y4, none] ∧ Kx [] H H4 ∧ H4 Z = some (.lst (ns.map V.int)) ∧ H4 L = some (.lst (ns.map V.int)),
      ⟨none, rfl, k03, eZ3, eL2⟩, ?_, ?_, ?_⟩
    · rintro i σ H4 hi ⟨y4, rfl, k4, e4, f4⟩
      exact SqL.of e4
    · rintro i x σ H4 H4' hi ⟨y4, rfl, k4, e4, f4⟩ ⟨rfl, hx⟩
      rw [List.getElem?_map] at hx
      cases ez : ns[i]? with
      | none => rw [ez] at hx; cases hx
      | some z =>
        rw [ez] at hx
        cases Option.some.inj hx
        obtain ⟨n, rfl, hRn⟩ := (hR.mem z).mp (List.mem_of_getElem? ez)
        obtain ⟨row, er, hnl⟩ := live_lt (hRn.live wf)
        rcases hv n _ er with ⟨e', _⟩ | ⟨r, row', e', zr, hT1⟩
        · cases e'
        cases Option.some.inj e'
        have at2 : atI vs (n : Int) = some (V.ref r) := atI_nat zr
        have hD4 := k4.sqT (by simp) hD
        have hS4 := k4.sqT (by simp) hS
        have hr4 := k4.sqT (by simp) hT1
        repeat walk_at "rd"
        refine y_lcT (xs := rowV row) hr4 (fun M nM => ⟨fun j H5 => Kx [] H4' H5 ∧ H5 M = some (.lst []), ⟨(Kx.refl _ _).new nM, upd_same⟩, ?_, ?_, ?_⟩)
        · rintro j H5 hj ⟨k5, _⟩
          exact k5.sqT (by simp) hr4
        · rintro j x H5 H5' hj ⟨k5, e5⟩ ⟨rfl, hx⟩
          have hj2 : j < row.length := by simpa [rowV] using hj
          have hrow : row[j]? = some row[j] := List.getElem?_eq_getElem hj2
          have hx2 : slotV row[j] = x := by
            unfold rowV at hx
            rw [List.getElem?_map, hrow] at hx
            exact Option.some.inj hx
          have f5 := k5 L _ (by simp) f4
          cases hc : row[j] with
          | none =>
            rw [hc] at hx2
            obtain rfl : V.non = x := hx2
            repeat walk_at "rd"
            refine ⟨rfl, ?_⟩
            repeat walk_at "rd"
            refine iteF ?_
            exact iteF ⟨k5, e5⟩
          | some m =>
            rw [hc] at hx2
            obtain rfl : V.int (m : Int) = x := hx2
            have hRm : Reach slots outs m := .step hRn (by rw [rowOf_some er, ← hc]; exact List.getElem_mem hj2)
            have hin : (m : Int) ∈ ns := (hR.mem _).mpr ⟨m, rfl, hRm⟩
            repeat walk_at "rd"
            refine ⟨rfl, ?_⟩
            repeat walk_at "rd"
            refine iteT ?_
            repeat walk_at "rd"
            rw [in_int, decide_eq_true hin]
            exact iteF ⟨k5, e5⟩
        · rintro H5 ⟨k5, e5⟩
          have k45 := k4.trans k5
          have e6 := k5 Z _ (by simp) e4
          have f6 := k5 L _ (by simp) f4
          repeat walk_at "rd"
          rename_i N nN
          refine x_neNil (cs := []) (SqL.of (lk_ne e5 nN)) (SqL.of upd_same) ?_
          repeat walk_at "rd"
          refine iteF ?_
          repeat walk_at "rd"
          exact ⟨_, rfl, k45.new nN, lk_ne e6 nN, lk_ne f6 nN⟩
    · rintro σ H4 ⟨y4, rfl, k4, e4, f4⟩
      repeat walk_at "rd"
      refine ⟨ty_list (SqL.of f4), ?_⟩
      have hns : (ns.map V.int).length < sizeLine := by
        have h1 := nodup_len hR.nd (n := slots.length) (fun z hz => by
          obtain ⟨n, rfl, r⟩ := (hR.mem z).mp hz
          obtain ⟨_, _, hl⟩ := live_lt (r.live wf)
          omega)
        exact small1000 (by rw [List.length_map]; omega)
      repeat walk_at "rd"
      have k5 : Kx [] H (upd H4 L (.lst (ns.map V.int ++ [V.int 40]))) := k4.wr (.inl nL0)
      have e5 : upd H4 L (.lst (ns.map V.int ++ [V.int 40])) Z = some (.lst (ns.map V.int)) := lk_ne2 nZL e4
      generalize upd H4 L (.lst (ns.map V.int ++ [V.int 40])) = H5 at *
      refine ⟨D, slots, outs, rfl, hkeep k5, wf, fun L6 H6 ns6 nL6 k6 eL6 hR6 => ?_⟩
      cases hR6.uniq hR
      have k06 := k5.trans k6
      have e6 := k6 Z _ (by simp) e5
      repeat walk_at "rd"
      refine x_repr (.lst (SqL.of eL6) (dp_intsT _)) gr (by decide) (by decide) ?_
      repeat walk_at "rd"
      refine x_repr (.lst (SqL.of e6) (dp_intsT _)) gr (by decide) (by decide) ?_
      repeat walk_at "rd"
      refine iteP (by simp) ?_
      repeat walk_at "rd"
      refine x_repr (dp_keep k06 _ _ hdp) gh (by decide) (by decide) ?_
      repeat walk_at "rd"
      simpa using k H6 k06
def spLaw (K : PySem.W.Frag) : Sp := fun vs H Q _ => ∃ (a : Addr) (ns : List Int), vs = [.ref a] ∧ SqL K H a (ns.map V.int) ∧ ∀ H', Q (.bl true) H'
theorem ok_law {f : Addr} {fd : FuncData} (F : Fun K "law" "law" sLaw f fd) (T : Txt mg) (l_law_pen : Lo P w K mg base "_law_pen" 1 ["_law_script"] (spPen K)) (l_law_base : Lo P w K mg base "_law_base" 3 ["_law_pen_here"] (spBase K))
    (l_law_loose : Lo P w K mg base "_law_loose" 2 ["_law_pen_here", "_law_base_here"] (spLoose K)) (l_law_right : Lk P w K mg base "_law_right" 4 ["_law_base_here"] (spRight K)) : FnG P w K mg base 5 f fd ["_law_script"] (spLaw K) := by
  refine FnG.body F scLaw (fun vs H Q E h => ?_) (fun cdv A outer s H vs Q E hgd hr h => ?_)
  · obtain ⟨a, ns, rfl, _⟩ := h
    rfl
  · obtain ⟨a, ns, rfl, ha, k⟩ := h
    refine ⟨_, (pss_cons (ps_set (i := 1) scLaw.nd rfl (Or.inl rfl) (pe_lo l_law_pen (hr.mono (by decide)) (by rfl) (pa_cons (pv 0) pa_nil)))
      (pss_cons (ps_for PassesOwn.never rfl (pi_range1 (by rfl) T.b_range (pa_cons pe_int pa_nil)) (pg_name (i := 2) scLaw.nd rfl (Or.inl rfl))
      (pss_cons (ps_set (i := 3) scLaw.nd rfl (Or.inl rfl) (pe_ix ix_tup (pe_lo l_law_base (hr.mono (by decide)) (by rfl) (pa_cons (pv 1) pa_nil)) pe_int (fun _ _ => rfl)))
      (pss_one (ps_if ((pw_or (pt_not (pt_val (pe_lk l_law_right hgd (hr.mono (by decide)) (by rfl) (pa_cons (pv 3) pa_nil)))) (pw_or1 (pt_not (pt_val (pe_lk l_law_right hgd (hr.mono (by decide)) (by rfl) (pa_cons (pe_lo l_law_loose (hr.mono (by decide)) (by rfl) (pa_cons (pv 1) (pa_cons (pv 3) pa_nil))) pa_nil))))))).pt (pss_one (ps_ret pe_bl)) pss_nil))))
      (pss_one (ps_ret (pe_and (pe_lk l_law_right hgd (hr.mono (by decide)) (by rfl) (pa_cons (pe_tup (pa_cons (pe_tup pa_nil) (pa_cons (pe_tup pa_nil) pa_nil))) pa_nil)) (pe_one (pe_lk l_law_right hgd (hr.mono (by decide)) (by rfl) (pa_cons (pe_tup (pa_cons (pe_tup (pa_cons (pe_tup (pa_cons pe_int pa_nil)) (pa_cons (pe_tup (pa_cons pe_int pa_nil)) (pa_cons (pe_tup (pa_cons pe_int pa_nil)) (pa_cons (pe_tup pa_nil) pa_nil))))) (pa_cons (pe_tup (pa_cons pe_int (pa_cons pe_int (pa_cons pe_int (pa_cons pe_int pa_nil))))) pa_nil))) pa_nil)))))))), ?_⟩
    refine x_start (σ' := [some (.ref a), none, none, none]) rfl ?_
    dsimp only [cxOf]
    repeat walk_at "rd"
    refine ⟨a, ns, rfl, ha, fun p c H1 np nc k1 P1 => ?_⟩
    repeat walk_at "rd"
    refine y_forR1 (by decide) (by decide) ⟨fun i σ H2 => ∃ (y2 y3 : Option V), σ = [some (.ref a), some (.ref p), y2, y3] ∧ PenAt H2 p c (1000 * i), ⟨none, none, rfl, P1.keep (Kx.refl [] H1) (by simp) (by simp) (by omega)⟩, fun _ _ _ _ _ => trivial, ?_, ?_⟩
    · rintro i x σ H2 H2' hi ⟨y2, y3, rfl, P2⟩ ⟨rfl, rfl⟩
      have hi4 : i < 3 := hi
      repeat walk_at "rd"
      refine ⟨p, c, _, rfl, P2, by omega, fun B D lab slots outs H3 hB hA wf hn ⟨rw0, z0, hl1, _, _⟩ k3 P3 => ?_⟩
      have hT := hA.toT
      repeat walk_at "rd"
      refine ⟨D, slots, outs, rfl, hT, wf, fun H4 k4 => ?_⟩
      repeat walk_at "rd"
      refine iteF ?_
      repeat walk_at "rd"
      refine ⟨p, c, D, _, slots, outs, rfl, P3.keep k4 (by simp) (by simp) (Nat.le_refl _), by omega, hT.keep k4, wf, ⟨lab, by simp [isLive, hl1]⟩, fun D2 slots2 outs2 H5 hT2 wf2 k5 P5 => ?_⟩
      repeat walk_at "rd"
      refine ⟨D2, slots2, outs2, rfl, hT2, wf2, fun H6 k6 => ?_⟩
      repeat walk_at "rd"
      exact ⟨_, _, rfl, P5.keep k6 (by simp) (by simp) (by omega)⟩
    · rintro σ H2 ⟨y2, y3, rfl, P2⟩
      repeat walk_at "rd"
      rename_i S nS O nO D nD
      refine ⟨D, [], [], rfl, ⟨S, O, [], SqT.of upd_same, SqT.of (by walk_at "lk"), SqT.of (by walk_at "lk"), rfl, fun i o ho => by simp at ho⟩, ⟨rfl, by decide, by simp, by simp, by simp, by simp⟩, fun H3 k3 => ?_⟩
      repeat walk_at "rd"
      rename_i t1 n1 t2 n2 t3 n3 t4 n4 S2 nS2 O2 nO2 D2 nD2
      refine ⟨D2, [some [some 1], some [some 0], some [some 3], some []], [0, 0, 1, 0], rfl, ⟨S2, O2, [.ref t1, .ref t2, .ref t3, .ref t4], SqT.of upd_same, SqT.of (by walk_at "lk"), SqT.of (by walk_at "lk"), rfl, fun i o ho => ?_⟩, ?_, fun H4 k4 => k H4⟩
      · match i, ho with
        | 0, ho => exact .inr ⟨t1, [some 1], (Option.some.inj ho).symm, rfl, SqT.of (by walk_at "lk")⟩
        | 1, ho => exact .inr ⟨t2, [some 0], (Option.some.inj ho).symm, rfl, SqT.of (by walk_at "lk")⟩
        | 2, ho => exact .inr ⟨t3, [some 3], (Option.some.inj ho).symm, rfl, SqT.of (by walk_at "lk")⟩
        | 3, ho => exact .inr ⟨t4, [], (Option.some.inj ho).symm, rfl, SqT.of (by walk_at "lk")⟩
      · refine ⟨rfl, by decide, fun m hm => ?_, by simp, by simp, by simp⟩
        match m, hm with
        | 0, hm => cases hm
        | 1, hm => cases hm
        | 2, hm => cases hm
        | 3, hm => cases hm
end

theorem all_mk {l : PySem.W.OpenLaw} {w : World} {K : PySem.W.Frag} {h : Heap} {mg : Str → Option Value} {fa : Addr} (X : K.In h) (G : h.Ns mainGlobals mg) (hfa : mg "law" = some (.ref fa))
    {f_live_nodes : Addr} {od_live_nodes an_live_nodes : Option Addr} {sl_live_nodes : Array (Option Value)} {oc_live_nodes kV_live_nodes dc_live_nodes pm_live_nodes cd_live_nodes ct_live_nodes : Value}
    (a_live_nodes : PySem.W.nsIn K mainGlobals "live_nodes" = some (some (.ref f_live_nodes))) (l_live_nodes : K.lookup f_live_nodes = some ⟨oc_live_nodes, od_live_nodes, .func (PySem.W.fnOf "live_nodes" "live_nodes" (defArgs sLiveNodes) (defBody sLiveNodes) (defScope sLiveNodes) .none kV_live_nodes dc_live_nodes pm_live_nodes an_live_nodes cd_live_nodes ct_live_nodes), sl_live_nodes⟩)
    (c_live_nodes : PySem.W.codeIn K cd_live_nodes "live_nodes" = true) (k_live_nodes : PySem.W.keepIn K (.ref f_live_nodes) = true)
    {f_held_from : Addr} {od_held_from an_held_from : Option Addr} {sl_held_from : Array (Option Value)} {oc_held_from kV_held_from dc_held_from pm_held_from cd_held_from ct_held_from : Value}
    (a_held_from : PySem.W.nsIn K mainGlobals "held_from" = some (some (.ref f_held_from))) (l_held_from : K.lookup f_held_from = some ⟨oc_held_from, od_held_from, .func (PySem.W.fnOf "held_from" "held_from" (defArgs sHeldFrom) (defBody sHeldFrom) (defScope sHeldFrom) .none kV_held_from dc_held_from pm_held_from an_held_from cd_held_from ct_held_from), sl_held_from⟩)
    (c_held_from : PySem.W.codeIn K cd_held_from "held_from" = true) (k_held_from : PySem.W.keepIn K (.ref f_held_from) = true)
    {f_sources : Addr} {od_sources an_sources : Option Addr} {sl_sources : Array (Option Value)} {oc_sources kV_sources dc_sources pm_sources cd_sources ct_sources : Value}
    (a_sources : PySem.W.nsIn K mainGlobals "_sources" = some (some (.ref f_sources))) (l_sources : K.lookup f_sources = some ⟨oc_sources, od_sources, .func (PySem.W.fnOf "_sources" "_sources" (defArgs sSources) (defBody sSources) (defScope sSources) .none kV_sources dc_sources pm_sources an_sources cd_sources ct_sources), sl_sources⟩)
    (c_sources : PySem.W.codeIn K cd_sources "_sources" = true) (k_sources : PySem.W.keepIn K (.ref f_sources) = true)
    {f_reachable : Addr} {od_reachable an_reachable : Option Addr} {sl_reachable : Array (Option Value)} {oc_reachable kV_reachable dc_reachable pm_reachable cd_reachable ct_reachable : Value}
    (a_reachable : PySem.W.nsIn K mainGlobals "reachable" = some (some (.ref f_reachable))) (l_reachable : K.lookup f_reachable = some ⟨oc_reachable, od_reachable, .func (PySem.W.fnOf "reachable" "reachable" (defArgs sReachable) (defBody sReachable) (defScope sReachable) .none kV_reachable dc_reachable pm_reachable an_reachable cd_reachable ct_reachable), sl_reachable⟩)
    (c_reachable : PySem.W.codeIn K cd_reachable "reachable" = true) (k_reachable : PySem.W.keepIn K (.ref f_reachable) = true)
    {f_law_pen : Addr} {od_law_pen an_law_pen : Option Addr} {sl_law_pen : Array (Option Value)} {oc_law_pen kV_law_pen dc_law_pen pm_law_pen cd_law_pen ct_law_pen : Value}
    (a_law_pen : PySem.W.nsIn K mainGlobals "_law_pen" = some (some (.ref f_law_pen))) (l_law_pen : K.lookup f_law_pen = some ⟨oc_law_pen, od_law_pen, .func (PySem.W.fnOf "_law_pen" "_law_pen" (defArgs sQPen) (defBody sQPen) (defScope sQPen) .none kV_law_pen dc_law_pen pm_law_pen an_law_pen cd_law_pen ct_law_pen), sl_law_pen⟩)
    (c_law_pen : PySem.W.codeIn K cd_law_pen "_law_pen" = true) (k_law_pen : PySem.W.keepIn K (.ref f_law_pen) = true)
    {f_law_draw : Addr} {od_law_draw an_law_draw : Option Addr} {sl_law_draw : Array (Option Value)} {oc_law_draw kV_law_draw dc_law_draw pm_law_draw cd_law_draw ct_law_draw : Value}
    (a_law_draw : PySem.W.nsIn K mainGlobals "_law_draw" = some (some (.ref f_law_draw))) (l_law_draw : K.lookup f_law_draw = some ⟨oc_law_draw, od_law_draw, .func (PySem.W.fnOf "_law_draw" "_law_draw" (defArgs sQDraw) (defBody sQDraw) (defScope sQDraw) .none kV_law_draw dc_law_draw pm_law_draw an_law_draw cd_law_draw ct_law_draw), sl_law_draw⟩)
    (c_law_draw : PySem.W.codeIn K cd_law_draw "_law_draw" = true) (k_law_draw : PySem.W.keepIn K (.ref f_law_draw) = true)
    {f_law_shuffled : Addr} {od_law_shuffled an_law_shuffled : Option Addr} {sl_law_shuffled : Array (Option Value)} {oc_law_shuffled kV_law_shuffled dc_law_shuffled pm_law_shuffled cd_law_shuffled ct_law_shuffled : Value}
    (a_law_shuffled : PySem.W.nsIn K mainGlobals "_law_shuffled" = some (some (.ref f_law_shuffled))) (l_law_shuffled : K.lookup f_law_shuffled = some ⟨oc_law_shuffled, od_law_shuffled, .func (PySem.W.fnOf "_law_shuffled" "_law_shuffled" (defArgs sQShuffled) (defBody sQShuffled) (defScope sQShuffled) .none kV_law_shuffled dc_law_shuffled pm_law_shuffled an_law_shuffled cd_law_shuffled ct_law_shuffled), sl_law_shuffled⟩)
    (c_law_shuffled : PySem.W.codeIn K cd_law_shuffled "_law_shuffled" = true) (k_law_shuffled : PySem.W.keepIn K (.ref f_law_shuffled) = true)
    {f_law_linked : Addr} {od_law_linked an_law_linked : Option Addr} {sl_law_linked : Array (Option Value)} {oc_law_linked kV_law_linked dc_law_linked pm_law_linked cd_law_linked ct_law_linked : Value}
    (a_law_linked : PySem.W.nsIn K mainGlobals "_law_linked" = some (some (.ref f_law_linked))) (l_law_linked : K.lookup f_law_linked = some ⟨oc_law_linked, od_law_linked, .func (PySem.W.fnOf "_law_linked" "_law_linked" (defArgs sQLinked) (defBody sQLinked) (defScope sQLinked) .none kV_law_linked dc_law_linked pm_law_linked an_law_linked cd_law_linked ct_law_linked), sl_law_linked⟩)
    (c_law_linked : PySem.W.codeIn K cd_law_linked "_law_linked" = true) (k_law_linked : PySem.W.keepIn K (.ref f_law_linked) = true)
    {f_law_base : Addr} {od_law_base an_law_base : Option Addr} {sl_law_base : Array (Option Value)} {oc_law_base kV_law_base dc_law_base pm_law_base cd_law_base ct_law_base : Value}
    (a_law_base : PySem.W.nsIn K mainGlobals "_law_base" = some (some (.ref f_law_base))) (l_law_base : K.lookup f_law_base = some ⟨oc_law_base, od_law_base, .func (PySem.W.fnOf "_law_base" "_law_base" (defArgs sQBase) (defBody sQBase) (defScope sQBase) .none kV_law_base dc_law_base pm_law_base an_law_base cd_law_base ct_law_base), sl_law_base⟩)
    (c_law_base : PySem.W.codeIn K cd_law_base "_law_base" = true) (k_law_base : PySem.W.keepIn K (.ref f_law_base) = true)
    {f_law_loose : Addr} {od_law_loose an_law_loose : Option Addr} {sl_law_loose : Array (Option Value)} {oc_law_loose kV_law_loose dc_law_loose pm_law_loose cd_law_loose ct_law_loose : Value}
    (a_law_loose : PySem.W.nsIn K mainGlobals "_law_loose" = some (some (.ref f_law_loose))) (l_law_loose : K.lookup f_law_loose = some ⟨oc_law_loose, od_law_loose, .func (PySem.W.fnOf "_law_loose" "_law_loose" (defArgs sQLoose) (defBody sQLoose) (defScope sQLoose) .none kV_law_loose dc_law_loose pm_law_loose an_law_loose cd_law_loose ct_law_loose), sl_law_loose⟩)
    (c_law_loose : PySem.W.codeIn K cd_law_loose "_law_loose" = true) (k_law_loose : PySem.W.keepIn K (.ref f_law_loose) = true)
    {f_law_reached : Addr} {od_law_reached an_law_reached : Option Addr} {sl_law_reached : Array (Option Value)} {oc_law_reached kV_law_reached dc_law_reached pm_law_reached cd_law_reached ct_law_reached : Value}
    (a_law_reached : PySem.W.nsIn K mainGlobals "_law_reached" = some (some (.ref f_law_reached))) (l_law_reached : K.lookup f_law_reached = some ⟨oc_law_reached, od_law_reached, .func (PySem.W.fnOf "_law_reached" "_law_reached" (defArgs sQReached) (defBody sQReached) (defScope sQReached) .none kV_law_reached dc_law_reached pm_law_reached an_law_reached cd_law_reached ct_law_reached), sl_law_reached⟩)
    (c_law_reached : PySem.W.codeIn K cd_law_reached "_law_reached" = true) (k_law_reached : PySem.W.keepIn K (.ref f_law_reached) = true)
    {f_law_right : Addr} {od_law_right an_law_right : Option Addr} {sl_law_right : Array (Option Value)} {oc_law_right kV_law_right dc_law_right pm_law_right cd_law_right ct_law_right : Value}
    (a_law_right : PySem.W.nsIn K mainGlobals "_law_right" = some (some (.ref f_law_right))) (l_law_right : K.lookup f_law_right = some ⟨oc_law_right, od_law_right, .func (PySem.W.fnOf "_law_right" "_law_right" (defArgs sQRight) (defBody sQRight) (defScope sQRight) .none kV_law_right dc_law_right pm_law_right an_law_right cd_law_right ct_law_right), sl_law_right⟩)
    (c_law_right : PySem.W.codeIn K cd_law_right "_law_right" = true) (k_law_right : PySem.W.keepIn K (.ref f_law_right) = true)
    {f_law : Addr} {od_law an_law : Option Addr} {sl_law : Array (Option Value)} {oc_law kV_law dc_law pm_law cd_law ct_law : Value}
    (a_law : PySem.W.nsIn K mainGlobals "law" = some (some (.ref f_law))) (l_law : K.lookup f_law = some ⟨oc_law, od_law, .func (PySem.W.fnOf "law" "law" (defArgs sLaw) (defBody sLaw) (defScope sLaw) .none kV_law dc_law pm_law an_law cd_law ct_law), sl_law⟩)
    (c_law : PySem.W.codeIn K cd_law "law" = true) (k_law : PySem.W.keepIn K (.ref f_law) = true)
    (z_len : PySem.W.nsIn K mainGlobals "len" = some none)
    (z_abs : PySem.W.nsIn K mainGlobals "abs" = some none)
    (z_int : PySem.W.nsIn K mainGlobals "int" = some none)
    (z_bool : PySem.W.nsIn K mainGlobals "bool" = some none)
    (z_list : PySem.W.nsIn K mainGlobals "list" = some none)
    (z_tuple : PySem.W.nsIn K mainGlobals "tuple" = some none)
    (z_min : PySem.W.nsIn K mainGlobals "min" = some none)
    (z_max : PySem.W.nsIn K mainGlobals "max" = some none)
    (z_sum : PySem.W.nsIn K mainGlobals "sum" = some none)
    (z_any : PySem.W.nsIn K mainGlobals "any" = some none)
    (z_all : PySem.W.nsIn K mainGlobals "all" = some none)
    (z_repr : PySem.W.nsIn K mainGlobals "repr" = some none)
    (z_sorted : PySem.W.nsIn K mainGlobals "sorted" = some none)
    (z_isinstance : PySem.W.nsIn K mainGlobals "isinstance" = some none)
    (z_range : PySem.W.nsIn K mainGlobals "range" = some none)
    (z_enumerate : PySem.W.nsIn K mainGlobals "enumerate" = some none) :
    ∃ fd : FuncData, (∀ (s : Shared) (v : Value), BindsTo s fd ⟨[v], []⟩ [("_law_script", v)]) ∧ ∀ base : Heap, K.In base → base.Ns mainGlobals mg → FnG l.prog w K mg base 5 fa fd ["_law_script"] (spLaw K) := by
  have e := hfa.symm.trans (PySem.W.mg_of X G a_law)
  cases e
  have T : Txt mg := ⟨PySem.W.mg_none_of X G z_len, PySem.W.mg_none_of X G z_abs, PySem.W.mg_none_of X G z_int, PySem.W.mg_none_of X G z_bool, PySem.W.mg_none_of X G z_list, PySem.W.mg_none_of X G z_tuple, PySem.W.mg_none_of X G z_min, PySem.W.mg_none_of X G z_max, PySem.W.mg_none_of X G z_sum, PySem.W.mg_none_of X G z_any, PySem.W.mg_none_of X G z_all, PySem.W.mg_none_of X G z_repr, PySem.W.mg_none_of X G z_sorted, PySem.W.mg_none_of X G z_isinstance, PySem.W.mg_none_of X G z_range, PySem.W.mg_none_of X G z_enumerate⟩
  have F_live_nodes := fun_mk (st := sLiveNodes) l_live_nodes c_live_nodes k_live_nodes
  have F_held_from := fun_mk (st := sHeldFrom) l_held_from c_held_from k_held_from
  have F_sources := fun_mk (st := sSources) l_sources c_sources k_sources
  have F_reachable := fun_mk (st := sReachable) l_reachable c_reachable k_reachable
  have F_law_pen := fun_mk (st := sQPen) l_law_pen c_law_pen k_law_pen
  have F_law_draw := fun_mk (st := sQDraw) l_law_draw c_law_draw k_law_draw
  have F_law_shuffled := fun_mk (st := sQShuffled) l_law_shuffled c_law_shuffled k_law_shuffled
  have F_law_linked := fun_mk (st := sQLinked) l_law_linked c_law_linked k_law_linked
  have F_law_base := fun_mk (st := sQBase) l_law_base c_law_base k_law_base
  have F_law_loose := fun_mk (st := sQLoose) l_law_loose c_law_loose k_law_loose
  have F_law_reached := fun_mk (st := sQReached) l_law_reached c_law_reached k_law_reached
  have F_law_right := fun_mk (st := sQRight) l_law_right c_law_right k_law_right
  have F_law := fun_mk (st := sLaw) l_law c_law k_law
  refine ⟨PySem.W.fnOf "law" "law" (defArgs sLaw) (defBody sLaw) (defScope sLaw) .none kV_law dc_law pm_law an_law cd_law ct_law, fun s v => .of_eq rfl, fun base _ _ => ?_⟩
  have b_live_nodes := F_live_nodes.binds (ps := ["heap"]) fun _ _ _ _ _ _ us hl => match us, hl with | [_], _ => rfl
  have l_live_nodes : Lo l.prog w K mg base "live_nodes" 1 ["heap"] (spLive K) := ⟨f_live_nodes, _, ok_live F_live_nodes T, PySem.W.mg_of X G a_live_nodes, k_live_nodes, b_live_nodes⟩
  have b_held_from := F_held_from.binds (ps := ["heap", "starts"]) fun _ _ _ _ _ _ us hl => match us, hl with | [_, _], _ => rfl
  have l_held_from : Lo l.prog w K mg base "held_from" 1 ["heap", "starts"] (spHeld K) := ⟨f_held_from, _, ok_held F_held_from T, PySem.W.mg_of X G a_held_from, k_held_from, b_held_from⟩
  have b_sources := F_sources.binds (ps := ["heap"]) fun _ _ _ _ _ _ us hl => match us, hl with | [_], _ => rfl
  have l_sources : Lo l.prog w K mg base "_sources" 2 ["heap"] (spSrcs K) := ⟨f_sources, _, ok_srcs F_sources T l_live_nodes l_held_from, PySem.W.mg_of X G a_sources, k_sources, b_sources⟩
  have b_reachable := F_reachable.binds (ps := ["heap"]) fun _ _ _ _ _ _ us hl => match us, hl with | [_], _ => rfl
  have l_reachable : Lo l.prog w K mg base "reachable" 3 ["heap"] (spReach K) := ⟨f_reachable, _, ok_reach F_reachable T l_sources, PySem.W.mg_of X G a_reachable, k_reachable, b_reachable⟩
  have k_reachable : Lkw l.prog w K mg base "reachable" 3 ["heap"] ["heap"] id (spReach K) := ⟨f_reachable, _, id, ok_reach F_reachable T l_sources, PySem.W.mg_of X G a_reachable, k_reachable, ⟨fun s ws _ hl => match ws, hl with | [_], _ => .of_eq rfl, fun r => r⟩⟩
  have b_law_pen := F_law_pen.binds (ps := ["_law_script"]) fun _ _ _ _ _ _ us hl => match us, hl with | [_], _ => rfl
  have l_law_pen : Lo l.prog w K mg base "_law_pen" 1 ["_law_script"] (spPen K) := ⟨f_law_pen, _, ok_pen F_law_pen T, PySem.W.mg_of X G a_law_pen, k_law_pen, b_law_pen⟩
  have b_law_draw := F_law_draw.binds (ps := ["_law_pen_here", "_law_most_one"]) fun _ _ _ _ _ _ us hl => match us, hl with | [_, _], _ => rfl
  have l_law_draw : Lo l.prog w K mg base "_law_draw" 1 ["_law_pen_here", "_law_most_one"] (spDraw) := ⟨f_law_draw, _, ok_draw F_law_draw T, PySem.W.mg_of X G a_law_draw, k_law_draw, b_law_draw⟩
  have b_law_shuffled := F_law_shuffled.binds (ps := ["_law_pen_here", "_law_row"]) fun _ _ _ _ _ _ us hl => match us, hl with | [_, _], _ => rfl
  have l_law_shuffled : Lo l.prog w K mg base "_law_shuffled" 2 ["_law_pen_here", "_law_row"] (spShuf K) := ⟨f_law_shuffled, _, ok_shuf F_law_shuffled T l_law_draw, PySem.W.mg_of X G a_law_shuffled, k_law_shuffled, b_law_shuffled⟩
  have b_law_linked := F_law_linked.binds (ps := ["_law_pen_here", "_law_labels", "_law_alive"]) fun _ _ _ _ _ _ us hl => match us, hl with | [_, _, _], _ => rfl
  have l_law_linked : Lo l.prog w K mg base "_law_linked" 2 ["_law_pen_here", "_law_labels", "_law_alive"] (spLinked K) := ⟨f_law_linked, _, ok_linked F_law_linked T l_law_draw, PySem.W.mg_of X G a_law_linked, k_law_linked, b_law_linked⟩
  have b_law_base := F_law_base.binds (ps := ["_law_pen_here"]) fun _ _ _ _ _ _ us hl => match us, hl with | [_], _ => rfl
  have l_law_base : Lo l.prog w K mg base "_law_base" 3 ["_law_pen_here"] (spBase K) := ⟨f_law_base, _, ok_base F_law_base T l_law_draw l_law_shuffled l_law_linked, PySem.W.mg_of X G a_law_base, k_law_base, b_law_base⟩
  have b_law_loose := F_law_loose.binds (ps := ["_law_pen_here", "_law_base_here"]) fun _ _ _ _ _ _ us hl => match us, hl with | [_, _], _ => rfl
  have l_law_loose : Lo l.prog w K mg base "_law_loose" 2 ["_law_pen_here", "_law_base_here"] (spLoose K) := ⟨f_law_loose, _, ok_loose F_law_loose T l_law_draw, PySem.W.mg_of X G a_law_loose, k_law_loose, b_law_loose⟩
  have b_law_reached := F_law_reached.binds (ps := ["_law_base_here"]) fun _ _ _ _ _ _ us hl => match us, hl with | [_], _ => rfl
  have l_law_reached : Lo l.prog w K mg base "_law_reached" 1 ["_law_base_here"] (spReached K) := ⟨f_law_reached, _, ok_reached F_law_reached T, PySem.W.mg_of X G a_law_reached, k_law_reached, b_law_reached⟩
  have b_law_right := F_law_right.binds (ps := ["_law_base_here"]) fun _ _ _ _ _ _ us hl => match us, hl with | [_], _ => rfl
  have l_law_right : Lk l.prog w K mg base "_law_right" 4 ["_law_base_here"] (spRight K) := ⟨f_law_right, _, ok_right F_law_right T l_reachable k_reachable l_law_reached, PySem.W.mg_of X G a_law_right, k_law_right, b_law_right⟩
  exact ok_law F_law T l_law_pen l_law_base l_law_loose l_law_right
end SF
open PySem PySem.W PyProof.Rows in
set_option maxRecDepth 100000 in
set_option maxHeartbeats 0 in
theorem PySem.Challenge.cw_slotfall_k06_reachable_nodes_holds : PySem.Challenge.rw_slotfall_k06_reachable_nodes.Holds := by
  w_on; o_law; k_head; (case hw => w_witness2)
  k_fill
  refine SF.walkG (l := PySem.Challenge.rw_slotfall_k06_reachable_nodes) (n := 63) (k := 5) (x := "_law_script") (sp := SF.spLaw) rfl (by decide) rfl ⟨rfl, by decide, by decide⟩ (fun w h Y => PySem.W.kIn_of Y) ?F (fun _ _ a ns _ _ _ hS => ⟨a, ns, rfl, hS, fun _ => rfl⟩)
  case F =>
    intro w mg fa h KX G hmg
    refine' SF.all_mk KX G hmg ?a_live_nodes ?l_live_nodes ?c_live_nodes ?k_live_nodes ?a_held_from ?l_held_from ?c_held_from ?k_held_from ?a_sources ?l_sources ?c_sources ?k_sources ?a_reachable ?l_reachable ?c_reachable ?k_reachable ?a_law_pen ?l_law_pen ?c_law_pen ?k_law_pen ?a_law_draw ?l_law_draw ?c_law_draw ?k_law_draw ?a_law_shuffled ?l_law_shuffled ?c_law_shuffled ?k_law_shuffled ?a_law_linked ?l_law_linked ?c_law_linked ?k_law_linked ?a_law_base ?l_law_base ?c_law_base ?k_law_base ?a_law_loose ?l_law_loose ?c_law_loose ?k_law_loose ?a_law_reached ?l_law_reached ?c_law_reached ?k_law_reached ?a_law_right ?l_law_right ?c_law_right ?k_law_right ?a_law ?l_law ?c_law ?k_law ?z_len ?z_abs ?z_int ?z_bool ?z_list ?z_tuple ?z_min ?z_max ?z_sum ?z_any ?z_all ?z_repr ?z_sorted ?z_isinstance ?z_range ?z_enumerate
    (case a_live_nodes => k_is)
    (case l_live_nodes => k_is)
    (case c_live_nodes => k_is)
    (case k_live_nodes => k_is)
    (case a_held_from => k_is)
    (case l_held_from => k_is)
    (case c_held_from => k_is)
    (case k_held_from => k_is)
    (case a_sources => k_is)
    (case l_sources => k_is)
    (case c_sources => k_is)
    (case k_sources => k_is)
    (case a_reachable => k_is)
    (case l_reachable => k_is)
    (case c_reachable => k_is)
    (case k_reachable => k_is)
    (case a_law_pen => k_is)
    (case l_law_pen => k_is)
    (case c_law_pen => k_is)
    (case k_law_pen => k_is)
    (case a_law_draw => k_is)
    (case l_law_draw => k_is)
    (case c_law_draw => k_is)
    (case k_law_draw => k_is)
    (case a_law_shuffled => k_is)
    (case l_law_shuffled => k_is)
    (case c_law_shuffled => k_is)
    (case k_law_shuffled => k_is)
    (case a_law_linked => k_is)
    (case l_law_linked => k_is)
    (case c_law_linked => k_is)
    (case k_law_linked => k_is)
    (case a_law_base => k_is)
    (case l_law_base => k_is)
    (case c_law_base => k_is)
    (case k_law_base => k_is)
    (case a_law_loose => k_is)
    (case l_law_loose => k_is)
    (case c_law_loose => k_is)
    (case k_law_loose => k_is)
    (case a_law_reached => k_is)
    (case l_law_reached => k_is)
    (case c_law_reached => k_is)
    (case k_law_reached => k_is)
    (case a_law_right => k_is)
    (case l_law_right => k_is)
    (case c_law_right => k_is)
    (case k_law_right => k_is)
    (case a_law => k_is)
    (case l_law => k_is)
    (case c_law => k_is)
    (case k_law => k_is)
    (case z_len => k_is)
    (case z_abs => k_is)
    (case z_int => k_is)
    (case z_bool => k_is)
    (case z_list => k_is)
    (case z_tuple => k_is)
    (case z_min => k_is)
    (case z_max => k_is)
    (case z_sum => k_is)
    (case z_any => k_is)
    (case z_all => k_is)
    (case z_repr => k_is)
    (case z_sorted => k_is)
    (case z_isinstance => k_is)
    (case z_range => k_is)
    (case z_enumerate => k_is)

