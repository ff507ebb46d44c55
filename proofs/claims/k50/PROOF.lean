import PyProof.Rows.All
import Wide.All
import OpenK.AllK
import Wide.FinOn
import HandS.ForMost
import HandS.Conv
import HandS.More
import HandS.Wide
import HandS.Style
import HandS.Flow
import HandS.EndBits
import HandS.Walk
import HandS.Steps
import KE.GoesEnum
import KE.GoesMore
import PyProof.ReprRoads
import PyProof.ReprLen
import HandS.DictComp
import HandS.SortInts
import HandS.TupAny
import HandS.SortKw
import KE.KMinBuiltin
import HandS.IsInst
import HandS.TryOnly
import KE.KMathG
import HandS.Gcd
import PySem.Challenge.RW_slotfall_k50_limits_that_determine
set_option Elab.async false
set_option linter.all false
set_option maxRecDepth 100000
set_option maxHeartbeats 4000000
set_option autoImplicit false
namespace SF
open PySem PySem.Spec PyProof.Rows L2

/-! ### promises that may lean on an empty list of guards -/
structure FnG (P : Program) (w : World) (K : PySem.W.Frag) (mg : Str → Option Value) (base : Heap) (k : Nat) (f : Addr) (fd : FuncData) (ps : List Str) (sp : Sp) : Prop where
  len : ∀ vs H Q E, sp vs H Q E → vs.length = ps.length
  run : ∀ (A : Around) (outer : List Env) (s : Shared) (H : Hp) (args : Args) (us : List Value) (vs : List V) (Q : VK) (E : XK),
    A.guards = some [] → Room k A → Env0 P w K mg base A outer s H → BindsTo s fd args (ps.zip us) → Vals vs us → sp vs H Q E →
    codeAny (model P w) A (.call (.ref f) args) (CR CX0 outer P w H s Q E) s

section
variable {P : Program} {w : World} {K : PySem.W.Frag} {mg : Str → Option Value} {base : Heap}
theorem FnG.of {k : Nat} {f : Addr} {fd : FuncData} {ps : List Str} {sp : Sp} (F : FnOk P w K mg base CX0 k f fd ps sp) : FnG P w K mg base k f fd ps sp :=
  ⟨F.len, fun A o s H a us vs Q E _ hr => F.run A o s H a us vs Q E hr⟩
theorem fnG_of {k : Nat} {f : Addr} {name qual : Str} {params : Arguments} {body : List Stmt} {scope : Scope} {kV doc pm cdv ct oc : Value} {an od : Option Addr}
    {osl : Array (Option Value)} {N ps : List Str} {sp : Sp}
    (lk : K.lookup f = some ⟨oc, od, .func (PySem.W.fnOf name qual params body scope .none kV doc pm an cdv ct), osl⟩)
    (hcd : PySem.W.codeIn K cdv qual = true) (S : FnScope N ps scope)
    (len : ∀ vs H Q E, sp vs H Q E → vs.length = ps.length)
    (hbody : ∀ (A : Around) (outer : List Env) (s : Shared) (H : Hp) (vs : List V) (Q : VK) (E : XK),
      (A.deeper (envOfC qual scope s.heap.objs.size f cdv)).guards = some [] →
      Room k (A.deeper (envOfC qual scope s.heap.objs.size f cdv)) → sp vs H Q E →
      ∃ t, PSs (cxOf CX0 P w K mg base N qual scope f cdv A outer s H E) body t ∧ t { nx := fun _ H' => Q .non H', rt := Q } (start N vs) H) :
    FnG P w K mg base (k + 1) f (PySem.W.fnOf name qual params body scope .none kV doc pm an cdv ct) ps sp := by
  constructor
  · exact len
  intro A outer s H args us vs Q E hgd hr e0 hb r hsp
  have hl := len _ _ _ _ hsp
  have inK : K.In s.heap := e0.mod.kin.keeps fun b o e => (e0.bs b o e).1
  have lim : s.heap.NoLimit := e0.mod.nolimit.keeps fun b o e => (e0.bs b o e).1
  have kinds : ∀ y ∈ ps.zip us, scope.names.lookup y.1 = some .local ∨
      (scope.names.lookup y.1 = some .cell ∧ ((cellsFrom (s.heap.objs.size + 1) scope.names []).lookup y.1).isSome = true) := by
    rintro ⟨n, v⟩ hy
    rcases S.par n (List.of_mem_zip hy).1 with q | q
    · exact Or.inl q
    · exact Or.inr ⟨q, PySem.W.cellsFrom_some _ _ _ (.inl q)⟩
  have code := PySem.W.codeRec_of inK hcd
  refine codeAny_call_function hr.depth (inK _ _ lk) rfl S.co S.gen rfl code (hb _ _ _ _ ?_)
  refine wpAny_newFunctionEnv_cells S.kind kinds fun env he s1 x => ?_
  subst he
  refine ⟨lim.keeps x.toInCall.keep, codeAny_func ?_⟩
  obtain ⟨t, ht, hq⟩ := hbody A outer s H vs Q E hgd (hr.deeper _) hsp
  have I := inv_start (CX := CX0) (E := E) (N := N) S hr.hd e0 hl r x
  refine wpAny_mono (ht.run [] s1 (start N vs) H _ I hq) (fun fl s' hs => ?_) fun e s' hs => hs
  cases fl with
  | ret u =>
    obtain ⟨v, σ', H', J, rv, q⟩ := hs
    exact ⟨v, H', J.os, J.bare, J.base, J.hok, rv, q⟩
  | next =>
    obtain ⟨σ', H', J, q⟩ := hs
    exact ⟨V.non, H', J.os, J.bare, J.base, J.hok, rfl, q⟩
  | brk =>
    obtain ⟨_, _, _, q⟩ := hs
    exact q.elim
  | cont =>
    obtain ⟨_, _, _, q⟩ := hs
    exact q.elim
theorem FnG.body {x qual : Str} {st : Stmt} {f : Addr} {fd : FuncData} {N ps : List Str} {k : Nat} {sp : Sp} (F : Fun K x qual st f fd) (S : FnScope N ps (defScope st))
    (len : ∀ vs H Q E, sp vs H Q E → vs.length = ps.length)
    (hbody : ∀ (cdv : Value) (A : Around) (outer : List Env) (s : Shared) (H : Hp) (vs : List V) (Q : VK) (E : XK),
      (A.deeper (envOfC qual (defScope st) s.heap.objs.size f cdv)).guards = some [] → Room k (A.deeper (envOfC qual (defScope st) s.heap.objs.size f cdv)) → sp vs H Q E →
      ∃ t, PSs (cxOf CX0 P w K mg base N qual (defScope st) f cdv A outer s H E).nox (defBody st) t ∧ t { nx := fun _ H' => Q .non H', rt := Q } (start N vs) H) :
    FnG P w K mg base (k + 1) f fd ps sp := by
  obtain ⟨oc, od, kV, doc, pm, an, cdv, ct, osl, rfl, lk, hcd⟩ := F.ex
  refine fnG_of lk hcd S len fun A outer s H vs Q E hgd hr hsp => ?_
  obtain ⟨t, h, q⟩ := hbody cdv A outer s H vs Q E hgd hr hsp
  exact ⟨t, h.nox, q⟩
end

/-! ### links to a callee: its promise, its place, its binding -/
structure Lk (P : Program) (w : World) (K : PySem.W.Frag) (mg : Str → Option Value) (base : Heap) (x : Str) (k : Nat) (ps : List Str) (sp : Sp) : Prop where
  ex : ∃ (f : Addr) (fd : FuncData), FnG P w K mg base k f fd ps sp ∧ mg x = some (.ref f) ∧ PySem.W.keepIn K (.ref f) = true ∧ Binds K fd ps []
/-- a callee that asks nothing of the guards -/
structure Lo (P : Program) (w : World) (K : PySem.W.Frag) (mg : Str → Option Value) (base : Heap) (x : Str) (k : Nat) (ps : List Str) (sp : Sp) : Prop where
  ex : ∃ (f : Addr) (fd : FuncData), FnOk P w K mg base CX0 k f fd ps sp ∧ mg x = some (.ref f) ∧ PySem.W.keepIn K (.ref f) = true ∧ Binds K fd ps []
theorem Lo.lk {P : Program} {w : World} {K : PySem.W.Frag} {mg : Str → Option Value} {base : Heap} {x : Str} {k : Nat} {ps : List Str} {sp : Sp} (L : Lo P w K mg base x k ps sp) : Lk P w K mg base x k ps sp := by
  obtain ⟨f, fd, a, b, c, d⟩ := L.ex
  exact ⟨f, fd, .of a, b, c, d⟩
section
variable {X : Cx} {k : Nat} {ps : List Str} {sp : Sp} {x : Str} {p pos : Pos} {e : Expr} {es : List Expr} {t tk : TA} {kws : List Keyword}
/-- what the callee's run is -/
theorem runG {pins : List (Addr × Obj)} {σ : L2.St} {H : Hp} {s : Shared} {Q : VK} {f : Addr} {fd : FuncData} {us : List Value} {kw : List (Str × Value)} {vs : List V} {ws : List Value}
    (F : FnG X.prog X.w X.K X.mg X.base k f fd ps sp) (hgd : X.A.guards = some []) (hr : Room k X.A) (hb : BindsTo s fd ⟨us, kw⟩ (ps.zip ws)) (I : Inv X pins σ H s) (r : Vals vs ws) (h : sp vs H Q E0) :
    wpAny (model X.prog X.w) X.A (call (.ref f) us kw) (EP X pins σ Q) X.xe s := by
  refine wpAny_call (codeAny_mono (F.run X.A X.stack s H ⟨us, kw⟩ ws vs Q E0 hgd hr I.env0 hb r h) fun r s' hq => ?_)
  match r, hq with
  | .ok (.ret u), hq => exact I.after hq
  | .ok .next, hq => exact hq.elim
  | .ok .brk, hq => exact hq.elim
  | .ok .cont, hq => exact hq.elim
  | .error e, hq => exact False.elim hq
theorem run0 {pins : List (Addr × Obj)} {σ : L2.St} {H : Hp} {s : Shared} {Q : VK} {f : Addr} {fd : FuncData} {us : List Value} {kw : List (Str × Value)} {vs : List V} {ws : List Value}
    (F : FnOk X.prog X.w X.K X.mg X.base CX0 k f fd ps sp) (hr : Room k X.A) (hb : BindsTo s fd ⟨us, kw⟩ (ps.zip ws)) (I : Inv X pins σ H s) (r : Vals vs ws) (h : sp vs H Q E0) :
    wpAny (model X.prog X.w) X.A (call (.ref f) us kw) (EP X pins σ Q) X.xe s := by
  refine wpAny_call (codeAny_mono (F.run X.A X.stack s H ⟨us, kw⟩ ws vs Q E0 hr I.env0 hb r h) fun r s' hq => ?_)
  match r, hq with
  | .ok (.ret u), hq => exact I.after hq
  | .ok .next, hq => exact hq.elim
  | .ok .brk, hq => exact hq.elim
  | .ok .cont, hq => exact hq.elim
  | .error e, hq => exact False.elim hq
/-- x(e, ..) -/
theorem pe_lo (L : Lo X.prog X.w X.K X.mg X.base x k ps sp) (hr : Room k X.A) (hg : Gl X x) (ha : PA X (e :: es) t)
    (hdb : (x == ("__debug__" : Str)) = false := by decide) (he : starEach (e :: es) X.env = (false, eval e X.env) :: starEach es X.env := by rfl) (hpl : (backTo pos (starEach es X.env)).any (·.1) = false := by rfl) :
    PE X (.Call (.Name x p) (e :: es) [] pos) (tCall sp [] E0 t) := by
  obtain ⟨f, fd, F, hm, hk, hb⟩ := L.ex
  exact pe_call F hr hg hm hk hb .nil pass0 ha hdb he hpl
theorem pe_lk (L : Lk X.prog X.w X.K X.mg X.base x k ps sp) (hgd : X.A.guards = some []) (hr : Room k X.A) (hg : Gl X x) (ha : PA X (e :: es) t)
    (hdb : (x == ("__debug__" : Str)) = false := by decide) (he : starEach (e :: es) X.env = (false, eval e X.env) :: starEach es X.env := by rfl) (hpl : (backTo pos (starEach es X.env)).any (·.1) = false := by rfl) :
    PE X (.Call (.Name x p) (e :: es) [] pos) (tCall sp [] E0 t) := by
  obtain ⟨f, fd, F, hm, hk, hb⟩ := L.ex
  constructor
  intro pins s σ H Q I h
  refine wpAny_Call_Name_kw (ld_glob I hg hm ?_ hdb)
  refine PySem.W.callWith_K (h₀ := X.base) I.ok.mod.kin hk (thn (ha.run pos pins s σ H _ I h) ?_) he hpl
  rintro us s1 ⟨vs, H1, I1, r, q⟩
  have q' : sp vs H1 Q E0 := by simpa using q
  have hl : us.length = ps.length := r.length ▸ F.len _ _ _ _ q'
  have hb1 := hb s1 us I1.kIn (by simpa using hl)
  simp only [List.append_nil] at hb1
  exact ⟨I1.kIn, runG F hgd hr hb1 I1 r q'⟩
/-- the promise at the keywords' values in the parameters' order: gV -/
def tCallKw (sp : Sp) (gV : List V → List V) (tk : TA) : TE := fun σ H Q => tk σ H fun zs H1 => sp (gV zs) H1 Q E0
structure KB (K : PySem.W.Frag) (fd : FuncData) (ps ks : List Str) (g : List Value → List Value) (gV : List V → List V) : Prop where
  to : ∀ (s : Shared) (ws : List Value), K.In s.heap → (g ws).length = ps.length → BindsTo s fd ⟨[], ks.zip ws⟩ (ps.zip (g ws))
  rel : ∀ {zs : List V} {ws : List Value}, Vals zs ws → Vals (gV zs) (g ws)
/-- x(k = v, ..) -/
theorem pe_kw0 {f : Addr} {fd : FuncData} {ks : List Str} {g : List Value → List Value} {gV : List V → List V} (F : FnOk X.prog X.w X.K X.mg X.base CX0 k f fd ps sp) (hr : Room k X.A) (hg : Gl X x) (hm : X.mg x = some (.ref f)) (hk : PySem.W.keepIn X.K (.ref f) = true)
    (hb : KB X.K fd ps ks g gV) (hkw : PK X kws tk)
    (hall : (backToKw pos (keywordEach kws X.env)).all (·.1.isSome) = true := by rfl) (hks : (backToKw pos (keywordEach kws X.env)).filterMap (·.1) = ks := by rfl)
    (hdb : (x == ("__debug__" : Str)) = false := by decide)
    (hpl : ((backTo pos (starEach [] X.env)).any (·.1) || (backToKw pos (keywordEach kws X.env)).any (·.1.isNone)) = false := by rfl) :
    PE X (.Call (.Name x p) [] kws pos) (tCallKw sp gV tk) := by
  constructor
  intro pins s σ H Q I h
  refine wpAny_Call_Name_kw (ld_glob I hg hm ?_ hdb)
  refine PySem.W.callWith_KW0 (h₀ := X.base) I.ok.mod.kin hk hall ?_ hpl
  refine thn (hkw.run pos pins s σ H _ I h) ?_
  rintro ws s2 ⟨zs, H2, I2, rz, q2⟩
  refine ⟨I2.kIn, ?_⟩
  rw [hks]
  have r2 := hb.rel rz
  have hl : (g ws).length = ps.length := r2.length ▸ F.len _ _ _ _ q2
  exact run0 F hr (hb.to s2 ws I2.kIn hl) I2 r2 q2
end

/-! ### repr of data -/
section
variable {X : Cx}
def rRepr (K : PySem.W.Frag) : List V → Hp → VK → Prop := fun xs H Q => ∃ a d, xs = [.ref a] ∧ Dp K H (.ref a) d ∧ d.showable = true ∧ d.hasDict = false ∧ d.depth ≤ 60 ∧ d.shown.length ≤ sizeLine ∧ Q (.str d.shown) H
theorem call_repr (hgd : X.A.guards = some []) (hu : X.A.units + 64 < cLine) : CallR X (.builtin "repr") (rRepr X.K) := by
  intro pins s σ H xs us Q I r h
  obtain ⟨a, d, rfl, hd, h1, h2, h3, h4, q⟩ := h
  rw [Vals.ref1 r]
  obtain ⟨as, hr⟩ := Dp.reads I d _ (.ref a) hd rfl
  refine repr_of_reads' hr h1 (PyData.noDict_hsm h2) hgd (by omega) (fun _ _ e => e) (fun h' u tk hk => ?_) h4
  exact ⟨.str d.shown, H, I.kept hk, ⟨u, rfl⟩, q⟩
end


/-! ### enumerate(tuple) -/
theorem meets_enum_newT (l : Addr) (items : Array Value) :
    Meets (Builtin.«enumerate.__new__» ⟨[.type "enumerate", .ref l], []⟩) (fun _ R s => s.heap.IsTuple l items ∧
      R (.ok (.ret (.ref (s.heap.push { cls := .type "tuple_iterator", data := .fields #[.ref l, .int 0 0] }).objs.size)))
        { s with heap := (s.heap.push { cls := .type "tuple_iterator", data := .fields #[.ref l, .int 0 0] }).push { cls := .type "enumerate", data := .fields #[.none, .bool false, .ref s.heap.objs.size, rawInt 0, .none, .none] } }) :=
  .of_wp fun prog w A R s h => by
    obtain ⟨hp, g, d, tk, os⟩ := s
    obtain ⟨hl, h⟩ := h
    have hsub := sub_enumerate
    have hT : Heap.IsTuple (Shared.heap ⟨hp, g, d, tk, os⟩) l items := hl
    obtain ⟨⟨c, dct, dt, sl⟩, ho, hc, n, hd⟩ := id hl
    replace hc : c = .type "tuple" := hc
    replace hd : dt = .seq items n := hd
    subst hc hd
    wp_walk using AutoSeq1.wpAny_loadPart' ho
    refine wpAny_stack_any fun st => wpAny_pure ?_
    split
    · rename_i c _ _ _ _ _
      cases (c == Value.type "enumerate")
      · wp_walk using AutoSeq1.wpAny_loadPart' ho, wpAny_pyIter_tuple hT
        exact ⟨_, rfl, h⟩
      · wp_walk using AutoSeq1.wpAny_loadPart' ho, wpAny_pyIter_tuple hT
        exact ⟨_, rfl, h⟩
    · wp_walk using AutoSeq1.wpAny_loadPart' ho, wpAny_pyIter_tuple hT
      exact ⟨_, rfl, h⟩
theorem call_enum_tup {prog : Program} {w : World} {A : Around} {E : Value → Shared → Prop} {s : Shared} {l : Addr} {items : Array Value} {Q : Value → Shared → Prop} (hL : s.heap.IsTuple l items)
    (h : ∀ h', IsEnum h' (s.heap.objs.size + 1) s.heap.objs.size 0 .none → h'.IsTupleIter s.heap.objs.size l 0 → h'.objs.size = s.heap.objs.size + 2 →
      (∀ b o, s.heap.get? b = some o → h'.get? b = some o) → Q (.ref (s.heap.objs.size + 1)) { s with heap := h' }) :
    wpAny (model prog w) A (call (.type "enumerate") [.ref l]) Q E s := by
  refine callType_new F.called_enumerate (by decide) (F.typeCall_enumerate_1 _) (F.newCall_enumerate_1 _) (fun obj => F.args_object_init_2 obj _) F.entry_enumerate_new (meets_enum_newT l items) ⟨hL, ?_⟩
  have hz : (s.heap.push { cls := .type "tuple_iterator", data := .fields #[.ref l, .int 0 0] }).objs.size = s.heap.objs.size + 1 := Heap.size_push ..
  show _ ∧ _
  rw [hz]
  have he := Heap.get?_push_size (s.heap.push { cls := .type "tuple_iterator", data := .fields #[.ref l, .int 0 0] })
      (o := { cls := .type "enumerate", data := .fields #[.none, .bool false, .ref s.heap.objs.size, rawInt 0, .none, .none] }) rfl
  rw [hz] at he
  refine ⟨⟨_, he, rfl⟩, h _ he ⟨_, Heap.get?_push_of_some _ (Heap.get?_push_size _ rfl), rfl, rfl⟩ (by rw [Heap.size_push, hz]) ?_⟩
  exact fun b o x => Heap.get?_push_of_some _ (Heap.get?_push_of_some _ x)
def IteT (K : PySem.W.Frag) (a : Addr) : It where
  go := fun i H => ∃ (xs : List V) (x : V), SqT K H a xs ∧ xs[i]? = some x
  yld := fun i H v H' => ∃ T x, v = .ref T ∧ H T = none ∧ H' = upd H T (.tup [.int (i : Nat), x]) ∧ ∀ xs, SqT K H a xs → xs[i]? = some x
  stop := fun i H => ∃ xs : List V, SqT K H a xs ∧ xs.length ≤ i
theorem turn_enumT {P : Program} {w : World} {K : PySem.W.Frag} {elts : List Expr} {kk : Nat} {tpos : Pos} (a e it : Addr) :
    Turn P w K (.Tuple elts kk tpos) (IteT K a) [e, it] e (fun i h => (∃ old, IsEnum h e it ((i : Nat) : Int) old) ∧ h.IsTupleIter it a i ∧ e ≠ it) where
  mem := List.mem_cons_self
  obj := by
    rintro i h ⟨⟨old, he⟩, ⟨o, ho, hc, hd⟩, _⟩ b hb
    have cs : b = e ∨ b = it := by simpa using hb
    rcases cs with rfl | rfl
    · exact ⟨_, he, fun v q => nomatch q⟩
    · exact ⟨o, ho, fun v q => by rw [hd] at q; cases q⟩
  keep := by
    rintro i h h' ⟨⟨old, he⟩, hi, hne⟩ k
    exact ⟨⟨old, k e (by simp) _ he⟩, hi.at fun o q => k it (by simp) o q, hne⟩
  item := by
    intro X hP hw hK hc i pins s σ H E I hf st hg
    subst hP hw hK
    obtain ⟨⟨old, he⟩, hit, hne⟩ := st
    obtain ⟨xs, x, hq, hx⟩ := hg
    obtain ⟨its, rv, p, hz⟩ := I.tuple hq
    obtain ⟨u, hu, ru⟩ := rv.get hx
    have hel : e < s.heap.objs.size := Heap.lt_size he
    have hil : it < s.heap.objs.size := by
      obtain ⟨_, q, _⟩ := hit
      exact Heap.lt_size q
    have hha : X.A.in1.handled = none := I.ok.hd hc
    have pa : s.heap.IsTuple a its.toArray := p
    have nai : a ≠ it := by
      rintro rfl
      obtain ⟨o, q1, q2, q3⟩ := hit
      obtain ⟨o', q1', q2', n', q3'⟩ := pa
      rw [q1] at q1'
      cases q1'
      rw [q3] at q3'
      cases q3'
    have nae : a ≠ e := by
      rintro rfl
      obtain ⟨o', q1', q2', n', q3'⟩ := pa
      rw [show s.heap.get? a = _ from he] at q1'
      cases q1'
      cases q3'
    refine wpAny_pyNext_enum_itemD (n := its.toArray.size) (Draws.tuple hha it a nai its.toArray) he ⟨hit, pa⟩ (by have := List.getElem?_eq_some_iff.mp hu; obtain ⟨q, _⟩ := this; simpa using q) hne (by simp [hne, Ne.symm nae]) fun y h' tk hy ho hst hT hsz hk => ?_
    have ey : y = u := by
      have hy' : its.toArray[i]? = some y := hy
      have : its[i]? = some y := by simpa using hy'
      rw [hu] at this
      exact (Option.some.inj this).symm
    subst ey
    refine ⟨_, rfl, wpAny_letOwnedTupleGo_enum (s := { s with heap := h', toks := tk + 1 }) ho fun h'' he' sb => ?_⟩
    have hT2 : h''.get? s.heap.objs.size = some { cls := .type "tuple", data := .seq #[.int i tk, y] } := (sb.2 _ (Nat.ne_of_gt hel)).trans hT
    have new : ObjOk X.prog X.w (upd H s.heap.objs.size (.tup [.int (i : Nat), x])) h'' s.heap.objs.size (.tup [.int (i : Nat), x]) :=
      ⟨by show 2 ≤ sizeLine; decide, [.int i tk, y], .cons ⟨_, rfl⟩ (.cons ru .nil), ⟨_, hT2, rfl, _, rfl⟩⟩
    have I1 : Inv X pins σ (upd H s.heap.objs.size (.tup [.int (i : Nat), x])) { s with heap := h'', toks := tk + 1 } :=
      I.turnedNew (ch := [e, it]) (fun b ob hb q => (sb.2 b (fun z => hb (by simp [z]))).trans (hk b ob (fun z => hb (by simp [z])) (fun z => hb (by simp [z])) q)) hf (Nat.le_refl _) new
    refine ⟨.ref s.heap.objs.size, _, I1, rfl, ⟨_, x, rfl, I.hok.fresh (Nat.le_refl _), rfl, fun ys hy => by rw [I.tuple_inj hy hq]; exact hx⟩, ⟨⟨y, ?_⟩, hst.1.at fun o q => (sb.2 it (Ne.symm hne)).trans q, hne⟩, fun b hb => ?_⟩
    · have e1 : ((i + 1 : Nat) : Int) = (i : Int) + 1 := by omega
      rw [e1]
      exact he'
    · have cs : b = e ∨ b = it := by simpa using hb
      have hb' : b < s.heap.objs.size := by
        rcases cs with rfl | rfl
        · exact hel
        · exact hil
      rw [upd_ne (Nat.ne_of_lt hb')]
      exact (hf b hb).1
  done := by
    intro X hP hw hK hc i pins s σ H E I hf st hg
    subst hP hw hK
    obtain ⟨⟨old, he⟩, hit, hne⟩ := st
    obtain ⟨xs, hq, hx⟩ := hg
    obtain ⟨its, rv, p, hz⟩ := I.tuple hq
    obtain ⟨f0, f1, f2, f3, f4, f5⟩ := hf it (by simp)
    have pa : s.heap.IsTuple a its.toArray := p
    have hha : X.A.in1.handled = none := I.ok.hd hc
    have nai : a ≠ it := by
      rintro rfl
      obtain ⟨o, q1, q2, q3⟩ := hit
      obtain ⟨o', q1', q2', n', q3'⟩ := pa
      rw [q1] at q1'
      cases q1'
      rw [q3] at q3'
      cases q3'
    -- an iterator behind the end stands like one at the end: the next of it is told apart
    unfold pyNext
    have hT : s.TypeIs (.ref e) "enumerate" := ⟨_, he, rfl⟩
    refine wpAny_bind (wpAny_attempt (wpAny_callSpecial?_slot (name := Str.ofString "__next__") hT F.slot_enumerate_next
      (wpAny_call_entry F.slot_enumerate_next hT F.entry_enumerate_next ?_ (F.args_enumerate_next_1 _))))
    show wpAny _ _ (field (.ref e) 2 >>= _) _ _ _
    refine wpAny_bind (wpAny_field he rfl (x := .ref it) rfl ?_)
    refine wpAny_bind (wpAny_nextOf_tuple_end hha hit pa (by simp; have := rv.length; omega) fun h' x he' hx' => ?_)
    obtain ⟨o, ho, hc⟩ := hx'
    refine wpAny_bind (wpAny_isInstance (T := "StopIteration") (b := true) ⟨o, ho, hc⟩ isSubtype_stop ?_)
    exact wpAny_pure ⟨rfl, I.turned (t' := s.toks) (fun b o hb q => he' b o hb q) f0 f1 f3 f4 f5⟩
  self := fun A i s Q E st h => let ⟨⟨_, he⟩, _⟩ := st; wpAny_pyIter_enum he h
def iEnumT (K : PySem.W.Frag) (ta : TA) : TI := fun σ H R => ta σ H fun vs H1 => ∃ a xs, vs = [.ref a] ∧ SqT K H1 a xs ∧ R (IteT K a) H1
theorem pi_enumT {X : Cx} {e : Expr} {ta : TA} {p pos tpos : Pos} {elts : List Expr} {kk : Nat} (hg : Gl X "enumerate") (hm : X.mg "enumerate" = none) (ha : PA X [e] ta)
    (hs : starEach [e] X.env = [(false, eval e X.env)] := by rfl) : PI X (.Tuple elts kk tpos) (.Call (.Name "enumerate" p) [e] [] pos) (iEnumT X.K ta) := by
  constructor
  intro pins s σ H R I h
  refine Call_ (ld_blt I hg hm boot_enumerate (PyProof.Rows.callWith_type1 (thn (ha.run pos pins s σ H _ I h) ?_) hs rfl))
  rintro us s1 ⟨vs, H1, I1, r1, a, xs, ex, hq, q⟩
  subst ex
  rw [Vals.ref1 r1]
  obtain ⟨its, rv, p', hz⟩ := I1.tuple hq
  refine call_enum_tup p' fun h' he hit hsz hk => wpAny_pyIter_enum he ?_
  have I2 : Inv X pins σ H1 { s1 with heap := h' } := I1.kept (t' := s1.toks) hk
  refine ⟨s1.heap.objs.size + 1, [s1.heap.objs.size + 1, s1.heap.objs.size], _, _, H1, rfl, I2, turn_enumT a (s1.heap.objs.size + 1) s1.heap.objs.size, ⟨⟨.none, he⟩, hit, Nat.succ_ne_self _⟩, fun b hb => ?_, q⟩
  have cs : b = s1.heap.objs.size + 1 ∨ b = s1.heap.objs.size := by simpa using hb
  have hle : s1.heap.objs.size ≤ b := by
    rcases cs with z | z
    · rw [z]
      exact Nat.le_succ _
    · rw [z]
      exact Nat.le_refl _
  exact I1.fpOk hle (I1.hok.fresh hle)
theorem walk_enumT {K : PySem.W.Frag} {a : Addr} {xs : List V} : Walk (IteT K a) xs.length (fun H => SqT K H a xs) (YPair (fun i => some (.int (i : Nat))) (fun i => xs[i]?)) := by
  refine ⟨fun i _ hi q => ⟨xs, xs[i], q, by simp [hi]⟩, fun _ q => ⟨xs, q, Nat.le_refl _⟩, ?_⟩
  rintro i H v H' _ q ⟨T, x, h1, h2, h3, h4⟩
  exact ⟨T, .int (i : Nat), x, h1, h2, h3, rfl, h4 xs q⟩

/-! ### tuple.count of flat items -/
section
variable {X : Cx}
def rCountT (K : PySem.W.Frag) : V → List V → Hp → VK → Prop := fun x vs H Q => ∃ (a : Addr) (ys : List V) (y : V), x = V.ref a ∧ vs = [y] ∧ SqT K H a ys ∧ flatV y = true ∧ ys.all flatV = true ∧ Q (.int ((ys.countP fun z => eqV z y : Nat) : Int)) H
theorem countP_vals {y : V} : ∀ {xs : List V} {us : List Value}, Vals xs us → xs.all flatV = true → us.countP (eqU y) = xs.countP fun z => eqV z y
  | _, _, .nil, _ => rfl
  | x :: xs, u :: us, .cons r t, f => by
    rw [List.all_cons, Bool.and_eq_true] at f
    rw [List.countP_cons, List.countP_cons, countP_vals t f.2, eqU_of r f.1]
theorem mt_countT : MtR X "tuple.count" (rCountT X.K) := by
  intro pins s σ H x xs v us Q I rx rxs h
  obtain ⟨a, ys, y, rfl, rfl, hs, fy, fys, q⟩ := h
  cases rx
  cases rxs with
  | cons ry rt =>
    rename_i uy ut
    cases rt
    obtain ⟨its, rv, ⟨o, ho, hc, n, hd⟩, hlen⟩ := I.tuple hs
    obtain ⟨cls, dd, data, sl⟩ := o
    replace hc : cls = _ := hc
    replace hd : data = _ := hd
    subst hc hd
    refine call_meets PySem.F.slot_tuple_count ⟨_, ho, rfl⟩ PySem.F.entry_tuple_count (PySem.F.args_tuple_count_2 _ _)
      (SeqAt.tuple_countAt a its.toArray n dd sl uy (eqU y)) ⟨ho, fun u' hu' => mem_eqAt ry fy rv fys u' (by simpa using hu'), ?_⟩
    have e1 : its.toArray.toList.countP (eqU y) = ys.countP fun z => eqV z y := by
      rw [List.toList_toArray]
      exact countP_vals rv fys
    rw [e1]
    exact ⟨.int ((ys.countP fun z => eqV z y : Nat) : Int), H, I.tok _, ⟨_, rfl⟩, q⟩
end


/-- the law's own run from an abstract heap that knows the script alone, where the promise may lean on the empty list of guards -/
theorem lawG {P : Program} {w : World} {K : PySem.W.Frag} {mg mb : Str → Option Value} {k : Nat} {fa a : Addr} {fd : FuncData} {x : Str} {sp : Sp} {s₁ : Shared} {vs : List Value} {ns : List Int}
    (KX : K.In s₁.heap) (hns : s₁.heap.Ns mainGlobals mg) (hb : s₁.heap.Ns builtinsNs mb) (hbb : ∀ x : Str, x ≠ "__name__" → mb x = bootBuiltins x) (hlim : s₁.heap.NoLimit) (hg : s₁.gens = #[])
    (ha : s₁.heap.get? a = some { cls := .type "list", data := .seq vs.toArray }) (hi : IntsAre vs ns) (hl : ns.length ≤ sizeLine) (hr : Room k callerA)
    (F : ∀ base : Heap, K.In base → base.Ns mainGlobals mg → FnG P w K mg base k fa fd [x] sp) (hbind : ∀ (s : Shared) (u : Value), BindsTo s fd ⟨[u], []⟩ [(x, u)])
    (hsp : ∀ H : Hp, Only H → SqL K H a (ns.map V.int) → sp [.ref a] H (fun v _ => v = .bl true) E0) :
    codeAny (model P w) callerA (.call (.ref fa) ⟨[.ref a], []⟩)
      (fun r s' => r = .ok (.ret (.bool true)) ∧ OldK s₁.heap s'.heap ∧ s'.os = s₁.os ∧ AllBare s'.gens) s₁ := by
  have rv := vals_ints hi
  have lenV := hi.length
  have core : ∀ H : Hp, Only H → SqL K H a (ns.map V.int) → HOk P w H s₁.heap → (∀ b, H b ≠ none → b = a) → (H a ≠ none → K.lookup a = none) →
      codeAny (model P w) callerA (.call (.ref fa) ⟨[.ref a], []⟩)
        (fun r s' => r = .ok (.ret (.bool true)) ∧ OldK s₁.heap s'.heap ∧ s'.os = s₁.os ∧ AllBare s'.gens) s₁ := by
    intro H hO hS hok hA hK
    have dicts : ∀ {b : Addr} {o : Obj} {es : Array DictEntry} {ep : Nat}, s₁.heap.get? b = some o → o.data = .dict es ep → H b = none := by
      intro b o es ep e d
      match q : H b with
      | none => rfl
      | some u =>
        have eb : b = a := hA b (by rw [q]; simp)
        rw [eb, ha] at e
        rw [← Option.some.inj e] at d
        cases (show Data.seq vs.toArray _ = Data.dict es ep from d)
    have ns' : ∀ {b : Addr} {m : Str → Option Value}, s₁.heap.Ns b m → (hidT s₁.heap H).Ns b m := by
      rintro b m ⟨o, es, ep, e, d, r⟩
      exact ⟨o, es, ep, hidT_get e (dicts e d), d, r⟩
    have inK : K.In (hidT s₁.heap H) := by
      intro b o e
      refine hidT_get (KX b o e) ?_
      match q : H b with
      | none => rfl
      | some u =>
        have eb : b = a := hA b (by rw [q]; simp)
        rw [eb, hK (by rw [← eb, q]; simp)] at e
        cases e
    have md : Mod K mg (hidT s₁.heap H) := by
      obtain ⟨mc, h1, h2⟩ := hlim
      exact ⟨inK, ns' hns, ⟨mb, ns' hb, hbb⟩, ⟨mc, ns' h1, h2⟩⟩
    have e0 : Env0 P w K mg (hidT s₁.heap H) callerA [] s₁ H := by
      refine ⟨rfl, md, fun b o e => of_hidT e, ?_, trivial, ?_, hok, .of_eq hg⟩
      · exact Nat.le_of_eq (hidT_size _ _)
      · exact fun b hb => absurd (show b ∈ ([] : List Addr) from hb) (by simp)
    have run := (F _ inK (ns' hns)).run callerA [] s₁ H ⟨[.ref a], []⟩ [.ref a] [.ref a] _ _ rfl hr e0 (hbind s₁ (.ref a)) (.cons rfl .nil) (hsp H hO hS)
    refine codeAny_mono run fun r s' h => ?_
    match r, h with
    | .error e, h => exact False.elim h
    | .ok .next, h => exact False.elim h
    | .ok .brk, h => exact False.elim h
    | .ok .cont, h => exact False.elim h
    | .ok (.ret u), h =>
      obtain ⟨v, H', os, bare, un, hok', r', q⟩ := h
      replace q : v = .bl true := q
      subst q
      obtain rfl : u = Value.bool true := r'
      refine ⟨rfl, OldK.of_keep ?_, os, bare⟩
      intro b o e
      match q : H b with
      | none => exact un.keep b o e q (fun z => absurd (show b ∈ ([] : List Addr) from z) (by simp)) (by simp)
      | some u =>
        rcases hO b with z | ⟨ob, xs, z⟩
        · rw [q] at z
          cases z
        · obtain ⟨e1, _⟩ := hok b _ z
          obtain ⟨e2, _⟩ := hok' b _ (un.frzs b ob _ z)
          rw [e] at e1
          rw [Option.some.inj e1]
          exact e2
  match hk : K.lookup a with
  | some o =>
    have e := KX a o hk
    rw [ha] at e
    have eo := Option.some.inj e
    subst eo
    refine core (fun _ => none) (fun _ => .inl rfl) (.inr ⟨_, vs.toArray, _, hk, rfl, rfl, rfl, ?_, by simpa using rv⟩) (fun b u z => ?_) (fun b z => absurd rfl z) fun z => absurd rfl z
    · rw [List.size_toArray, lenV]
      exact hl
    · cases (show (none : Option HO) = some u from z)
  | none =>
    let Hs : Hp := fun b => if b = a then some (.frz { cls := .type "list", data := .seq vs.toArray } (.lst (ns.map V.int))) else none
    have hs1 : Hs a = some (.frz { cls := .type "list", data := .seq vs.toArray } (.lst (ns.map V.int))) := if_pos rfl
    have hs2 : ∀ b, b ≠ a → Hs b = none := fun b hb => if_neg hb
    have hs3 : ∀ b, Hs b ≠ none → b = a := fun b z => Classical.byContradiction fun hb => z (hs2 b hb)
    refine core Hs (fun b => ?_) (.inl (.inr ⟨{ cls := .type "list", data := .seq vs.toArray }, hs1⟩)) (fun b u z => ?_) hs3 fun _ => hk
    · by_cases hb : b = a
      · exact .inr ⟨_, _, hb ▸ hs1⟩
      · exact .inl (hs2 b hb)
    · have eb : b = a := hs3 b (by rw [z]; simp)
      rw [eb, hs1] at z
      rw [← Option.some.inj z, eb]
      exact ⟨ha, by rw [List.length_map]; exact hl, vs, _, rv, ha⟩
/-- the goal that k_head leaves, from such a promise of the law -/
theorem walkG {l : PySem.W.OpenLaw} {n k : Nat} {q : Program} {loose : List Str} {XP : (Str → Option Value) → Heap → Prop} {YP : World → Heap → Prop} {d : DefRec} {K : Params → PySem.W.Frag} {sp : PySem.W.Frag → Sp} {x : Str}
    (hn : l.most = some n) (hn2 : n ≤ sizeLine) (hdf : d.params.defaults = []) (hr : Room k callerA)
    (hY : ∀ (w : World) (h : Heap), YP w h → (K w.params).In h)
    (F : ∀ (w : World) (mg : Str → Option Value) (fa : Addr) (h : Heap), (K w.params).In h → h.Ns mainGlobals mg → mg d.name = some (.ref fa) →
      ∃ fd : FuncData, (∀ (s : Shared) (u : Value), BindsTo s fd ⟨[u], []⟩ [(x, u)]) ∧
        ∀ base : Heap, (K w.params).In base → base.Ns mainGlobals mg → FnG l.prog w (K w.params) mg base k fa fd [x] (sp (K w.params)))
    (hsp : ∀ (K : PySem.W.Frag) (H : Hp) (a : Addr) (ns : List Int), ns.length ≤ n → (∀ z ∈ ns, Builtin.Int.intBits z ≤ 1048576) → Only H → SqL K H a (ns.map V.int) → sp K [.ref a] H (fun v _ => v = .bl true) E0) :
    PySem.W.WalkO q loose XP YP l.row.toRowW d [] (fun f vs => PySem.call f vs) := by
  refine Att.attach_callB hn hdf ?_
  intro w s₀ s₁ mg mb fa o pm cd doc a vs ns G Y ho hd hcd hmg hobj hints hlen hbits hg
  have KX := hY w _ Y
  obtain ⟨fd, hb, hF⟩ := F w mg fa _ KX G.T.g hmg
  exact lawG KX G.T.g G.T.b G.T.builtins G.T.nolimit hg hobj hints (Nat.le_trans hlen hn2) hr hF hb fun H hO hS => hsp (K w.params) H a ns hlen hbits hO hS


/-! ### tuples whose very object is known: they have no dict, so their methods may be called -/
def tyF (T : String) (x : V) (H : Hp) : Prop := ∃ p o u, x = .ref p ∧ H p = some (.frz o u) ∧ o.cls = .type T ∧ o.dict = none
def FT (H : Hp) (a : Addr) (xs : List V) : Prop := ∃ o, H a = some (.frz o (.tup xs)) ∧ o.cls = .type "tuple" ∧ o.dict = none
theorem FT.seq {K : PySem.W.Frag} {H : Hp} {a : Addr} {xs : List V} (h : FT H a xs) : SqT K H a xs := by
  obtain ⟨o, h, _⟩ := h
  exact .inl (.inr ⟨o, h⟩)
theorem FT.ty {H : Hp} {a : Addr} {xs : List V} (h : FT H a xs) : tyF "tuple" (.ref a) H := by
  obtain ⟨o, h, c, d⟩ := h
  exact ⟨a, o, _, rfl, h, c, d⟩
def tBMF (T : String) (r : V → List V → Hp → VK → Prop) (to : TE) (t : TA) : TE := fun σ H Q => to σ H fun x H1 => tyF T x H1 ∧ t σ H1 fun xs H2 => r x xs H2 Q
section
variable {X : Cx} {o e : Expr} {es : List Expr} {to : TE} {t : TA} {name : Str} {apos cpos pos : Pos} {T id : String} {r : V → List V → Hp → VK → Prop}
theorem pe_bmF (pa : PlainAttrs T) (slot : Slot T name id) (hty : typeOf (.builtin id) = pure (.type "method_descriptor")) (hm : MtR X id r) (ho : PE X o to) (ha : PA X (e :: es) t)
    (hbase : attributeBase o name X.env (eval o X.env) = eval o X.env := by rfl)
    (hfew : ((backTo cpos (starEach (e :: es) X.env)).all (fun x => !x.1) && (backToKw cpos (keywordEach [] X.env)).all (fun x => x.1.isSome)
      && decide ((e :: es).length + ([] : List Keyword).length + (if ([] : List Keyword).isEmpty then 0 else 1) < 30)) = true := by rfl)
    (hline : (apos.endLine == cpos.line) = true := by rfl) (hs : starEach (e :: es) X.env = (false, eval e X.env) :: starEach es X.env := by rfl) (hplain : (backTo cpos (starEach es X.env)).any (·.1) = false := by rfl) :
    PE X (.Call (.Attribute o name apos) (e :: es) [] cpos) (tBMF T r to t) := by
  constructor
  intro pins s σ H Q I h
  refine wpAny_Call_method_late hbase hfew hline rfl (thn (ho.run pins s σ H _ I h) ?_)
  rintro v s1 ⟨x, H1, I1, r1, ⟨p, ob, u, rfl, hp, hc, hd⟩, q1⟩
  cases r1
  have hob := (I1.hok p _ hp).1
  refine ⟨T, id, pa, slot, hty, ⟨ob, hob, hc⟩, ?_, ?_⟩
  · intro a ea
    cases ea
    exact ⟨ob, hob, hd⟩
  have hA := ha.run cpos pins s1 σ H1 _ I1 q1
  rw [hs] at hA ⊢
  refine Calls.callWith_builtin ?_ (Calls.evalArgs_plain (thn hA fun us s2 ⟨vs, H2, I2, r2, q2⟩ => hm pins s2 σ H2 (.ref p) vs (.ref p) us Q I2 (show RelV (.ref p) (.ref p) from rfl) r2 q2))
  show (false || (backTo cpos (starEach es X.env)).any (·.1)) = false
  rw [hplain, Bool.false_or]
theorem call_tupF : CallR X (.type "tuple") (fun xs H Q => ∃ p ys, xs = [.ref p] ∧ SqL X.K H p ys ∧ ∀ l o, H l = none → o.cls = .type "tuple" → o.dict = none → Q (.ref l) (upd H l (.frz o (.tup ys)))) := by
  intro pins s σ H xs us Q I r h
  obtain ⟨p, ys, rfl, hq, q⟩ := h
  rw [Vals.ref1 r]
  obtain ⟨its, r', pl, hz⟩ := I.list hq
  have hlen := r'.length
  refine call_tuple_list pl.isList (fun h' kp => ?_) (by simp only [List.size_toArray] <;> omega)
  have I1 : Inv X pins σ H { s with heap := h' } := I.kept (t' := s.toks) kp
  let ob : Obj := { cls := .type "tuple", data := .seq its.toArray }
  have I2 : Inv X pins σ (upd H h'.objs.size (.frz ob (.tup ys))) { s with heap := h'.push ob } :=
    I1.laid (t' := s.toks) (fun b o e => Heap.get?_push_of_some _ e) (Nat.le_refl _) ⟨Heap.get?_push_size _ rfl, hz, its, r', IsTup.new _ _⟩
  exact ⟨.ref h'.objs.size, _, I2, rfl, q _ ob (I1.hok.fresh (Nat.le_refl _)) rfl rfl⟩
def tTupF (t : TA) : TE := fun σ H Q => t σ H fun xs H1 => xs.length ≤ sizeLine ∧ ∀ p o, H1 p = none → o.cls = .type "tuple" → o.dict = none → Q (.ref p) (upd H1 p (.frz o (.tup xs)))
theorem pe_tupF {x1} (h : PA X es t) : PE X (.Tuple es x1 pos) (tTupF t) := by
  constructor
  intro pins s σ H Q I hq
  refine wpAny_Tuple_spliced (thn (h.run pos pins s σ H _ I hq) ?_)
  rintro us s1 ⟨xs, H1, I1, r, z, q⟩
  refine ⟨by rw [← r.length]; exact z, ?_⟩
  have hf : H1 s1.heap.objs.size = none := I1.hok.fresh (Nat.le_refl _)
  refine ⟨.ref s1.heap.objs.size, upd H1 s1.heap.objs.size (.frz { cls := .type "tuple", data := .seq us.toArray } (.tup xs)), I1.laid (t' := s1.toks) (fun b u e => Heap.get?_push_of_some _ e) (Nat.le_refl _) ?_, rfl, q _ _ hf rfl rfl⟩
  exact ⟨Heap.get?_push_size _ rfl, z, us, r, ⟨_, Heap.get?_push_size _ rfl, rfl, _, rfl⟩⟩
end

/-! ### what an update of the list at a place leaves, for the reading of o[i] op= e -/
def rGetL (K : PySem.W.Frag) : V → V → Hp → VK → Prop := fun o i H Q => ∃ p xs k v, o = .ref p ∧ i = .int k ∧ SqL K H p xs ∧ atI xs k = some v ∧ Q v H

/-! ### steps of a reading -/
abbrev SS := L2.St
section
variable {K : PySem.W.Frag} {σ : SS} {H H' : Hp} {Q : VK} {QB : Bool → Hp → Prop} {QA : List V → Hp → Prop} {QS : SS → Hp → Prop} {x y v : V} {ta tb te : TE} {tt tu : TT} {t : TA} {xs : List V} {p : Addr} {i j : Int} {n : Nat}
theorem x_var (h : σ[n]? = some (some v)) (q : Q v H) : tVar n σ H Q := ⟨v, h, q⟩
theorem x_c (q : Q v H) : tC v σ H Q := q
theorem x_op {r : R2} (q : ta σ H fun x H1 => tb σ H1 fun y H2 => r x y H2 Q) : tOp r ta tb σ H Q := q
theorem x_un {r : V → Hp → VK → Prop} (q : ta σ H fun x H1 => r x H1 Q) : tUn r ta σ H Q := q
theorem x_I0 {g : Int → Int → V} (q : Q (g i j) H) : rI0 g (.int i) (.int j) H Q := ⟨i, j, rfl, rfl, q⟩
theorem x_I {C : Int → Int → Prop} {g : Int → Int → V} (c : C i j) (q : Q (g i j) H) : rI C g (.int i) (.int j) H Q := ⟨i, j, rfl, rfl, c, q⟩
theorem x_U {g : Int → V} (q : Q (g i) H) : rU g (.int i) H Q := ⟨i, rfl, q⟩
theorem x_eq (s : scal x y = true) (q : Q (.bl (decide (x = y))) H) : rEq x y H Q := ⟨s, q⟩
theorem x_ne (s : scal x y = true) (q : Q (.bl (!decide (x = y))) H) : rNe x y H Q := ⟨s, q⟩
theorem x_isN (q : Q (.bl (decide (x = .non))) H) : rIsN x .non H Q := ⟨rfl, q⟩
theorem x_notN (q : Q (.bl (!decide (x = .non))) H) : rNotN x .non H Q := ⟨rfl, q⟩
theorem x_ixL (h : SqL K H p xs) (a : atI xs i = some v) (q : Q v H) : rIxL K (.ref p) (.int i) H Q := ⟨p, xs, i, v, rfl, rfl, h, a, q⟩
theorem x_ixT (h : SqT K H p xs) (a : atI xs i = some v) (q : Q v H) : rIxT K (.ref p) (.int i) H Q := ⟨p, xs, i, v, rfl, rfl, h, a, q⟩
theorem x_nil (q : QA [] H) : tNil σ H QA := q
theorem x_cons {tr : TA} (q : ta σ H fun x H1 => tr σ H1 fun xs H2 => QA (x :: xs) H2) : tCons ta tr σ H QA := q
theorem x_lst (q : t σ H fun xs H1 => xs.length ≤ sizeLine ∧ ∀ p, H1 p = none → Q (.ref p) (upd H1 p (.lst xs))) : tLst t σ H Q := q
theorem x_tup (q : t σ H fun xs H1 => xs.length ≤ sizeLine ∧ ∀ p, H1 p = none → Q (.ref p) (upd H1 p (.tup xs))) : tTup t σ H Q := q
theorem x_tupF (q : t σ H fun xs H1 => xs.length ≤ sizeLine ∧ ∀ p o, H1 p = none → o.cls = .type "tuple" → o.dict = none → Q (.ref p) (upd H1 p (.frz o (.tup xs)))) : tTupF t σ H Q := q
theorem x_CB {r : List V → Hp → VK → Prop} (q : t σ H fun vs H1 => r vs H1 Q) : tCB r t σ H Q := q
theorem x_call {sp : Sp} {E : XK} (q : t σ H fun vs H1 => sp (vs ++ []) H1 Q E) : tCall sp [] E t σ H Q := q
theorem x_test (q : te σ H fun x H' => ∃ k, x = .bl k ∧ QB k H') : tTest te σ H QB := q
theorem x_bl {b : Bool} {R : Bool → Prop} (q : R b) : ∃ k, V.bl b = .bl k ∧ R k := ⟨b, rfl, q⟩
theorem x_B (q : te σ H fun x H1 => ∃ c, x = .bl c ∧ QB c H1) : tB te σ H QB := q
theorem x_andV (q : ta σ H fun x H1 => ∃ c, x = .bl c ∧ if c = true then tb σ H1 Q else Q (.bl false) H1) : tAndV ta tb σ H Q := q
theorem x_orV (q : ta σ H fun x H1 => ∃ c, x = .bl c ∧ if c = true then Q (.bl true) H1 else tb σ H1 Q) : tOrV ta tb σ H Q := q
theorem x_notV (q : ta σ H fun x H1 => ∃ c, x = .bl c ∧ Q (.bl (!c)) H1) : tNotV ta σ H Q := q
theorem x_and (q : tt σ H fun c H1 => if c = true then tu σ H1 QB else QB false H1) : tAnd tt tu σ H QB := q
theorem x_or (q : tt σ H fun c H1 => if c = true then QB true H1 else tu σ H1 QB) : tOr tt tu σ H QB := q
theorem x_not (q : tt σ H fun c H1 => QB (!c) H1) : tNot tt σ H QB := q
theorem x_if (q : tt σ H fun c H1 => if c = true then ta σ H1 Q else tb σ H1 Q) : tIf tt ta tb σ H Q := q
theorem x_sl {r : V → Option Int → Option Int → Hp → VK → Prop} {tl th : TO} (q : te σ H fun x H1 => tl σ H1 fun l H2 => th σ H2 fun u H3 => r x l u H3 Q) : tSl r te tl th σ H Q := q
theorem x_no {QO : Option Int → Hp → Prop} (q : QO none H) : tNoPart σ H QO := q
theorem x_part {QO : Option Int → Hp → Prop} (q : te σ H fun x H1 => ∃ i, x = .int i ∧ QO (some i) H1) : tPart te σ H QO := q
theorem x_int {R : Int → Prop} (q : R i) : ∃ k, V.int i = .int k ∧ R k := ⟨i, rfl, q⟩
theorem x_slL {lo hi : Option Int} (h : SqL K H p xs) (q : ∀ a, H a = none → Q (.ref a) (upd H a (.lst (cutV xs lo hi)))) : rSlL K (.ref p) lo hi H Q := ⟨p, xs, rfl, h, q⟩
/- statements: the ends written out -/
variable {nx bk ct : SS → Hp → Prop} {rt : VK} {s1 s2 : TS} {g : TG}
theorem x_seq (q : s1 ⟨s2 ⟨nx, rt, bk, ct⟩, rt, bk, ct⟩ σ H) : tSeq s1 s2 ⟨nx, rt, bk, ct⟩ σ H := q
theorem x_next (q : nx σ H) : tNext ⟨nx, rt, bk, ct⟩ σ H := q
theorem x_brk (q : bk σ H) : tBreak ⟨nx, rt, bk, ct⟩ σ H := q
theorem x_cont (q : ct σ H) : tCont ⟨nx, rt, bk, ct⟩ σ H := q
theorem x_drop (q : te σ H fun _ H1 => nx σ H1) : tDrop te ⟨nx, rt, bk, ct⟩ σ H := q
theorem x_ret (q : te σ H rt) : tRet te ⟨nx, rt, bk, ct⟩ σ H := q
theorem x_retN (q : rt .non H) : tRetN ⟨nx, rt, bk, ct⟩ σ H := q
theorem x_asg (q : te σ H fun x H1 => g x σ H1 nx) : tAsg te g ⟨nx, rt, bk, ct⟩ σ H := q
theorem x_name (q : QS (σ.set n (some v)) H) : gName n v σ H QS := q
theorem x_gtup {m : Nat} {u : TGs} (h : SqT K H p xs) (l : xs.length = m) (q : u xs σ H QS) : gTup K m u (.ref p) σ H QS := ⟨p, xs, rfl, h, l, q⟩
theorem x_gnil (q : QS σ H) : gNil [] σ H QS := ⟨rfl, q⟩
theorem x_gcons {u : TGs} (q : g v σ H fun σ' H' => u xs σ' H' QS) : gCons g u (v :: xs) σ H QS := ⟨v, xs, rfl, q⟩
theorem x_gsub {to ti : TE} {s : TSet} (q : to σ H fun o H1 => ti σ H1 fun i H2 => s o i v H2 fun H3 => QS σ H3) : gSub to ti s v σ H QS := q
theorem x_setL {QH : Hp → Prop} {k : Nat} (h : H p = some (.lst xs)) (a : ixN xs.length i = some k) (q : QH (upd H p (.lst (xs.set k v)))) : rSetL (.ref p) (.int i) v H QH := ⟨p, xs, i, k, rfl, rfl, h, a, q⟩
theorem x_par {k m : Nat} (q : t σ H fun vs H1 => ∃ v w, vs = [v, w] ∧ nx ((σ.set k (some v)).set m (some w)) H1) : tPar k m t ⟨nx, rt, bk, ct⟩ σ H := q
theorem x_two {R : V → V → Prop} (q : R x y) : ∃ v w, [x, y] = [v, w] ∧ R v w := ⟨x, y, rfl, q⟩
theorem x_ifS {c : TT} (q : c σ H fun b H1 => if b = true then s1 ⟨nx, rt, bk, ct⟩ σ H1 else s2 ⟨nx, rt, bk, ct⟩ σ H1) : tIfS c s1 s2 ⟨nx, rt, bk, ct⟩ σ H := q
theorem x_aug {ti : TIp} (h : σ[n]? = some (some x)) (q : te σ H fun y H1 => ti x y H1 fun z H2 => nx (σ.set n (some z)) H2) : tAug n te ti ⟨nx, rt, bk, ct⟩ σ H := ⟨x, h, q⟩
theorem x_ipI {f : Int → Int → Int} (q : Q (.int (f i j)) H) : ipI f (.int i) (.int j) H Q := ⟨i, j, rfl, rfl, q⟩
theorem x_augS {to ti : TE} {tget : V → V → Hp → VK → Prop} {tip : TIp} {tset : TSet} (q : to σ H fun o H1 => ti σ H1 fun i H2 => tget o i H2 fun x H3 => te σ H3 fun y H4 => tip x y H4 fun z H5 => tset o i z H5 fun H6 => nx σ H6) : tAugS to ti te tget tip tset ⟨nx, rt, bk, ct⟩ σ H := q
/- built-ins -/
theorem x_lenS {R : List V → Prop} (h : SqL K H p xs) (q : R xs) : ∃ p' ys, [V.ref p] = [.ref p'] ∧ (SqL K H p' ys ∨ SqT K H p' ys) ∧ R ys := ⟨p, xs, rfl, .inl h, q⟩
theorem x_lenT {R : List V → Prop} (h : SqT K H p xs) (q : R xs) : ∃ p' ys, [V.ref p] = [.ref p'] ∧ (SqL K H p' ys ∨ SqT K H p' ys) ∧ R ys := ⟨p, xs, rfl, .inr h, q⟩
theorem x_abs {R : Int → Prop} (q : R i) : ∃ k, [V.int i] = [.int k] ∧ R k := ⟨i, rfl, q⟩
theorem x_toI {R : Int → Prop} {R' : Bool → Prop} (q : R i) : (∃ k, [V.int i] = [.int k] ∧ R k) ∨ ∃ k, [V.int i] = [.bl k] ∧ R' k := .inl ⟨i, rfl, q⟩
theorem x_toIb {R : Int → Prop} {R' : Bool → Prop} {b : Bool} (q : R' b) : (∃ k, [V.bl b] = [.int k] ∧ R k) ∨ ∃ k, [V.bl b] = [.bl k] ∧ R' k := .inr ⟨b, rfl, q⟩
theorem x_min2 {R : Int → Int → Prop} (q : R i j) : ∃ a b, [V.int i, V.int j] = [.int a, .int b] ∧ R a b := ⟨i, j, rfl, q⟩
theorem x_tupS {Q1 Q2 : Addr → List V → Prop} (h : SqL K H p xs) (q : Q1 p xs) : ∃ p' ys, [V.ref p] = [.ref p'] ∧ ((SqL K H p' ys ∧ Q1 p' ys) ∨ (SqT K H p' ys ∧ Q2 p' ys)) := ⟨p, xs, rfl, .inl ⟨h, q⟩⟩
theorem x_tupF1 {R : List V → Prop} (h : SqL K H p xs) (q : R xs) : ∃ p' ys, [V.ref p] = [.ref p'] ∧ SqL K H p' ys ∧ R ys := ⟨p, xs, rfl, h, q⟩
theorem x_insert {R : Addr → List V → Int → V → Prop} (h : H p = some (.lst xs)) (l : xs.length < sizeLine) (h0 : 0 ≤ i) (h1 : i < 2 ^ 63) (q : R p xs i v) :
    ∃ (l : Addr) (ys : List V) (k : Int) (y : V), V.ref p = .ref l ∧ [V.int i, v] = [.int k, y] ∧ H l = some (.lst ys) ∧ ys.length < sizeLine ∧ 0 ≤ k ∧ k < 2 ^ 63 ∧ R l ys k y := ⟨p, xs, i, v, rfl, rfl, h, l, h0, h1, q⟩
theorem x_bm {r : V → List V → Hp → VK → Prop} {T : String} (q : ta σ H fun x H1 => tyV K T x H1 ∧ t σ H1 fun xs H2 => r x xs H2 Q) : tBM K T r ta t σ H Q := q
theorem x_bm0 {r : V → List V → Hp → VK → Prop} {T : String} (q : ta σ H fun x H1 => tyV K T x H1 ∧ r x [] H1 Q) : tBM0 K T r ta σ H Q := q
theorem x_bmF {r : V → List V → Hp → VK → Prop} {T : String} (q : ta σ H fun x H1 => tyF T x H1 ∧ t σ H1 fun xs H2 => r x xs H2 Q) : tBMF T r ta t σ H Q := q
theorem ty_list (h : SqL K H p xs) : tyV K "list" (.ref p) H := .inl ⟨rfl, xs, h⟩
theorem x_append {Q : VK} (h : H p = some (.lst xs)) (l : xs.length < sizeLine) (q : Q .non (upd H p (.lst (xs ++ [v])))) : rAppend (.ref p) [v] H Q := ⟨p, xs, v, rfl, rfl, h, l, q⟩
theorem x_reverse {Q : VK} (h : H p = some (.lst xs)) (q : Q .non (upd H p (.lst xs.reverse))) : rReverse (.ref p) [] H Q := ⟨p, xs, rfl, rfl, h, q⟩
theorem x_lrg {Q : VK} {te : SS → Hp → (Int → Int → Hp → Prop) → Prop} (q : te σ H fun a b H1 => RgOk a b ∧ ∀ q, H1 q = none → Q (.ref q) (upd H1 q (.lst (rgV a b)))) : tLstRg te σ H Q := q
theorem x_rg1 {QR : Int → Int → Hp → Prop} (q : ta σ H fun x H1 => ∃ n, x = .int n ∧ QR 0 n H1) : tRg1 ta σ H QR := q
end
section
variable {K : PySem.W.Frag} {H : Hp} {Q : VK} {n : Nat}
theorem x_new {R : Addr → Prop} (z : n ≤ sizeLine) (q : ∀ p, H p = none → R p) : n ≤ sizeLine ∧ ∀ p, H p = none → R p := ⟨z, q⟩
theorem x_newF {R : Addr → Obj → Prop} (z : n ≤ sizeLine) (q : ∀ p (o : Obj), H p = none → o.cls = .type "tuple" → o.dict = none → R p o) : n ≤ sizeLine ∧ ∀ p (o : Obj), H p = none → o.cls = .type "tuple" → o.dict = none → R p o := ⟨z, q⟩
theorem x_iteT {A B : Prop} (q : A) : if true = true then A else B := iteT q
theorem x_iteF {A B : Prop} (q : B) : if false = true then A else B := iteF q
theorem dp_ints {a : Addr} : ∀ cs : List Int, DpAll K H (cs.map V.int) (cs.map PyData.int)
  | [] => .nil
  | z :: r => .cons (.int z) (dp_ints (a := a) r)
theorem lay_ints : ∀ cs : List Int, PyData.canLayAll0 (cs.map PyData.int) = true
  | [] => by simp only [List.map_nil, PyData.canLayAll0]
  | z :: r => by simp only [List.map_cons, PyData.canLayAll0, PyData.canLay0, lay_ints r, Bool.and_self]
theorem deep_ints : ∀ cs : List Int, PyData.depthAll (cs.map PyData.int) = 0
  | [] => by simp only [List.map_nil, PyData.depthAll]
  | z :: r => by simp [List.map_cons, PyData.depthAll, PyData.depth, deep_ints r]
theorem shaped_ints (cs : List Int) : SeqAt.shaped (.list (cs.map PyData.int)) = true := by
  unfold SeqAt.shaped
  simp [PyData.canLay0, PyData.depth, lay_ints, deep_ints]
theorem x_neNil {a b : Addr} {cs : List Int} (h : SqL K H a (cs.map V.int)) (hb : SqL K H b []) (q : Q (.bl (!cs.isEmpty)) H) : rNeD K (.ref a) (.ref b) H Q := by
  refine ⟨.list (cs.map PyData.int), .list [], .lst h (dp_ints (a := a) cs), .lst hb .nil, shaped_ints cs, shaped_ints [], ?_⟩
  have e : PyData.eqv (.list (cs.map PyData.int)) (.list []) = cs.isEmpty := by
    cases cs <;> simp [PyData.eqv, PyData.eqvAll]
  rw [e]
  exact q
end
theorem natAbs_lt {i : Int} {n : Nat} (h : -(n : Int) < i) (h2 : i < n) : i.natAbs < n := by omega
/- looking up -/
theorem boot'_len : bootBuiltins "len" = some (.builtin "len") := by decide +kernel
theorem boot'_abs : bootBuiltins "abs" = some (.builtin "abs") := by decide +kernel
theorem boot'_int : bootBuiltins "int" = some (.type "int") := by decide +kernel
theorem boot'_bool : bootBuiltins "bool" = some (.type "bool") := by decide +kernel
theorem boot'_list : bootBuiltins "list" = some (.type "list") := by decide +kernel
theorem boot'_tuple : bootBuiltins "tuple" = some (.type "tuple") := by decide +kernel
theorem boot'_str : bootBuiltins "str" = some (.type "str") := by decide +kernel
theorem boot'_min : bootBuiltins "min" = some (.builtin "min") := by decide +kernel
theorem boot'_max : bootBuiltins "max" = some (.builtin "max") := by decide +kernel
theorem boot'_sum : bootBuiltins "sum" = some (.builtin "sum") := by decide +kernel
theorem boot'_any : bootBuiltins "any" = some (.builtin "any") := by decide +kernel
theorem boot'_all : bootBuiltins "all" = some (.builtin "all") := by decide +kernel
theorem boot'_repr : bootBuiltins "repr" = some (.builtin "repr") := by decide +kernel
theorem boot'_sorted : bootBuiltins "sorted" = some (.builtin "sorted") := by decide +kernel
theorem boot'_isinstance : bootBuiltins "isinstance" = some (.builtin "isinstance") := by decide +kernel
theorem boot'_range : bootBuiltins "range" = some (.type "range") := by decide +kernel
theorem boot'_enumerate : bootBuiltins "enumerate" = some (.type "enumerate") := by decide +kernel
theorem boot'_set : bootBuiltins "set" = some (.type "set") := by decide +kernel
theorem x_start {t : TS} {D : Ends} {σ σ' : SS} {H : Hp} (e : σ = σ') (q : t D σ' H) : t D σ H := e ▸ q

theorem lk_ne {H : Hp} {p q : Addr} {o u : HO} (h : H q = some u) (n : H p = none) : upd H p o q = some u := (upd_ne (ne_of_none h n)).trans h
theorem lk_ne2 {H : Hp} {p q : Addr} {o u : HO} (hne : q ≠ p) (h : H q = some u) : upd H p o q = some u := (upd_ne hne).trans h
/-- all but what stands in S is kept -/
def Kx (S : List Addr) (H H' : Hp) : Prop := ∀ b o, b ∉ S → H b = some o → H' b = some o
theorem Kx.refl (S : List Addr) (H : Hp) : Kx S H H := fun _ _ _ h => h
theorem Kx.trans {S : List Addr} {H H1 H2 : Hp} (a : Kx S H H1) (b : Kx S H1 H2) : Kx S H H2 := fun c o n h => b c o n (a c o n h)
theorem Kx.new {S : List Addr} {H H1 : Hp} {p : Addr} {o : HO} (a : Kx S H H1) (n : H1 p = none) : Kx S H (upd H1 p o) := fun b u hb h => lk_ne (a b u hb h) n
theorem Kx.fresh {S : List Addr} {H H1 : Hp} {p : Addr} (a : Kx S H H1) (hp : p ∉ S) (n : H1 p = none) : H p = none := by
  cases q : H p with
  | none => rfl
  | some o => rw [a p o hp q] at n; cases n
/-- a write at a thing that H did not know, or that S bears -/
theorem Kx.wr {S : List Addr} {H H1 : Hp} {p : Addr} {o : HO} (a : Kx S H H1) (n : H p = none ∨ p ∈ S) : Kx S H (upd H1 p o) := fun b u hb h => by
  have nb : b ≠ p := by
    rcases n with n | n
    · exact ne_of_none h n
    · exact fun e => hb (e ▸ n)
  rw [upd_ne nb]
  exact a b u hb h
theorem Kx.mono {S T : List Addr} {H H' : Hp} (a : Kx S H H') (h : ∀ b ∈ S, b ∈ T) : Kx T H H' := fun b o n e => a b o (fun z => n (h b z)) e
theorem lk_keep {S : List Addr} {H H' : Hp} {q : Addr} {u : HO} (k : Kx S H H') (hq : q ∉ S) (h : H q = some u) : H' q = some u := k q u hq h
theorem Kx.sqT {S : List Addr} {K : PySem.W.Frag} {H H' : Hp} {a : Addr} {xs : List V} (k : Kx S H H') (n : a ∉ S) (h : SqT K H a xs) : SqT K H' a xs := by
  rcases h with (h | ⟨o, h⟩) | h
  · exact .inl (.inl (k _ _ n h))
  · exact .inl (.inr ⟨o, k _ _ n h⟩)
  · exact .inr h
theorem Kx.sqL {S : List Addr} {K : PySem.W.Frag} {H H' : Hp} {a : Addr} {xs : List V} (k : Kx S H H') (n : a ∉ S) (h : SqL K H a xs) : SqL K H' a xs := by
  rcases h with (h | ⟨o, h⟩) | h
  · exact .inl (.inl (k _ _ n h))
  · exact .inl (.inr ⟨o, k _ _ n h⟩)
  · exact .inr h
theorem Kx.same {H H' : Hp} (h : Same H H') (S : List Addr) : Kx S H H' := fun b o _ e => h b o e


/-! ### loops and comprehensions: what each asks, by a word Pv of the turn -/
section
variable {K : PySem.W.Frag} {σ : SS} {H : Hp} {Q : VK} {nx bk ct : SS → Hp → Prop} {rt : VK} {g : TG} {tb : TS} {tl te : TE} {ta : TA} {tt : TT} {vs : List Nat}
/-- the asking of a for over n turns that give what Y tells while G holds -/
def AskF (n : Nat) (G : Hp → Prop) (Y : Nat → Hp → V → Hp → Prop) (g : TG) (tb : TS) (nx : SS → Hp → Prop) (rt : VK) (σ : SS) (H : Hp) : Prop :=
  ∃ Pv : Nat → SS → Hp → Prop, Pv 0 σ H ∧ (∀ i σ H, i ≤ n → Pv i σ H → G H) ∧
    (∀ i x σ H H', i < n → Pv i σ H → Y i H x H' → g x σ H' fun σ2 H2 => tb ⟨Pv (i + 1), rt, nx, Pv (i + 1)⟩ σ2 H2) ∧ ∀ σ H, Pv n σ H → nx σ H
def AskC (n : Nat) (G : Hp → Prop) (Y : Nat → Hp → V → Hp → Prop) (g : TG) (tt : TT) (te : TE) (vs : List Nat) (σ : SS) (H : Hp) (Q : VK) : Prop :=
  ∀ D, H D = none → ∃ Pv : Nat → Hp → Prop, Pv 0 (upd H D (.lst [])) ∧ (∀ i H, i ≤ n → Pv i H → G H) ∧
    (∀ i x H H', i < n → Pv i H → Y i H x H' → g x (wipe σ vs) H' fun σ2 H2 => wipe σ2 vs = wipe σ vs ∧ tt σ2 H2 fun b H3 =>
      if b = true then te σ2 H3 fun y H4 => ∃ acc, H4 D = some (.lst acc) ∧ acc.length < sizeLine ∧ Pv (i + 1) (upd H4 D (.lst (acc ++ [y]))) else Pv (i + 1) H3) ∧ ∀ H, Pv n H → Q (.ref D) H
theorem askF {J : It} {n : Nat} {G : Hp → Prop} {Y : Nat → Hp → V → Hp → Prop} (w : Walk J n G Y) (q : AskF n G Y g tb nx rt σ H) :
    ∃ W : Nat → Nat → SS → Hp → Prop, (∃ m, W 0 m σ H) ∧ ∀ i m σ H, W i m σ H → (J.stop i H ∧ nx σ H) ∨
      (J.go i H ∧ ∃ N : SS → Hp → Prop, (∀ σ' H', N σ' H' → ∃ m', m' < m ∧ W (i + 1) m' σ' H') ∧ ∀ x H', J.yld i H x H' → g x σ H' fun σ2 H2 => tb ⟨N, rt, nx, N⟩ σ2 H2) := by
  obtain ⟨Pv, h0, h1, h2, h3⟩ := q
  exact for_it (D := ⟨nx, rt, fun _ _ => False, fun _ _ => False⟩) w Pv h0 h1 h2 h3
theorem askC {J : It} {n : Nat} {G : Hp → Prop} {Y : Nat → Hp → V → Hp → Prop} (w : Walk J n G Y) (q : AskC n G Y g tt te vs σ H Q) :
    ∀ D, H D = none → ∃ W : Nat → Nat → Hp → Prop, (∃ m, W 0 m (upd H D (.lst []))) ∧ ∀ i m H, W i m H → (J.stop i H ∧ Q (.ref D) H) ∨
      (J.go i H ∧ ∃ Nx : Hp → Prop, (∀ H', Nx H' → ∃ m', m' < m ∧ W (i + 1) m' H') ∧ ∀ x H', J.yld i H x H' → g x (wipe σ vs) H' fun σ2 H2 => wipe σ2 vs = wipe σ vs ∧ tt σ2 H2 fun b H3 =>
        if b = true then te σ2 H3 fun y H4 => ∃ acc, H4 D = some (.lst acc) ∧ acc.length < sizeLine ∧ Nx (upd H4 D (.lst (acc ++ [y]))) else Nx H3) := by
  intro D hD
  obtain ⟨Pv, h0, h1, h2, h3⟩ := q D hD
  exact lc_it w Pv h0 h1 h2 h3
abbrev YA (xs : List V) := YAt xs
abbrev YE (xs : List V) := YPair (fun i => some (.int (i : Nat))) (fun i => xs[i]?)
def WF (J : It) (g : TG) (tb : TS) (nx : SS → Hp → Prop) (rt : VK) (σ : SS) (H : Hp) : Prop := ∃ W : Nat → Nat → SS → Hp → Prop, (∃ m, W 0 m σ H) ∧ ∀ i m σ H, W i m σ H → (J.stop i H ∧ nx σ H) ∨
      (J.go i H ∧ ∃ N : SS → Hp → Prop, (∀ σ' H', N σ' H' → ∃ m', m' < m ∧ W (i + 1) m' σ' H') ∧ ∀ x H', J.yld i H x H' → g x σ H' fun σ2 H2 => tb ⟨N, rt, nx, N⟩ σ2 H2)
def WC (J : It) (g : TG) (tt : TT) (te : TE) (vs : List Nat) (σ : SS) (H : Hp) (Q : VK) : Prop := ∀ D, H D = none → ∃ W : Nat → Nat → Hp → Prop, (∃ m, W 0 m (upd H D (.lst []))) ∧ ∀ i m H, W i m H → (J.stop i H ∧ Q (.ref D) H) ∨
      (J.go i H ∧ ∃ Nx : Hp → Prop, (∀ H', Nx H' → ∃ m', m' < m ∧ W (i + 1) m' H') ∧ ∀ x H', J.yld i H x H' → g x (wipe σ vs) H' fun σ2 H2 => wipe σ2 vs = wipe σ vs ∧ tt σ2 H2 fun b H3 =>
        if b = true then te σ2 H3 fun y H4 => ∃ acc, H4 D = some (.lst acc) ∧ acc.length < sizeLine ∧ Nx (upd H4 D (.lst (acc ++ [y]))) else Nx H3)
theorem x_for {wi : TI} (q : wi σ H fun J H1 => WF J g tb nx rt σ H1) : tFor wi g tb ⟨nx, rt, bk, ct⟩ σ H := q
theorem x_lc {wi : TI} (q : wi σ H fun J H1 => WC J g tt te vs σ H1 Q) : tLc wi g tt te vs σ H Q := q
theorem x_yes {QB : Bool → Hp → Prop} (q : QB true H) : tYes σ H QB := q
theorem x_iL {R : It → Hp → Prop} (q : tl σ H fun x H1 => ∃ a, x = .ref a ∧ (∃ xs, SqL K H1 a xs) ∧ R (Itl K a) H1) : iList K tl σ H R := q
theorem x_iT {R : It → Hp → Prop} (q : tl σ H fun x H1 => ∃ a, x = .ref a ∧ (∃ xs, SqT K H1 a xs) ∧ R (Itt K a) H1) : iTup K tl σ H R := q
theorem x_iR1 {R : It → Hp → Prop} (q : ta σ H fun vs H1 => ∃ j : Int, vs = [.int j] ∧ -(2 ^ 62) ≤ j ∧ j < 2 ^ 62 ∧ R (Itr 0 j.toNat) H1) : iRng1 ta σ H R := q
theorem x_iR2 {R : It → Hp → Prop} (q : ta σ H fun vs H1 => ∃ i j : Int, vs = [.int i, .int j] ∧ (-(2 ^ 62) ≤ i ∧ i < 2 ^ 62 ∧ -(2 ^ 62) ≤ j ∧ j < 2 ^ 62) ∧ R (Itr i (j - i).toNat) H1) : iRng2 ta σ H R := q
theorem x_iE {R : It → Hp → Prop} (q : ta σ H fun vs H1 => ∃ a xs, vs = [.ref a] ∧ SqL K H1 a xs ∧ R (Ite K a) H1) : iEnum K ta σ H R := q
theorem x_iET {R : It → Hp → Prop} (q : ta σ H fun vs H1 => ∃ a xs, vs = [.ref a] ∧ SqT K H1 a xs ∧ R (IteT K a) H1) : iEnumT K ta σ H R := q
/- the asking, at the end of the walked thing's value -/
variable {a : Addr} {xs : List V}
theorem y_forL (h : SqL K H a xs) (q : AskF xs.length (fun H => SqL K H a xs) (YA xs) g tb nx rt σ H) : ∃ b, V.ref a = .ref b ∧ (∃ xs, SqL K H b xs) ∧ WF (Itl K b) g tb nx rt σ H := ⟨a, rfl, ⟨xs, h⟩, askF walk_list q⟩
theorem y_forT (h : SqT K H a xs) (q : AskF xs.length (fun H => SqT K H a xs) (YA xs) g tb nx rt σ H) : ∃ b, V.ref a = .ref b ∧ (∃ xs, SqT K H b xs) ∧ WF (Itt K b) g tb nx rt σ H := ⟨a, rfl, ⟨xs, h⟩, askF walk_tup q⟩
theorem y_forR1 {j : Int} (h0 : 0 ≤ j) (h1 : j < 1000000) (q : AskF j.toNat (fun _ => True) (YFn fun i => .int (0 + i)) g tb nx rt σ H) : -(2 ^ 62) ≤ j ∧ j < 2 ^ 62 ∧ WF (Itr 0 j.toNat) g tb nx rt σ H :=
  ⟨by omega, by omega, askF walk_range q⟩
theorem y_forR2 {i j : Int} (h0 : -1000000 < i) (h1 : i < 1000000) (h2 : -1000000 < j) (h3 : j < 1000000) (q : AskF (j - i).toNat (fun _ => True) (YFn fun k => .int (i + k)) g tb nx rt σ H) : (-(2 ^ 62) ≤ i ∧ i < 2 ^ 62 ∧ -(2 ^ 62) ≤ j ∧ j < 2 ^ 62) ∧ WF (Itr i (j - i).toNat) g tb nx rt σ H :=
  ⟨⟨by omega, by omega, by omega, by omega⟩, askF walk_range q⟩
theorem y_forE (h : SqL K H a xs) (q : AskF xs.length (fun H => SqL K H a xs) (YE xs) g tb nx rt σ H) : ∃ b ys, [V.ref a] = [.ref b] ∧ SqL K H b ys ∧ WF (Ite K b) g tb nx rt σ H := ⟨a, xs, rfl, h, askF walk_enum q⟩
theorem y_forET (h : SqT K H a xs) (q : AskF xs.length (fun H => SqT K H a xs) (YE xs) g tb nx rt σ H) : ∃ b ys, [V.ref a] = [.ref b] ∧ SqT K H b ys ∧ WF (IteT K b) g tb nx rt σ H := ⟨a, xs, rfl, h, askF walk_enumT q⟩
theorem y_lcL (h : SqL K H a xs) (q : AskC xs.length (fun H => SqL K H a xs) (YA xs) g tt te vs σ H Q) : ∃ b, V.ref a = .ref b ∧ (∃ xs, SqL K H b xs) ∧ WC (Itl K b) g tt te vs σ H Q := ⟨a, rfl, ⟨xs, h⟩, askC walk_list q⟩
theorem y_lcT (h : SqT K H a xs) (q : AskC xs.length (fun H => SqT K H a xs) (YA xs) g tt te vs σ H Q) : ∃ b, V.ref a = .ref b ∧ (∃ xs, SqT K H b xs) ∧ WC (Itt K b) g tt te vs σ H Q := ⟨a, rfl, ⟨xs, h⟩, askC walk_tup q⟩
theorem y_lcR1 {j : Int} (h0 : 0 ≤ j) (h1 : j < 1000000) (q : AskC j.toNat (fun _ => True) (YFn fun i => .int (0 + i)) g tt te vs σ H Q) : -(2 ^ 62) ≤ j ∧ j < 2 ^ 62 ∧ WC (Itr 0 j.toNat) g tt te vs σ H Q :=
  ⟨by omega, by omega, askC walk_range q⟩
theorem y_lcE (h : SqL K H a xs) (q : AskC xs.length (fun H => SqL K H a xs) (YE xs) g tt te vs σ H Q) : ∃ b ys, [V.ref a] = [.ref b] ∧ SqL K H b ys ∧ WC (Ite K b) g tt te vs σ H Q := ⟨a, xs, rfl, h, askC walk_enum q⟩
theorem y_lcET (h : SqT K H a xs) (q : AskC xs.length (fun H => SqT K H a xs) (YE xs) g tt te vs σ H Q) : ∃ b ys, [V.ref a] = [.ref b] ∧ SqT K H b ys ∧ WC (IteT K b) g tt te vs σ H Q := ⟨a, xs, rfl, h, askC walk_enumT q⟩
end

/-! ### the same rules where the block's own K is told from outside -/
section
variable {X : Cx} {K : PySem.W.Frag}
theorem ix_listK (e : X.K = K := by rfl) : IxR X (rIxL K) := e ▸ ix_list
theorem ix_tupK (e : X.K = K := by rfl) : IxR X (rIxT K) := e ▸ ix_tup
theorem sl_listK (e : X.K = K := by rfl) : SlR X (rSlL K) := e ▸ sl_list
theorem call_lenK (e : X.K = K := by rfl) : CallR X (.builtin "len") (fun xs H Q => ∃ p ys, xs = [.ref p] ∧ (SqL K H p ys ∨ SqT K H p ys) ∧ Q (.int ys.length) H) := e ▸ call_len_seq
theorem call_tupFK (e : X.K = K := by rfl) : CallR X (.type "tuple") (fun xs H Q => ∃ p ys, xs = [.ref p] ∧ SqL K H p ys ∧ ∀ l o, H l = none → o.cls = .type "tuple" → o.dict = none → Q (.ref l) (upd H l (.frz o (.tup ys)))) := e ▸ call_tupF
theorem call_tuple_ofK (e : X.K = K := by rfl) : CallR X (.type "tuple") (fun xs H Q => ∃ p ys, xs = [.ref p] ∧ ((SqL K H p ys ∧ ∀ l, H l = none → Q (.ref l) (upd H l (.tup ys))) ∨ (SqT K H p ys ∧ Q (.ref p) H))) := e ▸ call_tuple_of
theorem call_list_ofK (e : X.K = K := by rfl) : CallR X (.type "list") (fun xs H Q => ∃ p ys, xs = [.ref p] ∧ (SqL K H p ys ∨ SqT K H p ys) ∧ ∀ l, H l = none → Q (.ref l) (upd H l (.lst ys))) := e ▸ call_list_of
theorem mt_countTK (e : X.K = K := by rfl) : MtR X "tuple.count" (rCountT K) := e ▸ mt_countT
theorem op_in_seqK (e : X.K = K := by rfl) : OpR X (compareOp .In) (rIn K false) := e ▸ op_in_seq
theorem op_notIn_seqK (e : X.K = K := by rfl) : OpR X (compareOp .NotIn) (rIn K true) := e ▸ op_notIn_seq
theorem pg_tupK {es : List Expr} {k : Nat} {pos : Pos} {t : TGs} {n : Nat} (e : X.K = K) (hc : X.calm = true) (h : PGs X es t)
    (hn : (assignEach es X.env).length = n := by rfl) (hst : (assignEach es X.env).findIdx? (·.1) = none := by rfl) : PG X (.Tuple es k pos) (gTup K n t) := e ▸ pg_tup hc h hn hst
end

/-! ### comprehensions whose turn gives one value f i, the heap but for what is new as it was -/
theorem cut63 (xs : List V) : cutV xs none (some 63) = xs.take 63 := by
  unfold cutV
  rw [HT.sIx_none, show HT.sIx xs.length xs.length (some 63) = min 63 xs.length from HT.sIx_nat xs.length xs.length 63]
  show List.take (min 63 xs.length - 0) (List.drop 0 xs) = _
  rw [Nat.sub_zero, List.drop_zero]
  rcases Nat.le_total 63 xs.length with h | h
  · rw [Nat.min_eq_left h]
  · rw [Nat.min_eq_right h, List.take_length, List.take_of_length_le h]


section
variable {X : Cx}
theorem get_list : PGet X (rGetL X.K) := by
  intro pins s σ H o i ov iv Q I ro ri h
  obtain ⟨p, xs, k, v, rfl, rfl, hq, he, q⟩ := h
  cases ro
  obtain ⟨t, rfl⟩ := ri
  obtain ⟨its, r, pl, hz⟩ := I.list hq
  obtain ⟨j, h1, h2, h3, h4, h5⟩ := atI_get he
  obtain ⟨w, ew, rw'⟩ := r.get h2
  have hl := r.length
  have hn := line63
  by_cases h0 : 0 ≤ k
  · have hj : k.toNat = j := by
      rw [seqIndex_of h0 h5] at h1
      exact Option.some.inj h1
    exact wpAny_getItem_list pl.isList h0 (by omega) (by rw [hj]; simpa using ew) ⟨v, H, I, rw', q⟩
  · have hj : (k + (its.toArray.size : Int)).toNat = j := by
      rw [seqIndex_neg (by omega) h4] at h1
      rw [List.size_toArray, ← hl]
      exact Option.some.inj h1
    exact wpAny_getItem_list_neg pl.isList (by omega) (by rw [List.size_toArray] <;> omega) (by omega) (by rw [hj]; simpa using ew) ⟨v, H, I, rw', q⟩
end
section
variable {K : PySem.W.Frag} {σ : SS} {H : Hp} {Q : VK} {v : V} {p : Addr} {xs : List V} {i : Int}
theorem x_getL (h : SqL K H p xs) (a : atI xs i = some v) (q : Q v H) : rGetL K (.ref p) (.int i) H Q := ⟨p, xs, i, v, rfl, rfl, h, a, q⟩
theorem x_rep {k : Int} {l : Addr} (h : H l = some (.lst xs)) (h0 : 0 ≤ k) (h1 : k < 1000000) (z : xs.length * k.toNat ≤ sizeLine) (q : ∀ p, H p = none → Q (.ref p) (upd H p (.lst (List.replicate k.toNat xs).flatten))) : rRep (.ref l) (.int k) H Q :=
  ⟨l, k, xs, rfl, rfl, h, by omega, by omega, z, q⟩
theorem x_sum {a : Addr} {ns : List Int} (h : SqL K H a (ns.map V.int)) (q : Q (.int ns.sum) H) : rSum K [.ref a] H Q := ⟨a, ns, rfl, h, q⟩
theorem x_countT {a : Addr} {ys : List V} {y : V} (h : SqT K H a ys) (f : flatV y = true) (fs : ys.all flatV = true) (q : Q (.int ((ys.countP fun z => eqV z y : Nat) : Int)) H) : rCountT K (.ref a) [y] H Q := ⟨a, ys, y, rfl, rfl, h, f, fs, q⟩
end

/-! ### data whose repr is told -/
structure Good (d : PyData) (dep w : Nat) : Prop where
  sh : d.showable = true
  nd : d.hasDict = false
  dp : d.depth ≤ dep
  sl : d.leavesShort 13 = true
  wt : d.weight ≤ w
theorem Good.mono {d : PyData} {a b w v : Nat} (g : Good d a w) (h : a ≤ b) (h2 : w ≤ v) : Good d b v := ⟨g.sh, g.nd, Nat.le_trans g.dp h, g.sl, Nat.le_trans g.wt h2⟩
theorem Good.none : Good .none 0 0 := ⟨rfl, rfl, Nat.le_refl _, rfl, Nat.le_refl _⟩
theorem Good.bool (b : Bool) : Good (.bool b) 0 0 := ⟨rfl, rfl, Nat.le_refl _, rfl, Nat.le_refl _⟩
theorem Good.int {z : Int} (h : z.natAbs < 10 ^ 9) : Good (.int z) 0 31 := by
  have hl : z.natAbs.log2 < 30 := PySem.Flt.log2_lt_of (by decide) (Nat.lt_of_lt_of_le h (by decide))
  refine ⟨?_, rfl, Nat.le_refl _, ?_, ?_⟩
  · simp only [PyData.showable, decide_eq_true_eq]
    omega
  · simp only [PyData.leavesShort, PyData.shown]
    have := int_text_length_le10 (k := 9) (by decide) h
    refine decide_eq_true ?_
    show (Str.ofString (toString z)).length ≤ 13
    rw [PySem.ofString_length]
    omega
  · simp only [PyData.weight]
    split <;> omega
theorem good_all {k w : Nat} : ∀ {ds : List PyData}, (∀ d ∈ ds, Good d k w) → PyData.showableAll ds = true ∧ PyData.hasDictAll ds = false ∧ PyData.depthAll ds ≤ k ∧ PyData.leavesShortAll 13 ds = true ∧ PyData.weightAll ds ≤ ds.length * (w + 1)
  | [], _ => ⟨rfl, rfl, Nat.zero_le _, rfl, Nat.zero_le _⟩
  | d :: ds, h => by
    obtain ⟨a1, a2, a3, a4, a5⟩ := good_all (ds := ds) fun x hx => h x (List.mem_cons_of_mem _ hx)
    have g := h d List.mem_cons_self
    refine ⟨?_, ?_, ?_, ?_, ?_⟩
    · simp only [PyData.showableAll, g.sh, a1, Bool.and_self]
    · simp only [PyData.hasDictAll, g.nd, a2, Bool.or_self]
    · simp only [PyData.depthAll]
      exact Nat.max_le.mpr ⟨g.dp, a3⟩
    · simp only [PyData.leavesShortAll, g.sl, a4, Bool.and_self]
    · simp only [PyData.weightAll, List.length_cons, Nat.add_mul]
      have := g.wt
      omega
theorem Good.list {ds : List PyData} {k w n : Nat} (h : ∀ d ∈ ds, Good d k w) (hn : ds.length ≤ n) : Good (.list ds) (k + 1) (n * (w + 1)) := by
  obtain ⟨a1, a2, a3, a4, a5⟩ := good_all h
  exact ⟨by simpa only [PyData.showable] using a1, by simpa only [PyData.hasDict] using a2, by simp only [PyData.depth]; omega, by simpa only [PyData.leavesShort] using a4, by simp only [PyData.weight]; exact Nat.le_trans a5 (Nat.mul_le_mul_right _ hn)⟩
theorem Good.tuple {ds : List PyData} {k w n : Nat} (h : ∀ d ∈ ds, Good d k w) (hn : ds.length ≤ n) : Good (.tuple ds) (k + 1) (n * (w + 1)) := by
  obtain ⟨a1, a2, a3, a4, a5⟩ := good_all h
  exact ⟨by simpa only [PyData.showable] using a1, by simpa only [PyData.hasDict] using a2, by simp only [PyData.depth]; omega, by simpa only [PyData.leavesShort] using a4, by simp only [PyData.weight]; exact Nat.le_trans a5 (Nat.mul_le_mul_right _ hn)⟩
theorem x_repr {K : PySem.W.Frag} {H : Hp} {Q : VK} {a : Addr} {d : PyData} {k w : Nat} (h : Dp K H (.ref a) d) (g : Good d k w) (hk : k ≤ 60) (hw : w ≤ 2 ^ 20) (q : Q (.str d.shown) H) : rRepr K [.ref a] H Q :=
  ⟨a, d, rfl, h, g.sh, g.nd, Nat.le_trans g.dp hk, PyData.shown_fits (by decide) (by decide) g.sl (Nat.le_trans g.wt hw), q⟩
/- what stands at an address as data is kept -/
theorem Kx.rd {S : List Addr} {H H' : Hp} {a : Addr} {u : HO} (k : Kx S H H') (n : a ∉ S) (h : Rd H a u) : Rd H' a u := by
  rcases h with h | ⟨o, h⟩
  · exact .inl (k _ _ n h)
  · exact .inr ⟨o, k _ _ n h⟩
mutual
theorem dp_keep {K : PySem.W.Frag} {H H' : Hp} (k : Kx [] H H') : ∀ (d : PyData) (v : V), Dp K H v d → Dp K H' v d
  | .none, _, h => by cases h; exact .non
  | .bool b, _, h => by cases h; exact .bl b
  | .int i, _, h => by cases h; exact .int i
  | .str x, _, h => by cases h; exact .str x
  | .list ds, _, h => by
    cases h with
    | lst h1 h2 => exact .lst (k.sqL (by simp) h1) (dp_keepAll k ds _ h2)
  | .tuple ds, _, h => by
    cases h with
    | tup h1 h2 => exact .tup (k.sqT (by simp) h1) (dp_keepAll k ds _ h2)
  | .dict _, _, h => by cases h
theorem dp_keepAll {K : PySem.W.Frag} {H H' : Hp} (k : Kx [] H H') : ∀ (ds : List PyData) (vs : List V), DpAll K H vs ds → DpAll K H' vs ds
  | [], _, h => by cases h; exact .nil
  | d :: ds, _, h => by
    cases h with
    | cons h1 h2 => exact .cons (dp_keep k d _ h1) (dp_keepAll k ds _ h2)
end

section
variable {X : Cx}
/-- sorted(d) of a dict whose keys are ints -/
def rSortedD : List V → Hp → VK → Prop := fun xs H Q => ∃ (a : Addr) (kvs : List (Key × V)) (ks : List Int), xs = [.ref a] ∧ H a = some (.dK kvs) ∧ kvs.map (·.1) = ks.map Sum.inl ∧
    ∀ (ns : List Int) (p : Addr), ns.Perm ks → ns.Pairwise (· ≤ ·) → H p = none → Q (.ref p) (upd H p (.lst (ns.map V.int)))
theorem cr_sortedDI (hcalm : X.calm = true) : CallR X (.builtin "sorted") rSortedD := by
  intro pins s σ H xs us Q I r q
  obtain ⟨a, kvs, ks, ex, hd, hks, q⟩ := q
  subst ex
  obtain ⟨u, eu, rx⟩ := vals1 r
  subst eu
  cases rx
  obtain ⟨z, lo, vs, rel, dd⟩ := dk_of I.hok hd
  obtain ⟨ep, hat⟩ := dd.dictAt
  have hkeys : vs.map (·.1) = ks.map Sum.inl := rel.keys.symm.trans hks
  have hl : vs.length = ks.length := by
    have e := congrArg List.length hkeys
    rw [List.length_map, List.length_map] at e
    exact e
  have h16 : vs.length ≤ sizeLine := by rw [← rel.length]; exact z
  refine Calls.call_function_entry PyProof.Rows.kind_sorted PyProof.Rows.plain_sorted PyProof.Rows.entry_sorted (PyProof.Rows.args_sorted1 _) ?_
  unfold Builtin.«sorted»
  refine wpAny_bind (m := checkCount "sorted" 1 1 _) (wpAny_pure ?_)
  refine wpAny_bind (PySem.W.kdu_collect (A := X.A.in1) (PySem.W.kdl_dict (knd := mixKind X.prog X.w) (kvs := vs) (ep := ep) lo) (I.ok.hd hcalm) hat h16 fun h' tk acc hk hacc => ?_)
  have hal : acc.toList.length = ks.length := by rw [Array.length_toList, hacc.1, hl]
  have hv : Vals (ks.map V.int) acc.toList := vals_of_at (by rw [List.length_map, hal]) fun j x w h1 h2 => by
    obtain ⟨k, y, e1, e2⟩ := hacc.2 j w (by rw [← Array.getElem?_toList]; exact h2)
    have e3 : (vs.map (·.1))[j]? = some k := by rw [List.getElem?_map, e1]; all_goals rfl
    rw [hkeys, List.getElem?_map] at e3
    rw [List.getElem?_map] at h1
    cases e4 : ks[j]? with
    | none => rw [e4] at e3; cases e3
    | some i =>
      rw [e4] at e3 h1
      have e5 : Sum.inl i = k := Option.some.inj e3
      subst e5
      have e6 : V.int i = x := Option.some.inj h1
      subst e6
      exact keyIs_rel (k := .inl i) e2
  have hi := hv.ints
  have I1 : Inv X pins σ H { s with heap := h', toks := tk } := I.kept hk
  have hz : acc.toList.length ≤ sizeLine := by rw [hal, ← hl]; exact h16
  refine wpAny_bind (wpAny_newList ?_ hz)
  have hoL : (h'.push (PyProof.Rows.seqObj "list" acc.toList.toArray 0)).get? h'.objs.size = some (PyProof.Rows.seqObj "list" acc.toList.toArray 0) := Heap.get?_push_size _ rfl
  show wpAny _ _ _ _ _ { s with heap := h'.push (PyProof.Rows.seqObj "list" acc.toList.toArray 0), toks := tk }
  refine wpAny_bind (wpAny_holding (wpAny_call_entry PyProof.Rows.slot_list_sort ⟨_, hoL, rfl⟩ PyProof.Rows.entry_list_sort
    (SrtO.list_sort_ord SrtO.swo_int hoL hz (fun h2 => SrtO.ints_sortable hi h2) fun out h1 h2 => ⟨_, rfl, ?_⟩) (PyProof.Rows.args_list_sort _)))
  obtain ⟨k1, k2, k3⟩ := SrtO.ints_out hi h1 h2
  obtain ⟨e', he'⟩ := PyProof.Rows.sortedHeap_at (vs := acc.toList) (out := out.toArray) hoL
  have hlen : ((out.map SrtO.iv).map V.int).length ≤ sizeLine := by
    rw [List.length_map, k2.length_eq, ← hal]
    exact hz
  refine wpAny_pure ⟨_, rfl, .ref h'.objs.size, upd H h'.objs.size (.lst ((out.map SrtO.iv).map V.int)), I1.laid (t' := tk) (fun b u e => ?_) (Nat.le_refl _)
    (show ObjOk X.prog X.w _ _ _ (.lst ((out.map SrtO.iv).map V.int)) from ⟨hlen, out, e', vals_of_ints k1, he'⟩), rfl, q _ _ k2 k3 (I1.hok.fresh (Nat.le_refl _))⟩
  have hb : b < h'.objs.size := Heap.lt_size e
  rw [PyProof.Rows.sortedHeap_old (Nat.ne_of_lt hb) (by rw [size_push']; exact Nat.lt_succ_of_lt hb)]
  exact Heap.get?_push_of_some _ e
end

section
variable {X : Cx}
theorem sw_trueD {kx vx : Expr} {gs : List Comprehension} {scope : Scope} {pos py : Pos} {y : Str} {l : Nat} {env : Env} (hk : env.scope.kind = .function) (hy : env.scope.names.lookup y = some .local) (hl : (py.line == pos.line) = true)
    (ha : (scope.names.any fun (n, k) => n == y && (k == .local || k == .cell)) = false) : swapsWith (.DictComp kx vx gs scope pos) (some (.Name y py)) l env = pure true := by
  have ky : env.kindOf y = some .local := hy
  have hb : env.blockKind = .function := by unfold Env.blockKind; rw [hk]; rfl
  unfold swapsWith
  simp only [hb, ky, ha, Expr.pos, hl]
  rfl
theorem ps_setDc {i : Nat} {y : Str} {py : Pos} {kx vx tg iter : Expr} {ifs : List Expr} {scope : Scope} {own : List (Str × Nat)} {pos spos : Pos} {wi : TI} {g : TG} {tt : TT} {tk tv : TE} (hc : X.calm = true) (hN : X.N.Nodup) (hy : X.N[i]? = some y) (hyl : X.env.scope.names.lookup y = some .local)
    (hsw : swapsWith (.DictComp kx vx [⟨tg, iter, ifs, 0⟩] scope pos) (some (.Name y py)) spos.line X.env = pure true) (hi : PI X tg iter wi) (ok : BlkOk X.N X.env.scope scope own)
    (hg : ∀ (s : Shared) (H : Hp) (C : Addr) (cl : List (Str × Addr)) (fp : List Addr), PG (X.blk s H scope (compEnvC scope cl C X.env) fp) tg g) (ht : ∀ (s : Shared) (H : Hp) (C : Addr) (cl : List (Str × Addr)) (fp : List Addr), PTs (X.blk s H scope (compEnvC scope cl C X.env) fp) ifs tt)
    (hk : ∀ (s : Shared) (H : Hp) (C : Addr) (cl : List (Str × Addr)) (fp : List Addr), PE (X.blk s H scope (compEnvC scope cl C X.env) fp) kx tk)
    (he : ∀ (s : Shared) (H : Hp) (C : Addr) (cl : List (Str × Addr)) (fp : List Addr), PE (X.blk s H scope (compEnvC scope cl C X.env) fp) vx tv) (hs : ∀ x, foldedSetIterable iter X.env x = pure x := by intro _; rfl) :
    PS X (.Assign [.Name y py] (.DictComp kx vx [⟨tg, iter, ifs, 0⟩] scope pos) spos) (tAsg (tDc wi g tt tk tv (own.map (·.2))) (gName i)) := by
  refine ⟨fun pins s σ H D I h => ?_⟩
  rw [exec_Assign_Name_used _ _ _ _ hsw]
  refine wpAny_bind (wpAny_standAt (wpAny_bind ?_))
  show wpAny _ X.A (do let _ ← comprehension (.DictComp kx vx [⟨tg, iter, ifs, 0⟩] scope pos) scope X.env (firstIterPos [⟨tg, iter, ifs, 0⟩] pos) newDict false (eval iter X.env) (some (assign (.Name y py) X.env))) _ _ s
  have h : tDc wi g tt tk tv (own.map (·.2)) σ H (fun x H1 => gName i x σ H1 D.nx) := h
  refine wpAny_bind (thn (dc_core (Qf := fun _ s' => SP X pins D .next s') hc hN I hi ok hg ht hk he hs h fun L C s' m H' I' q hn f => ?_) fun _ s' hq => wpAny_pure (wpAny_pure hq))
  show wpAny _ _ (assign (.Name y py) X.env (.ref L)) _ _ _
  refine wpAny_assign_Name (store_ok2 (v := V.ref L) I' hN hy (.inl hyl) rfl (fun s2 I2 ⟨a, sb, ha⟩ => ?_) (.inr hyl))
  obtain ⟨f0, f1, f2, f3, f4, f5⟩ := f
  have haC : C ≠ a := by
    rcases ha with z | z
    · rw [z]; exact f1
    · exact fun e => f4 y a z e.symm
  refine ⟨m, hn.sameBut sb haC, fun h3 sb3 => ?_⟩
  exact ⟨_, H', I2.turned (t' := s2.toks) (fun b o hb e => (sb3.2 b hb).trans e) f0 f1 f3 f4 f5, q⟩
end
section
variable {K : PySem.W.Frag} {σ : SS} {H : Hp} {Q : VK} {QB : Bool → Hp → Prop} {nx bk ct : SS → Hp → Prop} {rt : VK} {g : TG} {tb : TS} {tl te tk tv td ty ta : TE} {tA : TA} {tt : TT} {vs : List Nat} {v : V} {a : Addr} {xs ys : List V}
def AskD (n : Nat) (G : Hp → Prop) (Y : Nat → Hp → V → Hp → Prop) (g : TG) (tt : TT) (tk tv : TE) (vs : List Nat) (σ : SS) (H : Hp) (Q : VK) : Prop :=
  ∀ D, H D = none → ∃ Pv : Nat → Hp → Prop, Pv 0 (upd H D (.dK [])) ∧ (∀ i H, i ≤ n → Pv i H → G H) ∧
    (∀ i x H H', i < n → Pv i H → Y i H x H' → g x (wipe σ vs) H' fun σ2 H2 => wipe σ2 vs = wipe σ vs ∧ tt σ2 H2 fun b H3 =>
      if b = true then tk σ2 H3 fun y H4 => tv σ2 H4 fun z H5 => ∃ kvs k, y = kV k ∧ H5 D = some (.dK kvs) ∧ kvs.length < sizeLine ∧ Pv (i + 1) (upd H5 D (.dK (putK kvs k z))) else Pv (i + 1) H3) ∧ ∀ H, Pv n H → Q (.ref D) H
def WD (J : It) (g : TG) (tt : TT) (tk tv : TE) (vs : List Nat) (σ : SS) (H : Hp) (Q : VK) : Prop := ∀ D, H D = none → ∃ W : Nat → Nat → Hp → Prop, (∃ m, W 0 m (upd H D (.dK []))) ∧ ∀ i m H, W i m H →
  (J.stop i H ∧ Q (.ref D) H) ∨ (J.go i H ∧ ∃ Nx : Hp → Prop, (∀ H', Nx H' → ∃ m', m' < m ∧ W (i + 1) m' H') ∧ ∀ x H', J.yld i H x H' → g x (wipe σ vs) H' fun σ2 H2 => wipe σ2 vs = wipe σ vs ∧ tt σ2 H2 fun b H3 =>
    if b = true then tk σ2 H3 fun y H4 => tv σ2 H4 fun z H5 => ∃ kvs k, y = kV k ∧ H5 D = some (.dK kvs) ∧ kvs.length < sizeLine ∧ Nx (upd H5 D (.dK (putK kvs k z))) else Nx H3)
theorem askD {J : It} {n : Nat} {G : Hp → Prop} {Y : Nat → Hp → V → Hp → Prop} (w : Walk J n G Y) (q : AskD n G Y g tt tk tv vs σ H Q) : WD J g tt tk tv vs σ H Q := by
  intro D hD
  obtain ⟨Pv, h0, hG, hs, hd⟩ := q D hD
  refine ⟨fun i m H => m = n - i ∧ i ≤ n ∧ Pv i H, ⟨n, by simp, Nat.zero_le _, h0⟩, ?_⟩
  rintro i m H ⟨rfl, hi, p⟩
  have qG := hG i H hi p
  by_cases hlt : i < n
  · exact .inr ⟨w.goes i H hlt qG, Pv (i + 1), fun H' p' => ⟨n - (i + 1), by omega, rfl, hlt, p'⟩, fun x H' y => hs i x H H' hlt p (w.yields i H x H' hlt qG y)⟩
  · have e : i = n := by omega
    subst e
    exact .inl ⟨w.stops H qG, hd H p⟩
theorem x_dc {wi : TI} (q : wi σ H fun J H1 => WD J g tt tk tv vs σ H1 Q) : tDc wi g tt tk tv vs σ H Q := q
theorem y_dcL (h : SqL K H a xs) (q : AskD xs.length (fun H => SqL K H a xs) (YA xs) g tt tk tv vs σ H Q) : ∃ b, V.ref a = .ref b ∧ (∃ xs, SqL K H b xs) ∧ WD (Itl K b) g tt tk tv vs σ H Q := ⟨a, rfl, ⟨xs, h⟩, askD walk_list q⟩
/-- a while, by a word of the names and the heap, and a measure -/
theorem x_while {c : TT} (q : ∃ W : Nat → SS → Hp → Prop, (∃ m, W m σ H) ∧ ∀ m σ H, W m σ H → c σ H fun b H1 => if b = true then ∃ N : SS → Hp → Prop, (∀ σ' H', N σ' H' → ∃ m', m' < m ∧ W m' σ' H') ∧ tb ⟨N, rt, nx, N⟩ σ H1 else nx σ H1) : tWhile c tb ⟨nx, rt, bk, ct⟩ σ H := q
theorem x_turn {m : Nat} {W : Nat → SS → Hp → Prop} (q : tb ⟨fun σ' H' => ∃ m', m' < m ∧ W m' σ' H', rt, nx, fun σ' H' => ∃ m', m' < m ∧ W m' σ' H'⟩ σ H) : ∃ N : SS → Hp → Prop, (∀ σ' H', N σ' H' → ∃ m', m' < m ∧ W m' σ' H') ∧ tb ⟨N, rt, nx, N⟩ σ H := ⟨_, fun _ _ h => h, q⟩
theorem x_truthL {R : Bool → Prop} (h : SqL K H a xs) (q : R (!xs.isEmpty)) : ∃ k, TruV K (.ref a) H k ∧ R k := ⟨_, .inl ⟨xs, h, rfl⟩, q⟩
theorem x_pop {Q : VK} {y : V} (h : H a = some (.lst xs)) (e : xs[xs.length - 1]? = some y) (q : Q y (upd H a (.lst xs.dropLast))) : rPop (.ref a) [] H Q := ⟨a, xs, y, rfl, rfl, h, e, q⟩
theorem x_din (q : ty σ H fun y H1 => td σ H1 fun x H2 => ∃ a o, x = .ref a ∧ DGet H2 a y o ∧ Q (.bl o.isSome) H2) : tDIn ty td σ H Q := q
theorem x_dnotin (q : ty σ H fun y H1 => td σ H1 fun x H2 => ∃ a o, x = .ref a ∧ DGet H2 a y o ∧ Q (.bl (!o.isSome)) H2) : tDNotIn ty td σ H Q := q
theorem x_dput (q : tv σ H fun v H1 => td σ H1 fun x H2 => ty σ H2 fun y H3 => ∃ a H4, x = .ref a ∧ DPut H3 a y v H4 ∧ nx σ H4) : sDPut td ty tv ⟨nx, rt, bk, ct⟩ σ H := q
theorem x_dget (q : td σ H fun x H1 => ty σ H1 fun y H2 => ∃ a v, x = .ref a ∧ DGet H2 a y (some v) ∧ Q v H2) : tDGet td ty σ H Q := q
theorem x_dgI {kvs : List (Key × V)} {i : Int} {R : Option V → Prop} (h : H a = some (.dK kvs)) (q : R (valV kvs (.inl i))) : ∃ b o, V.ref a = .ref b ∧ DGet H b (.int i) o ∧ R o := ⟨a, _, rfl, DGet.k (k := .inl i) h, q⟩
theorem x_dpI {kvs : List (Key × V)} {i : Int} {R : Hp → Prop} (h : H a = some (.dK kvs)) (l : kvs.length < sizeLine) (q : R (upd H a (.dK (putK kvs (.inl i) v)))) : ∃ b H', V.ref a = .ref b ∧ DPut H b (.int i) v H' ∧ R H' := ⟨a, _, rfl, DPut.k (k := .inl i) h l, q⟩
theorem x_listD {kvs : List (Key × V)} {Q : VK} (h : H a = some (.dK kvs)) (q : ∀ p, H p = none → Q (.ref p) (upd H p (.lst (kvs.map fun kv => kV kv.1)))) : rListD [.ref a] H Q := ⟨a, kvs, rfl, h, q⟩
theorem x_sortedD {kvs : List (Key × V)} {ks : List Int} {Q : VK} (h : H a = some (.dK kvs)) (e : kvs.map (·.1) = ks.map Sum.inl)
    (q : ∀ (ns : List Int) (p : Addr), ns.Perm ks → ns.Pairwise (· ≤ ·) → H p = none → Q (.ref p) (upd H p (.lst (ns.map V.int)))) : rSortedD [.ref a] H Q := ⟨a, kvs, ks, rfl, h, e, q⟩
theorem x_sortedL {ks : List Int} {Q : VK} (h : SqL K H a (ks.map V.int))
    (q : ∀ (ns : List Int) (p : Addr), ns.Perm ks → ns.Pairwise (· ≤ ·) → H p = none → Q (.ref p) (upd H p (.lst (ns.map V.int)))) : rSortedI K [.ref a] H Q := ⟨a, ks, rfl, h, q⟩
theorem x_inL {x : V} (h : SqL K H a xs) (f : flatV x = true) (fs : xs.all flatV = true) (q : Q (.bl (inV x xs)) H) : rIn K false x (.ref a) H Q := ⟨a, xs, rfl, .inl h, f, fs, q⟩
theorem x_notInL {x : V} (h : SqL K H a xs) (f : flatV x = true) (fs : xs.all flatV = true) (q : Q (.bl (!inV x xs)) H) : rIn K true x (.ref a) H Q := ⟨a, xs, rfl, .inl h, f, fs, q⟩
theorem x_inT {x : V} (h : SqT K H a xs) (f : flatV x = true) (fs : xs.all flatV = true) (q : Q (.bl (inV x xs)) H) : rIn K false x (.ref a) H Q := ⟨a, xs, rfl, .inr h, f, fs, q⟩
theorem x_listL {Q : VK} (h : SqL K H a xs) (q : ∀ l, H l = none → Q (.ref l) (upd H l (.lst xs))) : ∃ p ys, [V.ref a] = [.ref p] ∧ (SqL K H p ys ∨ SqT K H p ys) ∧ ∀ l, H l = none → Q (.ref l) (upd H l (.lst ys)) := ⟨a, xs, rfl, .inl h, q⟩
theorem x_listT {Q : VK} (h : SqT K H a xs) (q : ∀ l, H l = none → Q (.ref l) (upd H l (.lst xs))) : ∃ p ys, [V.ref a] = [.ref p] ∧ (SqL K H p ys ∨ SqT K H p ys) ∧ ∀ l, H l = none → Q (.ref l) (upd H l (.lst ys)) := ⟨a, xs, rfl, .inr h, q⟩
/-- t + u: some tuple of both -/
theorem x_cat {b : Addr} {Q : VK} (h : SqT K H a xs) (h2 : SqT K H b ys) (z : xs.length + ys.length ≤ sizeLine) (q : ∀ (p : Addr) (H' : Hp), SqT K H' p (xs ++ ys) → Kx [] H H' → Q (.ref p) H') : rCatA K (.ref a) (.ref b) H Q := by
  refine ⟨a, b, xs, ys, rfl, rfl, h, h2, z, fun e => ?_, fun _ e => ?_, fun _ _ p hp => ?_⟩
  · subst e
    exact q b H h2 (Kx.refl _ _)
  · subst e
    exact q a H (by rwa [List.append_nil]) (Kx.refl _ _)
  · exact q p _ (SqT.of upd_same) ((Kx.refl _ _).new hp)
theorem in_int {n : Int} : ∀ ns : List Int, inV (.int n) (ns.map V.int) = decide (n ∈ ns)
  | [] => rfl
  | m :: r => by
    have ih := in_int (n := n) r
    unfold inV at ih ⊢
    rw [List.map_cons, List.any_cons, ih]
    by_cases e : m = n
    · subst e
      simp [eqV]
    · have e2 : ¬ n = m := fun z => e z.symm
      simp [eqV, e, e2]
theorem flat_ints : ∀ ns : List Int, (ns.map V.int).all flatV = true
  | [] => rfl
  | _ :: r => flat_ints r
theorem pt_truth' {X : Cx} {a : Expr} {t : TE} (ha : PE X a t) (he : ∀ whole, isTrue a X.env whole = (do let v ← whole; standAt a.pos; holding [v] (truthy v)) := by intro _; rfl) :
    PT X a (fun σ H QB => t σ H fun x H' => ∃ k, TruV X.K x H' k ∧ QB k H') := pt_truth ha he
end
structure Lkw (P : Program) (w : World) (K : PySem.W.Frag) (mg : Str → Option Value) (base : Heap) (x : Str) (k : Nat) (ps ks : List Str) (gV : List V → List V) (sp : Sp) : Prop where
  ex : ∃ (f : Addr) (fd : FuncData) (g : List Value → List Value), FnOk P w K mg base CX0 k f fd ps sp ∧ mg x = some (.ref f) ∧ PySem.W.keepIn K (.ref f) = true ∧ KB K fd ps ks g gV
theorem pe_lkw {X : Cx} {k : Nat} {ps ks : List Str} {sp : Sp} {x : Str} {p pos : Pos} {tk : TA} {kws : List Keyword} {gV : List V → List V} (L : Lkw X.prog X.w X.K X.mg X.base x k ps ks gV sp) (hr : Room k X.A) (hg : Gl X x) (hkw : PK X kws tk)
    (hall : (backToKw pos (keywordEach kws X.env)).all (·.1.isSome) = true := by rfl) (hks : (backToKw pos (keywordEach kws X.env)).filterMap (·.1) = ks := by rfl)
    (hdb : (x == ("__debug__" : Str)) = false := by decide)
    (hpl : ((backTo pos (starEach [] X.env)).any (·.1) || (backToKw pos (keywordEach kws X.env)).any (·.1.isNone)) = false := by rfl) :
    PE X (.Call (.Name x p) [] kws pos) (tCallKw sp gV tk) := by
  obtain ⟨f, fd, g, F, hm, hk, hb⟩ := L.ex
  exact pe_kw0 F hr hg hm hk hb hkw hall hks hdb hpl
theorem x_kw {σ : SS} {H : Hp} {Q : VK} {sp : Sp} {gV : List V → List V} {tk : TA} (q : tk σ H fun zs H1 => sp (gV zs) H1 Q E0) : tCallKw sp gV tk σ H Q := q
theorem op_catAK {X : Cx} {K : PySem.W.Frag} (e : X.K = K := by rfl) : OpR X (binaryOp .Add) (rCatA K) := e ▸ op_catA
theorem op_isN1K : True := trivial

/-! ### max(ints, default=d) -/
section
variable {prog : Program} {w : World} {A : Around} {E : Value → Shared → Prop} {R : Result → Shared → Prop} {I : Addr} {fp wr : List Addr} {G : Array GenState → Array GenState → Prop} {n : Nat} {P : Nat → Value → Prop} {St : Nat → Shared → Prop}
theorem maxkw_turns (kw : List (Str × Value)) (W : WalksS prog w A.in1 I fp wr G n P St) (bt : Nat → Nat → Bool) (hcmp : CmpOf prog w A.in1 .Gt P bt) (S : Addr) (hSf : S ∉ fp) :
    ∀ (k j : Nat) (s : Shared) (vb : Value) (c : Nat), n - (j + 1) = k → j + 1 ≤ n → St (j + 1) s → P (argBest bt j) vb → s.heap.get? S = some { cls := .type "list", dict := none, data := .seq #[vb, vb] c, slots := #[] } →
      (∀ v s', P (argBest bt (n - 1)) v → Moved (S :: wr) G s s' → R (.ok (.ret v)) s') → codeAny (model prog w) A (.builtin "max.loop" ⟨[.ref I, .none, .ref S], kw⟩) R s := by
  have nm : (toString "max" ++ toString ".loop" : String) = "max.loop" := by decide
  have w1 : S ∉ wr := fun h => hSf (W.sub _ h)
  have w2 : ∀ b ∈ wr, b ∈ S :: wr := fun b hb => List.mem_cons_of_mem _ hb
  have w3 : ∀ {b : Addr}, b ∉ S :: wr → S ≠ b := fun hb h => hb (h ▸ List.mem_cons_self)
  intro k
  induction k with
  | zero =>
    intro j s vb c hk hj hst hPb hS hR
    obtain rfl : j + 1 = n := by omega
    refine codeAny_builtin PySem.F.entry_max_loop ?_
    rw [Around.under_plainId PySem.F.plain_max_loop _]; show wpAny _ A.in1 (seqItems? (.ref S) >>= _) _ _ s
    refine wpAny_bind (wpAny_seqItems hS rfl ?_); show wpAny _ A.in1 (tryCatch (pyNext (.ref I)) _ >>= _) _ _ s
    refine wpAny_bind (wpAny_tryCatch (W.done s _ _ hst fun s' hm => ?_))
    have hS' := hm.heap S _ w1 hS
    show wpAny _ A.in1 (updateSeq S (fun _ => (#[] : Array Value)) >>= _) _ _ _
    refine wpAny_bind (wpAny_updateSeq hS' rfl (wpAny_bind (wpAny_letGo (wpAny_pure (hR vb _ hPb ?_)))))
    exact (hm.mono w2).then_heap (tk := s'.toks) (Nat.le_refl _) fun b o hb e => (Heap.get?_update_other _ _ (w3 hb)).trans e
  | succ k ih =>
    intro j s vb c hk hj hst hPb hS hR
    have hlt : j + 1 < n := by omega
    refine codeAny_builtin PySem.F.entry_max_loop ?_
    rw [Around.under_plainId PySem.F.plain_max_loop _]; show wpAny _ A.in1 (seqItems? (.ref S) >>= _) _ _ s
    refine wpAny_bind (wpAny_seqItems hS rfl ?_); show wpAny _ A.in1 (tryCatch (pyNext (.ref I)) _ >>= _) _ _ s
    refine wpAny_bind (wpAny_tryCatch (W.item (j + 1) s _ _ hlt hst fun v s' hP hst' hm => ?_))
    have hS' := hm.heap S _ w1 hS
    show wpAny _ A.in1 (tryCatch (holding [v, v] (richCompare .Gt v vb >>= _)) _ >>= _) _ _ _
    refine wpAny_bind (wpAny_tryCatch (wpAny_holding (wpAny_bind (hcmp (j + 1) (argBest bt j) v vb _ _ _ hP hPb ?_)))); refine wpAny_bind (wpAny_holding (wpAny_truthy_bool ?_))
    refine wpAny_bind (wpAny_letGo (wpAny_pure ?_))
    cases hb : bt (j + 1) (argBest bt j) with
    | true =>
      simp only [if_true]
      refine wpAny_bind (wpAny_updateSeq hS' rfl (wpAny_bind (wpAny_letGo ?_))); rw [nm]
      have far : ∀ {b : Addr}, b ∉ fp → True := fun _ => trivial
      refine wpAny_pure ⟨plainId_quiet PySem.F.plain_max_loop _, ih (j + 1) _ v _ (by omega) hlt (W.frame _ s' _ s'.toks hst' (Nat.le_refl _) fun b hbf o e => (Heap.get?_update_other _ _ (fun h : S = b => hSf (h ▸ hbf))).trans e) (by simp only [argBest, hb, if_true]; exact hP) (Heap.get?_update_self _ hS' rfl) fun v' s'' hP' hm'' => hR v' s'' hP' (Moved.trans W.gtrans ((hm.mono w2).then_heap (Nat.le_refl _) fun b o hb e => (Heap.get?_update_other _ _ (w3 hb)).trans e) hm'')⟩
    | false =>
      simp only [Bool.false_eq_true, if_false]
      refine wpAny_bind (wpAny_letGo ?_); rw [nm]
      exact wpAny_pure ⟨plainId_quiet PySem.F.plain_max_loop _, ih (j + 1) _ vb c (by omega) hlt hst' (by simp only [argBest, hb, Bool.false_eq_true, if_false]; exact hPb) hS' fun v' s'' hP' hm'' => hR v' s'' hP' (Moved.trans W.gtrans (hm.mono w2) hm'')⟩
/-- the first turn, none or one -/
theorem maxkw_first {d : Value} (W : WalksS prog w A.in1 I fp wr G n P St) (bt : Nat → Nat → Bool) (hcmp : CmpOf prog w A.in1 .Gt P bt) (S : Addr) (hSf : S ∉ fp) {s : Shared} {c : Nat} (hst : St 0 s) (hS : s.heap.get? S = some { cls := .type "list", dict := none, data := .seq #[] c, slots := #[] })
    (h0 : n = 0 → ∀ s', Moved (S :: wr) G s s' → R (.ok (.ret d)) s') (h1 : 0 < n → ∀ v s', P (argBest bt (n - 1)) v → Moved (S :: wr) G s s' → R (.ok (.ret v)) s') :
    codeAny (model prog w) A (.builtin "max.loop" ⟨[.ref I, .none, .ref S], [("default", d)]⟩) R s := by
  have nm : (toString "max" ++ toString ".loop" : String) = "max.loop" := by decide
  have w1 : S ∉ wr := fun h => hSf (W.sub _ h)
  have w2 : ∀ b ∈ wr, b ∈ S :: wr := fun b hb => List.mem_cons_of_mem _ hb
  have w3 : ∀ {b : Addr}, b ∉ S :: wr → S ≠ b := fun hb h => hb (h ▸ List.mem_cons_self)
  refine codeAny_builtin PySem.F.entry_max_loop ?_
  rw [Around.under_plainId PySem.F.plain_max_loop _]; show wpAny _ A.in1 (seqItems? (.ref S) >>= _) _ _ s
  refine wpAny_bind (wpAny_seqItems hS rfl ?_); show wpAny _ A.in1 (tryCatch (pyNext (.ref I)) _ >>= _) _ _ s
  by_cases hn : 0 < n
  · refine wpAny_bind (wpAny_tryCatch (W.item 0 s _ _ hn hst fun v s' hP hst' hm => ?_))
    have hS' := hm.heap S _ w1 hS
    show wpAny _ A.in1 (updateSeq S (fun _ => #[v, v]) >>= _) _ _ _
    refine wpAny_bind (wpAny_updateSeq hS' rfl ?_); rw [nm]
    refine wpAny_pure ⟨plainId_quiet PySem.F.plain_max_loop _, maxkw_turns _ W bt hcmp S hSf _ 0 _ v _ rfl hn (W.frame _ s' _ s'.toks hst' (Nat.le_refl _) fun b hbf o e => (Heap.get?_update_other _ _ (fun h : S = b => hSf (h ▸ hbf))).trans e) hP (Heap.get?_update_self _ hS' rfl) fun v' s'' hP' hm'' => h1 hn v' s'' hP' ?_⟩
    exact Moved.trans W.gtrans ((hm.mono w2).then_heap (Nat.le_refl _) fun b o hb e => (Heap.get?_update_other _ _ (w3 hb)).trans e) hm''
  · obtain rfl : n = 0 := by omega
    refine wpAny_bind (wpAny_tryCatch (W.done s _ _ hst fun s' hm => ?_))
    refine wpAny_bind (wpAny_rule ?_)
    exact wpAny_pure (h0 rfl s' (hm.mono w2))
theorem maxd_args (a v : Value) : argsOk "max" ⟨[a], [(Str.ofString "default", v)]⟩ := by unfold argsOk; kernel_rfl
theorem max_dflt {l : Addr} {its : List Value} {ns : List Int} {d : Value} {s : Shared} {Q : Value → Shared → Prop} (hh : A.handled = none) (hl : s.heap.IsList l its.toArray) (hi : IntsAre its ns)
    (h0 : ns = [] → ∀ h' tk, (∀ b o, s.heap.get? b = some o → h'.get? b = some o) → Q d { s with heap := h', toks := tk })
    (h1 : ∀ h' tk m t', (∀ b o, s.heap.get? b = some o → h'.get? b = some o) → m ∈ ns → (∀ a, a ∈ ns → a ≤ m) → Q (.int m t') { s with heap := h', toks := tk }) :
    wpAny (model prog w) A (call (.builtin "max") [.ref l] [(Str.ofString "default", d)]) Q E s := by
  obtain ⟨xs, e⟩ := hi.allInts.items
  have hn : numsOf (intItems xs).toList = ns := e ▸ hi.numsOf
  rw [nums_intItems] at hn
  subst hn
  rw [e] at hl
  have nm : (toString "max" ++ toString ".loop" : String) = "max.loop" := by decide
  refine kmb_tree PySem.F.kind_max PySem.F.plain_max PySem.F.entry_max (maxd_args _ _) ?_
  show wpAny _ A.in1 (Builtin.Builtins.bindParams "max" ["key", "default"] 0 ⟨[], [(Str.ofString "default", d)]⟩ >>= _) _ _ s
  refine wpAny_bind (wpAny_of_eq (show Builtin.Builtins.bindParams "max" ["key", "default"] 0 ⟨[], [(Str.ofString "default", d)]⟩ = pure [none, some d] from rfl) ?_)
  refine wpAny_bind (wpAny_pure (wpAny_bind ?_))
  refine PySem.iter_intList hl fun s2 e2 st hfp hlI => ?_
  subst e2
  refine wpAny_bind (wpAny_newObj_type ?_); rw [nm]
  have W := Walks.list (prog := prog) (w := w) (A := A.in1) hh s.heap.objs.size l hlI (intItems xs)
  have hsz : (s.heap.push { cls := .type "list_iterator", data := .fields #[.ref l, .int 0 0] }).objs.size = s.heap.objs.size + 1 := Heap.size_push ..
  have hSf : (s.heap.push { cls := .type "list_iterator", data := .fields #[.ref l, .int 0 0] }).objs.size ∉ [s.heap.objs.size, l] := fun hm => Nat.lt_irrefl _ (hfp _ hm)
  have hlen : (intItems xs).size = xs.size := by simp [intItems]
  have off : ∀ {b : Addr} {o : Obj}, s.heap.get? b = some o → b ∉ [(s.heap.push { cls := .type "list_iterator", data := .fields #[.ref l, .int 0 0] }).objs.size, s.heap.objs.size] := fun {b o} q hm => by
    have hlt : b < s.heap.objs.size := Heap.lt_size q
    rw [hsz] at hm
    rcases List.mem_cons.mp hm with z | z
    · exact absurd hlt (by rw [z]; exact Nat.not_lt.mpr (Nat.le_succ _))
    · exact absurd hlt (by rw [List.mem_singleton.mp z]; exact Nat.lt_irrefl _)
  refine wpAny_pure ⟨plainId_quiet PySem.F.plain_max_loop _, maxkw_first W.toS _ (CmpOf.ints_gt (numAt xs) (fun _ _ => intItems_at)) _ hSf (W.toS.frame 0 _ _ s.toks st (Nat.le_refl _) fun b _ o q => Heap.get?_push_of_some _ q) (Heap.get?_push_size _ rfl) (fun hz s' hm => ?_) (fun hz v s' hP hm => ?_)⟩
  · rw [Moved.eq_with hm]
    exact h0 (by rw [hlen] at hz; rw [Array.eq_empty_of_size_eq_zero hz]; rfl) s'.heap s'.toks fun b o q => hm.heap b o (off q) (Heap.get?_push_of_some _ (Heap.get?_push_of_some _ q))
  · rw [Moved.eq_with hm]
    have hne : 0 < xs.size := by rwa [hlen] at hz
    have hP : (intItems xs)[argBest (fun i j => decide (numAt xs i > numAt xs j)) (xs.size - 1)]? = some v := by simpa [intItems] using hP
    obtain ⟨t, rfl⟩ := intItems_at hP
    obtain ⟨g1, g2⟩ := argBest_gt (numAt xs) (xs.size - 1)
    refine h1 s'.heap s'.toks _ t (fun b o q => hm.heap b o (off q) (Heap.get?_push_of_some _ (Heap.get?_push_of_some _ q))) ?_ fun a ha => ?_
    · rw [numAt_eq]
      exact PySem.getD_mem (by rw [List.length_map, Array.length_toList]; omega)
    · obtain ⟨j, hj, rfl⟩ := mem_getD ha
      rw [List.length_map, Array.length_toList] at hj
      exact numAt_eq xs j ▸ g2 j (by omega)
end
section
variable {X : Cx}
def rMaxD (K : PySem.W.Frag) : List V → List V → Hp → VK → Prop := fun xs zs H Q => ∃ (a : Addr) (ns : List Int) (d : Int), xs = [.ref a] ∧ zs = [.int d] ∧ SqL K H a (ns.map V.int) ∧ (ns = [] → Q (.int d) H) ∧ ∀ m, m ∈ ns → (∀ b, b ∈ ns → b ≤ m) → Q (.int m) H
theorem cr_maxD (hc : X.calm = true) : CallRK X (.builtin "max") [Str.ofString "default"] (rMaxD X.K) := by
  intro pins s σ H xs zs us ws Q I r rz h
  obtain ⟨a, ns, d, rfl, rfl, hs, q0, q1⟩ := h
  obtain ⟨its, rv, hl, _⟩ := I.list hs
  obtain ⟨u, rfl, ru⟩ := vals1 rz
  rw [Vals.ref1 r]
  exact max_dflt (I.ok.hd hc) hl.isList rv.ints (fun e h' tk hk => ⟨.int d, H, I.kept hk, ru, q0 e⟩) fun h' tk m t' hk h1 h2 => ⟨.int m, H, I.kept hk, ⟨_, rfl⟩, q1 m h1 h2⟩
end

/-! ### own classes -/
/-- a method, by its promise (self first) -/
structure Lm (P : Program) (w : World) (K : PySem.W.Frag) (mg : Str → Option Value) (base : Heap) (C : Addr) (m : Str) (k : Nat) (ps : List Str) (sp : Sp) : Prop where
  ex : ∃ (f : Addr) (fd : FuncData), FnOk P w K mg base CX0 k f fd ps sp ∧ Meth K C m f ∧ Binds K fd ps []
/-- a class that is made, by its __init__'s promise -/
structure Ln (P : Program) (w : World) (K : PySem.W.Frag) (mg : Str → Option Value) (base : Heap) (C : Addr) (x : Str) (k : Nat) (ps : List Str) (sp : Sp) : Prop where
  ex : ∃ (f : Addr) (fd : FuncData), FnOk P w K mg base CX0 k f fd ps sp ∧ Mk K C f ∧ mg x = some (.ref C) ∧ Binds K fd ps []
section
variable {X : Cx} {k : Nat} {C : Addr} {m x : Str} {ps : List Str} {sp : Sp} {o e : Expr} {es : List Expr} {apos p pos : Pos} {ta : TE} {t : TA}
theorem pe_lm {pl : Sem Bool} (L : Lm X.prog X.w X.K X.mg X.base C m k ps sp) (c : Cls X.K C) (hr : Room k X.A) (ho : PE X o ta) (ha : PA X (e :: es) t)
    (hst : starEach (e :: es) X.env = (false, eval e X.env) :: starEach es X.env := by rfl) (hpl : (backTo pos (starEach es X.env)).any (·.1) = false := by rfl)
    (ht : eval (.Call (.Attribute o m apos) (e :: es) [] pos) X.env = (do let ov ← eval o X.env; standAt apos.atName; let (f, first) ← holding [ov] (getMethod ov m pl); callWith pos f first (backTo pos (starEach (e :: es) X.env)) (backToKw pos (keywordEach [] X.env))) := by rfl) :
    PE X (.Call (.Attribute o m apos) (e :: es) [] pos) (tMeth C m sp [] E0 ta t) := by
  obtain ⟨f, fd, F, hm, hb⟩ := L.ex
  exact pe_meth (pl := pl) ho c hm F hr hb .nil pass0 ha hst hpl ht
theorem pe_lm0 {pl : Sem Bool} (L : Lm X.prog X.w X.K X.mg X.base C m k ps sp) (c : Cls X.K C) (hr : Room k X.A) (ho : PE X o ta)
    (ht : eval (.Call (.Attribute o m apos) [] [] pos) X.env = (do let ov ← eval o X.env; standAt apos.atName; let (f, first) ← holding [ov] (getMethod ov m pl); callWith pos f first (backTo pos (starEach [] X.env)) (backToKw pos (keywordEach [] X.env))) := by rfl) :
    PE X (.Call (.Attribute o m apos) [] [] pos) (tMeth C m sp [] E0 ta tNil) := by
  obtain ⟨f, fd, F, hm, hb⟩ := L.ex
  exact pe_meth0 (pl := pl) ho c hm F hr hb .nil pass0 ht
theorem pe_ln (L : Ln X.prog X.w X.K X.mg X.base C x k ps sp) (hr : Room (k + 1) X.A) (hg : Gl X x) (ha : PA X (e :: es) t) (hdb : (x == ("__debug__" : Str)) = false := by decide)
    (he : starEach (e :: es) X.env = (false, eval e X.env) :: starEach es X.env := by rfl) (hpl : (backTo pos (starEach es X.env)).any (·.1) = false := by rfl) : PE X (.Call (.Name x p) (e :: es) [] pos) (tMake C sp [] E0 t) := by
  obtain ⟨f, fd, F, hm, hg2, hb⟩ := L.ex
  exact pe_make hm F hr hg hg2 hb .nil pass0 ha hdb he hpl
end
section
variable {K : PySem.W.Frag} {σ : SS} {H : Hp} {Q : VK} {nx bk ct : SS → Hp → Prop} {rt : VK} {C a dx : Addr} {fs : List (Str × V)} {f m : Str} {v : V} {ta te : TE} {t tk : TA} {sp : Sp}
theorem x_meth (q : ta σ H fun x H1 => ∃ a dx fs, x = .ref a ∧ H1 a = some (.ins C dx fs) ∧ fs.lookup m = none ∧ t σ H1 fun vs H2 => sp (x :: (vs ++ [])) H2 Q E0) : tMeth C m sp [] E0 ta t σ H Q := q
theorem x_insM {R : Prop} (h : H a = some (.ins C dx fs)) (l : fs.lookup m = none) (q : R) : ∃ a' dx' fs', V.ref a = .ref a' ∧ H a' = some (.ins C dx' fs') ∧ List.lookup m fs' = none ∧ R := ⟨a, dx, fs, rfl, h, l, q⟩
theorem x_fld (q : ta σ H fun x H1 => ∃ a C dx fs v, x = .ref a ∧ H1 a = some (.ins C dx fs) ∧ Cls K C ∧ NoAttr K C f ∧ fs.lookup f = some v ∧ Q v H1) : tFld K ta f σ H Q := q
theorem x_insF {R : V → Prop} (h : H a = some (.ins C dx fs)) (c : Cls K C) (n : NoAttr K C f) (l : fs.lookup f = some v) (q : R v) : ∃ a' C' dx' fs' v', V.ref a = .ref a' ∧ H a' = some (.ins C' dx' fs') ∧ Cls K C' ∧ NoAttr K C' f ∧ List.lookup f fs' = some v' ∧ R v' :=
  ⟨a, C, dx, fs, v, rfl, h, c, n, l, q⟩
theorem x_sfld (q : te σ H fun y H1 => ta σ H1 fun x H2 => ∃ a C dx fs, x = .ref a ∧ H2 a = some (.ins C dx fs) ∧ Cls K C ∧ NoAttr K C f ∧ fs.length < 1000 ∧ nx σ (upd H2 a (.ins C dx (putF f y fs)))) : sFld K ta te f ⟨nx, rt, bk, ct⟩ σ H := q
theorem x_make (q : t σ H fun vs H1 => ∀ x dx, H1 x = none → H1 dx = none → dx ≠ x → sp (.ref x :: (vs ++ [])) (upd (upd H1 dx (.own x)) x (.ins C dx [])) (fun v H2 => v = .non ∧ Q (.ref x) H2) E0) : tMake C sp [] E0 t σ H Q := q
theorem x_ckw {r : List V → List V → Hp → VK → Prop} (q : t σ H fun vs H1 => tk σ H1 fun zs H2 => r vs zs H2 Q) : tCKw r t tk σ H Q := q
theorem x_maxD {ns : List Int} {d : Int} (h : SqL K H a (ns.map V.int)) (q0 : ns = [] → Q (.int d) H) (q1 : ∀ m, m ∈ ns → (∀ b, b ∈ ns → b ≤ m) → Q (.int m) H) : rMaxD K [.ref a] [.int d] H Q := ⟨a, ns, d, rfl, rfl, h, q0, q1⟩
/-- a range with a step -/
theorem x_iR3 {R : It → Hp → Prop} (q : t σ H fun vs H1 => ∃ (i j c : Int) (n : Nat), vs = [.int i, .int j, .int c] ∧ RgC i j c n ∧ R (Itc i c n) H1) : iRng3 t σ H R := q
theorem y_forDown {g : TG} {tb : TS} {i : Int} (h0 : -1 ≤ i) (h1 : i < 1000000) (q : AskF (i + 1).toNat (fun _ => True) (YFn fun k => .int (i + (k : Nat) * (-1))) g tb nx rt σ H) :
    ∃ (i' j c : Int) (n : Nat), [V.int i, V.int (-1), V.int (-1)] = [.int i', .int j, .int c] ∧ RgC i' j c n ∧ WF (Itc i' c n) g tb nx rt σ H := by
  refine ⟨i, -1, -1, (i + 1).toNat, rfl, ?_, askF walk_rangeC q⟩
  have := RgC.neg (i := i) (j := -1) (by omega) (by omega) (by decide) (by decide)
  rwa [show (i - -1) = i + 1 by omega] at this
end
theorem iteP {c : Bool} {A B : Prop} (h : c = true) (q : A) : if c = true then A else B := by rw [if_pos h]; exact q
theorem iteN {c : Bool} {A B : Prop} (h : c = false) (q : B) : if c = true then A else B := by rw [h]; exact q
section
variable {K : PySem.W.Frag} {σ : SS} {H : Hp} {Q : VK} {x y : V} {ta tb tc : TE} {r r' : R2} {QB : Bool → Hp → Prop}
theorem x_chain (q : ta σ H fun x H1 => tb σ H1 fun y H2 => r x y H2 fun z H3 => ∃ k, z = .bl k ∧ (if k = true then tc σ H3 fun w' H4 => r' y w' H4 Q else Q (.bl false) H3)) : tChain r r' ta tb tc σ H Q := q
theorem x_isi {n : String} {t : Value} {b : Bool} (ty : TyX K H x t) (k : PySem.W.kitOne K t (.type n) = some b) (q : Q (.bl b) H) : rIsi K [x, .ty n] H Q := ⟨x, .ty n, t, .type n, b, rfl, .ty n, ty, k, q⟩
theorem x_isiII {i : Int} (q : Q (.bl true) H) : rIsi K [.int i, .ty "int"] H Q := x_isi (.base (.int i)) (kit_ty (by decide +kernel)) q
theorem x_isiIB {i : Int} (q : Q (.bl false) H) : rIsi K [.int i, .ty "bool"] H Q := x_isi (.base (.int i)) (kit_ty (by decide +kernel)) q
end
section
variable {K : PySem.W.Frag} {σ : SS} {H : Hp} {Q : VK} {QS : SS → Hp → Prop} {nx bk ct : SS → Hp → Prop} {rt : VK} {s1 s2 : TS} {ta tb : TE} {tA : TA} {a b : Addr} {xs : List V} {ds : List PyData}
theorem x_par3 {i j l : Nat} (q : tA σ H fun vs H1 => ∃ u v w, vs = [u, v, w] ∧ nx (((σ.set i (some u)).set j (some v)).set l (some w)) H1) : tPar3 i j l tA ⟨nx, rt, bk, ct⟩ σ H := q
theorem x_three {R : V → V → V → Prop} {x y z : V} (q : R x y z) : ∃ u v w, [x, y, z] = [u, v, w] ∧ R u v w := ⟨x, y, z, rfl, q⟩
theorem x_orT (q : ta σ H fun x H1 => ∃ k, TruV K x H1 k ∧ if k = true then Q x H1 else tb σ H1 Q) : tOrT K ta tb σ H Q := q
theorem x_truN {R : Bool → Prop} (q : R false) : ∃ k, TruV K .non H k ∧ R k := ⟨false, rfl, q⟩
theorem x_truT {R : Bool → Prop} (h : SqT K H a xs) (q : R (!xs.isEmpty)) : ∃ k, TruV K (.ref a) H k ∧ R k := ⟨_, .inr (.inl ⟨xs, h, rfl⟩), q⟩
theorem x_glst {m : Nat} {u : TGs} (h : SqL K H a xs) (l : xs.length = m) (q : u xs σ H QS) : gLst K m u (.ref a) σ H QS := ⟨a, xs, rfl, h, l, q⟩
/-- a part of a block that may end in more than one way: what comes behind it, once -/
theorem x_seqG (P : SS → Hp → Prop) (q : ∀ G : SS → Hp → Prop, (∀ σ H, P σ H → G σ H) → s1 ⟨G, rt, bk, ct⟩ σ H) (r : ∀ σ H, P σ H → s2 ⟨nx, rt, bk, ct⟩ σ H) : tSeq s1 s2 ⟨nx, rt, bk, ct⟩ σ H := q _ r
theorem eqv_nil (ds : List PyData) : PyData.eqv (.list ds) (.list []) = ds.isEmpty := by
  cases ds <;> rfl
theorem x_neNilD (h : SqL K H a xs) (hd : DpAll K H xs ds) (sh : SeqAt.shaped (.list ds) = true) (hb : SqL K H b []) (q : Q (.bl (!ds.isEmpty)) H) : rNeD K (.ref a) (.ref b) H Q := ⟨.list ds, .list [], .lst h hd, .lst hb .nil, sh, by decide, by rw [eqv_nil]; exact q⟩
theorem x_eqNilD (h : SqL K H a xs) (hd : DpAll K H xs ds) (sh : SeqAt.shaped (.list ds) = true) (hb : SqL K H b []) (q : Q (.bl ds.isEmpty) H) : rEqD K (.ref a) (.ref b) H Q := ⟨.list ds, .list [], .lst h hd, .lst hb .nil, sh, by decide, by rw [eqv_nil]; exact q⟩
theorem x_catL {ys : List V} (h : H a = some (.lst xs)) (h2 : H b = some (.lst ys)) (z : xs.length + ys.length ≤ sizeLine) (q : ∀ p, H p = none → Q (.ref p) (upd H p (.lst (xs ++ ys)))) : rCat (.ref a) (.ref b) H Q := ⟨a, b, xs, ys, rfl, rfl, h, h2, z, q⟩
end

/-! ### the rules that speak of X.K, with K told from outside -/
section
variable {X : Cx} {K : PySem.W.Frag}
theorem op_eqDK (hu : X.A.units + 64 < cLine) (e : X.K = K := by rfl) : OpR X (compareOp .Eq) (rEqD K) := e ▸ op_eqD hu
theorem op_neDK (hu : X.A.units + 64 < cLine) (e : X.K = K := by rfl) : OpR X (compareOp .NotEq) (rNeD K) := e ▸ op_neD hu
end
section
variable {X : Cx} {K : PySem.W.Frag} {o e : Expr} {es : List Expr} {to : TE} {t : TA} {name : Str} {apos cpos : Pos} {T id : String} {r : V → List V → Hp → VK → Prop}
theorem pe_bmK (pa : PlainAttrs T) (slot : Slot T name id) (hty : typeOf (.builtin id) = pure (.type "method_descriptor")) (hm : MtR X id r) (ho : PE X o to) (ha : PA X (e :: es) t) (eK : X.K = K := by rfl)
    (hbase : attributeBase o name X.env (eval o X.env) = eval o X.env := by rfl)
    (hfew : ((backTo cpos (starEach (e :: es) X.env)).all (fun x => !x.1) && (backToKw cpos (keywordEach [] X.env)).all (fun x => x.1.isSome)
      && decide ((e :: es).length + ([] : List Keyword).length + (if ([] : List Keyword).isEmpty then 0 else 1) < 30)) = true := by rfl)
    (hline : (apos.endLine == cpos.line) = true := by rfl) (hs : starEach (e :: es) X.env = (false, eval e X.env) :: starEach es X.env := by rfl) (hplain : (backTo cpos (starEach es X.env)).any (·.1) = false := by rfl) :
    PE X (.Call (.Attribute o name apos) (e :: es) [] cpos) (tBM K T r to t) := eK ▸ pe_bm pa slot hty hm ho ha hbase hfew hline hs hplain
theorem pe_bm0K (pa : PlainAttrs T) (slot : Slot T name id) (hty : typeOf (.builtin id) = pure (.type "method_descriptor")) (hm : MtR X id r) (ho : PE X o to) (eK : X.K = K := by rfl)
    (hbase : attributeBase o name X.env (eval o X.env) = eval o X.env := by rfl) (hline : (apos.endLine == cpos.line) = true := by rfl) : PE X (.Call (.Attribute o name apos) [] [] cpos) (tBM0 K T r to) := eK ▸ pe_bm0 pa slot hty hm ho hbase hline
end
/-! ### all that is no list is kept -/
def Kt (H H' : Hp) : Prop := ∀ b o, H b = some o → (∀ xs, o ≠ .lst xs) → H' b = some o
theorem Kt.refl (H : Hp) : Kt H H := fun _ _ h _ => h
theorem Kt.trans {H H1 H2 : Hp} (a : Kt H H1) (b : Kt H1 H2) : Kt H H2 := fun c o h n => b c o (a c o h n) n
theorem Kt.of {S : List Addr} {H H' : Hp} (k : Kx S H H') (h : ∀ q ∈ S, ∃ xs, H q = some (.lst xs)) : Kt H H' := fun b o e n => by
  refine k b o (fun z => ?_) e
  obtain ⟨xs, hq⟩ := h b z
  rw [e] at hq
  exact n xs (Option.some.inj hq)
theorem Kt.of0 {H H' : Hp} (k : Kx [] H H') : Kt H H' := fun b o e _ => k b o (by simp) e
theorem Kt.of1 {H H' : Hp} {p : Addr} (k : Kx [p] H H') {xs : List V} (h : H p = some (.lst xs)) : Kt H H' := Kt.of k fun q hq => by rw [List.mem_singleton.mp hq]; exact ⟨xs, h⟩
theorem Kt.wr {H H' : Hp} {q : Addr} {o : HO} (k : Kt H H') {xs : List V} (h : H' q = some (.lst xs)) : Kt H (upd H' q o) := fun b u e n => by
  have e2 := k b u e n
  by_cases hb : b = q
  · subst hb
    rw [h] at e2
    exact absurd (Option.some.inj e2).symm (n xs)
  · rw [upd_ne hb]
    exact e2
theorem Kt.new {H H' : Hp} {q : Addr} {o : HO} (k : Kt H H') (h : H' q = none) : Kt H (upd H' q o) := fun b u e n => lk_ne (k b u e n) h
theorem Kt.sqT {K : PySem.W.Frag} {H H' : Hp} {a : Addr} {xs : List V} (k : Kt H H') (h : SqT K H a xs) : SqT K H' a xs := by
  rcases h with (h | ⟨o, h⟩) | h
  · exact .inl (.inl (k _ _ h (by intro ys z; cases z)))
  · exact .inl (.inr ⟨o, k _ _ h (by intro ys z; cases z)⟩)
  · exact .inr h
theorem Kx.cmb {S : List Addr} {H H1 H2 : Hp} {Z : Addr} (a : Kx S H H1) (b : Kx [Z] H1 H2) (n : H Z = none) : Kx S H H2 := fun q o hq h =>
  b q o (fun z => by rw [List.mem_singleton.mp z, n] at h; cases h) (a q o hq h)
/-! ### numbers -/
def oV : Option Nat → V
  | none => .non
  | some n => .int (n : Int)
def oD : Option Nat → PyData
  | none => .none
  | some n => .int (n : Int)
theorem dp_o {K : PySem.W.Frag} {H : Hp} : ∀ o : Option Nat, Dp K H (oV o) (oD o)
  | none => .non
  | some n => .int n
theorem dp_os {K : PySem.W.Frag} {H : Hp} : ∀ l : List (Option Nat), DpAll K H (l.map oV) (l.map oD)
  | [] => .nil
  | o :: r => .cons (dp_o o) (dp_os r)
theorem good_os {l : List (Option Nat)} (h : ∀ o ∈ l, ∀ n, o = some n → n < 10 ^ 9) (hl : l.length ≤ 40) : Good (.tuple (l.map oD)) 1 (40 * 32) := by
  refine Good.tuple (k := 0) (w := 31) (n := 40) ?_ (by rw [List.length_map]; exact hl)
  intro d hd
  obtain ⟨o, ho, rfl⟩ := List.mem_map.mp hd
  cases o with
  | none => exact Good.none.mono (Nat.le_refl _) (by decide)
  | some n =>
    have := h _ ho n rfl
    exact Good.int (by omega)
abbrev natV (l : List Nat) : List V := l.map fun (n : Nat) => V.int (n : Int)
theorem natV_get {l : List Nat} {i n : Nat} (h : l[i]? = some n) : (natV l)[i]? = some (V.int (n : Int)) := by
  unfold natV
  rw [List.getElem?_map, h]
  rfl
theorem natV_at {l : List Nat} {i n : Nat} (h : l[i]? = some n) : atI (natV l) (i : Int) = some (.int (n : Int)) := atI_nat (natV_get h)
theorem natV_int (l : List Nat) : natV l = (l.map fun (n : Nat) => (n : Int)).map V.int := by
  unfold natV
  rw [List.map_map]
  rfl
theorem natV_len (l : List Nat) : (natV l).length = l.length := List.length_map ..
theorem cast_back {N : Nat} : ∀ {zs : List Int}, (∀ z ∈ zs, z ∈ (List.range N).map fun (i : Nat) => (i : Int)) → natV (zs.map Int.toNat) = zs.map V.int
  | [], _ => rfl
  | z :: r, h => by
    obtain ⟨m, _, e⟩ := List.mem_map.mp (h z List.mem_cons_self)
    have ih := cast_back (zs := r) fun y hy => h y (List.mem_cons_of_mem _ hy)
    unfold natV at ih ⊢
    rw [List.map_cons, List.map_cons, List.map_cons, ih, ← e]
    rfl
theorem perm_nat {zs : List Int} {N : Nat} (h : zs.Perm ((List.range N).map fun (i : Nat) => (i : Int))) : ∃ ns : List Nat, zs.map V.int = natV ns ∧ ns.Perm (List.range N) := by
  refine ⟨zs.map Int.toNat, (cast_back fun z hz => h.mem_iff.mp hz).symm, ?_⟩
  have e := h.map Int.toNat
  rw [List.map_map] at e
  have e2 : (List.range N).map (Int.toNat ∘ fun (i : Nat) => (i : Int)) = List.range N := by
    rw [show (Int.toNat ∘ fun (i : Nat) => (i : Int)) = id from funext fun n => Int.toNat_natCast n, List.map_id]
  rwa [e2] at e
theorem rg_nat (N : Nat) : rgV 0 (N : Int) = natV (List.range N) := by
  unfold rgV natV
  rw [show ((N : Int) - 0).toNat = N by omega]
  refine List.map_congr_left fun i _ => ?_
  show V.int (0 + (i : Int)) = V.int i
  rw [Int.zero_add]
theorem erase_nat : ∀ (zs : List Nat) (i : Nat), (natV zs).eraseIdx i = natV (zs.eraseIdx i)
  | [], _ => rfl
  | _ :: _, 0 => rfl
  | z :: r, i + 1 => congrArg (V.int (z : Int) :: ·) (erase_nat r i)
theorem at_i {zs : List Int} {w : Int} (h0 : 0 ≤ w) (h1 : w < zs.length) : ∃ z ∈ zs, zs[w.toNat]? = some z ∧ atI (zs.map V.int) w = some (.int z) := by
  obtain ⟨i, rfl⟩ : ∃ i : Nat, w = i := ⟨w.toNat, by omega⟩
  have hi : i < zs.length := by omega
  have e1 := List.getElem?_eq_getElem hi
  refine ⟨zs[i], List.getElem_mem hi, by simpa using e1, atI_nat ?_⟩
  rw [List.getElem?_map, e1]
  rfl
theorem ix_n {n j : Nat} (hj : j < n) : ixN n (j : Int) = some j := by
  unfold ixN
  rw [if_pos (by omega), if_pos (by omega), Int.toNat_natCast]
theorem erase_perm0 {z : Nat} : ∀ {zs : List Nat} {i : Nat}, zs[i]? = some z → (z :: zs.eraseIdx i).Perm zs
  | [], _, h => by cases h
  | y :: r, 0, h => by
    cases Option.some.inj h
    exact .refl _
  | y :: r, i + 1, h => (List.Perm.swap y z _).trans ((erase_perm0 (zs := r) (i := i) h).cons y)
theorem erase_perm {zs : List Nat} {i : Nat} {z : Nat} (h : zs[i]? = some z) (as : List Nat) : (as ++ [z] ++ zs.eraseIdx i).Perm (as ++ zs) := by
  rw [List.append_assoc]
  exact List.Perm.append_left as (erase_perm0 h)
section
variable {K : PySem.W.Frag} {σ : SS} {H : Hp} {Q : VK} {te : TE} {a : Addr} {xs : List V} {y : V} {i : Nat} {j : Int}
theorem x_revL (q : te σ H fun x H1 => ∃ a xs, x = .ref a ∧ SqL K H1 a xs ∧ ∀ p, H1 p = none → Q (.ref p) (upd H1 p (.lst xs.reverse))) : tRevL K te σ H Q := q
theorem x_revR {R : Addr → List V → Prop} (h : SqL K H a xs) (q : ∀ p, H p = none → R p xs) : ∃ a' ys, V.ref a = .ref a' ∧ SqL K H a' ys ∧ ∀ p, H p = none → R p ys := ⟨a, xs, rfl, h, q⟩
theorem x_popAt (h : H a = some (.lst xs)) (e : j = (i : Int)) (b : i < 1000000) (s : xs[i]? = some y) (q : Q y (upd H a (.lst (xs.eraseIdx i)))) : rPopAt (.ref a) [.int j] H Q := by
  subst e
  have hi := (List.getElem?_eq_some_iff.mp s).1
  exact ⟨a, xs, i, i, y, rfl, rfl, h, by omega, by omega, seqIndex_of (by omega) (by omega), s, q⟩
theorem dp_nats : ∀ l : List Nat, DpAll K H (natV l) (l.map fun (n : Nat) => PyData.int (n : Int))
  | [] => .nil
  | n :: r => .cons (.int n) (dp_nats r)
end
theorem shaped_int2 (p s : Int) : SeqAt.shaped (.tuple [.int p, .int s]) = true := by
  unfold SeqAt.shaped
  simp [PyData.canLay0, PyData.canLayAll0, PyData.depth, PyData.depthAll]
theorem dpAll_i {K : PySem.W.Frag} {H : Hp} : ∀ {vs : List V} {ds : List PyData}, vs.length = ds.length → (∀ (i : Nat) (d : PyData), ds[i]? = some d → ∃ v, vs[i]? = some v ∧ Dp K H v d) → DpAll K H vs ds
  | [], [], _, _ => .nil
  | [], _ :: _, h, _ => by cases h
  | _ :: _, [], h, _ => by cases h
  | v :: vs, d :: ds, h, q => by
    obtain ⟨v', e, hd⟩ := q 0 d rfl
    cases Option.some.inj e
    exact .cons hd (dpAll_i (Nat.succ.inj h) fun i d' hi => q (i + 1) d' hi)

theorem in_nat {n : Nat} (ns : List Nat) : inV (.int (n : Int)) (natV ns) = decide (n ∈ ns) := by
  rw [natV_int, in_int]
  congr 1
  rw [List.mem_map]
  refine propext ⟨?_, fun h => ⟨n, h, rfl⟩⟩
  rintro ⟨m, hm, e⟩
  rwa [← Int.ofNat.inj e]
theorem flat_nats (ns : List Nat) : (natV ns).all flatV = true := by rw [natV_int]; exact flat_ints _
theorem x_neNilN {K : PySem.W.Frag} {H : Hp} {Q : VK} {a b : Addr} {l : List Nat} (h : SqL K H a (natV l)) (hb : SqL K H b []) (q : Q (.bl (!l.isEmpty)) H) : rNeD K (.ref a) (.ref b) H Q := by
  rw [natV_int] at h
  refine x_neNil h hb ?_
  cases l with
  | nil => exact q
  | cons _ _ => exact q
theorem set_range {α : Type} {n j : Nat} {f g : Nat → α} (hj : j < n) (h1 : ∀ i, i ≠ j → g i = f i) : ((List.range n).map f).set j (g j) = (List.range n).map g := by
  refine List.ext_getElem? fun i => ?_
  by_cases e : i = j
  · subst e
    rw [List.getElem?_set_self (by rw [List.length_map, List.length_range]; exact hj), List.getElem?_map, List.getElem?_range hj]
    rfl
  · rw [List.getElem?_set_ne (Ne.symm e), List.getElem?_map, List.getElem?_map]
    cases h : (List.range n)[i]? with
    | none => rfl
    | some k =>
      obtain ⟨h2, h3⟩ := List.getElem?_eq_some_iff.mp h
      rw [List.getElem_range] at h3
      show some (f k) = some (g k)
      rw [h1 k (by omega)]

open PySem PySem.Spec PySem.Calls PyProof.Rows L2
/-! ### min(ints, default=d) -/
section
variable {prog : Program} {w : World} {A : Around} {E : Value → Shared → Prop} {R : Result → Shared → Prop} {I : Addr} {fp wr : List Addr} {G : Array GenState → Array GenState → Prop} {n : Nat} {P : Nat → Value → Prop} {St : Nat → Shared → Prop}
theorem minkw_turns (kw : List (Str × Value)) (W : WalksS prog w A.in1 I fp wr G n P St) (bt : Nat → Nat → Bool) (hcmp : CmpOf prog w A.in1 .Lt P bt) (S : Addr) (hSf : S ∉ fp) :
    ∀ (k j : Nat) (s : Shared) (vb : Value) (c : Nat), n - (j + 1) = k → j + 1 ≤ n → St (j + 1) s → P (argBest bt j) vb → s.heap.get? S = some { cls := .type "list", dict := none, data := .seq #[vb, vb] c, slots := #[] } →
      (∀ v s', P (argBest bt (n - 1)) v → Moved (S :: wr) G s s' → R (.ok (.ret v)) s') → codeAny (model prog w) A (.builtin "min.loop" ⟨[.ref I, .none, .ref S], kw⟩) R s := by
  have nm : (toString "min" ++ toString ".loop" : String) = "min.loop" := by decide
  have w1 : S ∉ wr := fun h => hSf (W.sub _ h)
  have w2 : ∀ b ∈ wr, b ∈ S :: wr := fun b hb => List.mem_cons_of_mem _ hb
  have w3 : ∀ {b : Addr}, b ∉ S :: wr → S ≠ b := fun hb h => hb (h ▸ List.mem_cons_self)
  intro k
  induction k with
  | zero =>
    intro j s vb c hk hj hst hPb hS hR
    obtain rfl : j + 1 = n := by omega
    refine codeAny_builtin PySem.F.entry_min_loop ?_
    rw [Around.under_plainId PySem.F.plain_min_loop _]; show wpAny _ A.in1 (seqItems? (.ref S) >>= _) _ _ s
    refine wpAny_bind (wpAny_seqItems hS rfl ?_); show wpAny _ A.in1 (tryCatch (pyNext (.ref I)) _ >>= _) _ _ s
    refine wpAny_bind (wpAny_tryCatch (W.done s _ _ hst fun s' hm => ?_))
    have hS' := hm.heap S _ w1 hS
    show wpAny _ A.in1 (updateSeq S (fun _ => (#[] : Array Value)) >>= _) _ _ _
    refine wpAny_bind (wpAny_updateSeq hS' rfl (wpAny_bind (wpAny_letGo (wpAny_pure (hR vb _ hPb ?_)))))
    exact (hm.mono w2).then_heap (tk := s'.toks) (Nat.le_refl _) fun b o hb e => (Heap.get?_update_other _ _ (w3 hb)).trans e
  | succ k ih =>
    intro j s vb c hk hj hst hPb hS hR
    have hlt : j + 1 < n := by omega
    refine codeAny_builtin PySem.F.entry_min_loop ?_
    rw [Around.under_plainId PySem.F.plain_min_loop _]; show wpAny _ A.in1 (seqItems? (.ref S) >>= _) _ _ s
    refine wpAny_bind (wpAny_seqItems hS rfl ?_); show wpAny _ A.in1 (tryCatch (pyNext (.ref I)) _ >>= _) _ _ s
    refine wpAny_bind (wpAny_tryCatch (W.item (j + 1) s _ _ hlt hst fun v s' hP hst' hm => ?_))
    have hS' := hm.heap S _ w1 hS
    show wpAny _ A.in1 (tryCatch (holding [v, v] (richCompare .Lt v vb >>= _)) _ >>= _) _ _ _
    refine wpAny_bind (wpAny_tryCatch (wpAny_holding (wpAny_bind (hcmp (j + 1) (argBest bt j) v vb _ _ _ hP hPb ?_)))); refine wpAny_bind (wpAny_holding (wpAny_truthy_bool ?_))
    refine wpAny_bind (wpAny_letGo (wpAny_pure ?_))
    cases hb : bt (j + 1) (argBest bt j) with
    | true =>
      simp only [if_true]
      refine wpAny_bind (wpAny_updateSeq hS' rfl (wpAny_bind (wpAny_letGo ?_))); rw [nm]
      have far : ∀ {b : Addr}, b ∉ fp → True := fun _ => trivial
      refine wpAny_pure ⟨plainId_quiet PySem.F.plain_min_loop _, ih (j + 1) _ v _ (by omega) hlt (W.frame _ s' _ s'.toks hst' (Nat.le_refl _) fun b hbf o e => (Heap.get?_update_other _ _ (fun h : S = b => hSf (h ▸ hbf))).trans e) (by simp only [argBest, hb, if_true]; exact hP) (Heap.get?_update_self _ hS' rfl) fun v' s'' hP' hm'' => hR v' s'' hP' (Moved.trans W.gtrans ((hm.mono w2).then_heap (Nat.le_refl _) fun b o hb e => (Heap.get?_update_other _ _ (w3 hb)).trans e) hm'')⟩
    | false =>
      simp only [Bool.false_eq_true, if_false]
      refine wpAny_bind (wpAny_letGo ?_); rw [nm]
      exact wpAny_pure ⟨plainId_quiet PySem.F.plain_min_loop _, ih (j + 1) _ vb c (by omega) hlt hst' (by simp only [argBest, hb, Bool.false_eq_true, if_false]; exact hPb) hS' fun v' s'' hP' hm'' => hR v' s'' hP' (Moved.trans W.gtrans (hm.mono w2) hm'')⟩
/-- the first turn, none or one -/
theorem minkw_first {d : Value} (W : WalksS prog w A.in1 I fp wr G n P St) (bt : Nat → Nat → Bool) (hcmp : CmpOf prog w A.in1 .Lt P bt) (S : Addr) (hSf : S ∉ fp) {s : Shared} {c : Nat} (hst : St 0 s) (hS : s.heap.get? S = some { cls := .type "list", dict := none, data := .seq #[] c, slots := #[] })
    (h0 : n = 0 → ∀ s', Moved (S :: wr) G s s' → R (.ok (.ret d)) s') (h1 : 0 < n → ∀ v s', P (argBest bt (n - 1)) v → Moved (S :: wr) G s s' → R (.ok (.ret v)) s') :
    codeAny (model prog w) A (.builtin "min.loop" ⟨[.ref I, .none, .ref S], [("default", d)]⟩) R s := by
  have nm : (toString "min" ++ toString ".loop" : String) = "min.loop" := by decide
  have w1 : S ∉ wr := fun h => hSf (W.sub _ h)
  have w2 : ∀ b ∈ wr, b ∈ S :: wr := fun b hb => List.mem_cons_of_mem _ hb
  have w3 : ∀ {b : Addr}, b ∉ S :: wr → S ≠ b := fun hb h => hb (h ▸ List.mem_cons_self)
  refine codeAny_builtin PySem.F.entry_min_loop ?_
  rw [Around.under_plainId PySem.F.plain_min_loop _]; show wpAny _ A.in1 (seqItems? (.ref S) >>= _) _ _ s
  refine wpAny_bind (wpAny_seqItems hS rfl ?_); show wpAny _ A.in1 (tryCatch (pyNext (.ref I)) _ >>= _) _ _ s
  by_cases hn : 0 < n
  · refine wpAny_bind (wpAny_tryCatch (W.item 0 s _ _ hn hst fun v s' hP hst' hm => ?_))
    have hS' := hm.heap S _ w1 hS
    show wpAny _ A.in1 (updateSeq S (fun _ => #[v, v]) >>= _) _ _ _
    refine wpAny_bind (wpAny_updateSeq hS' rfl ?_); rw [nm]
    refine wpAny_pure ⟨plainId_quiet PySem.F.plain_min_loop _, minkw_turns _ W bt hcmp S hSf _ 0 _ v _ rfl hn (W.frame _ s' _ s'.toks hst' (Nat.le_refl _) fun b hbf o e => (Heap.get?_update_other _ _ (fun h : S = b => hSf (h ▸ hbf))).trans e) hP (Heap.get?_update_self _ hS' rfl) fun v' s'' hP' hm'' => h1 hn v' s'' hP' ?_⟩
    exact Moved.trans W.gtrans ((hm.mono w2).then_heap (Nat.le_refl _) fun b o hb e => (Heap.get?_update_other _ _ (w3 hb)).trans e) hm''
  · obtain rfl : n = 0 := by omega
    refine wpAny_bind (wpAny_tryCatch (W.done s _ _ hst fun s' hm => ?_))
    refine wpAny_bind (wpAny_rule ?_)
    exact wpAny_pure (h0 rfl s' (hm.mono w2))
theorem mind_args (a v : Value) : argsOk "min" ⟨[a], [(Str.ofString "default", v)]⟩ := by unfold argsOk; kernel_rfl
theorem min_dflt {l : Addr} {its : List Value} {ns : List Int} {d : Value} {s : Shared} {Q : Value → Shared → Prop} (hh : A.handled = none) (hl : s.heap.IsList l its.toArray) (hi : IntsAre its ns)
    (h0 : ns = [] → ∀ h' tk, (∀ b o, s.heap.get? b = some o → h'.get? b = some o) → Q d { s with heap := h', toks := tk })
    (h1 : ∀ h' tk m t', (∀ b o, s.heap.get? b = some o → h'.get? b = some o) → m ∈ ns → (∀ a, a ∈ ns → m ≤ a) → Q (.int m t') { s with heap := h', toks := tk }) :
    wpAny (model prog w) A (call (.builtin "min") [.ref l] [(Str.ofString "default", d)]) Q E s := by
  obtain ⟨xs, e⟩ := hi.allInts.items
  have hn : numsOf (intItems xs).toList = ns := e ▸ hi.numsOf
  rw [nums_intItems] at hn
  subst hn
  rw [e] at hl
  have nm : (toString "min" ++ toString ".loop" : String) = "min.loop" := by decide
  refine kmb_tree PySem.F.kind_min PySem.F.plain_min PySem.F.entry_min (mind_args _ _) ?_
  show wpAny _ A.in1 (Builtin.Builtins.bindParams "min" ["key", "default"] 0 ⟨[], [(Str.ofString "default", d)]⟩ >>= _) _ _ s
  refine wpAny_bind (wpAny_of_eq (show Builtin.Builtins.bindParams "min" ["key", "default"] 0 ⟨[], [(Str.ofString "default", d)]⟩ = pure [none, some d] from rfl) ?_)
  refine wpAny_bind (wpAny_pure (wpAny_bind ?_))
  refine PySem.iter_intList hl fun s2 e2 st hfp hlI => ?_
  subst e2
  refine wpAny_bind (wpAny_newObj_type ?_); rw [nm]
  have W := Walks.list (prog := prog) (w := w) (A := A.in1) hh s.heap.objs.size l hlI (intItems xs)
  have hsz : (s.heap.push { cls := .type "list_iterator", data := .fields #[.ref l, .int 0 0] }).objs.size = s.heap.objs.size + 1 := Heap.size_push ..
  have hSf : (s.heap.push { cls := .type "list_iterator", data := .fields #[.ref l, .int 0 0] }).objs.size ∉ [s.heap.objs.size, l] := fun hm => Nat.lt_irrefl _ (hfp _ hm)
  have hlen : (intItems xs).size = xs.size := by simp [intItems]
  have off : ∀ {b : Addr} {o : Obj}, s.heap.get? b = some o → b ∉ [(s.heap.push { cls := .type "list_iterator", data := .fields #[.ref l, .int 0 0] }).objs.size, s.heap.objs.size] := fun {b o} q hm => by
    have hlt : b < s.heap.objs.size := Heap.lt_size q
    rw [hsz] at hm
    rcases List.mem_cons.mp hm with z | z
    · exact absurd hlt (by rw [z]; exact Nat.not_lt.mpr (Nat.le_succ _))
    · exact absurd hlt (by rw [List.mem_singleton.mp z]; exact Nat.lt_irrefl _)
  refine wpAny_pure ⟨plainId_quiet PySem.F.plain_min_loop _, minkw_first W.toS _ (CmpOf.ints_lt (numAt xs) (fun _ _ => intItems_at)) _ hSf (W.toS.frame 0 _ _ s.toks st (Nat.le_refl _) fun b _ o q => Heap.get?_push_of_some _ q) (Heap.get?_push_size _ rfl) (fun hz s' hm => ?_) (fun hz v s' hP hm => ?_)⟩
  · rw [Moved.eq_with hm]
    exact h0 (by rw [hlen] at hz; rw [Array.eq_empty_of_size_eq_zero hz]; rfl) s'.heap s'.toks fun b o q => hm.heap b o (off q) (Heap.get?_push_of_some _ (Heap.get?_push_of_some _ q))
  · rw [Moved.eq_with hm]
    have hne : 0 < xs.size := by rwa [hlen] at hz
    have hP : (intItems xs)[argBest (fun i j => decide (numAt xs i < numAt xs j)) (xs.size - 1)]? = some v := by simpa [intItems] using hP
    obtain ⟨t, rfl⟩ := intItems_at hP
    obtain ⟨g1, g2⟩ := argBest_lt (numAt xs) (xs.size - 1)
    refine h1 s'.heap s'.toks _ t (fun b o q => hm.heap b o (off q) (Heap.get?_push_of_some _ (Heap.get?_push_of_some _ q))) ?_ fun a ha => ?_
    · rw [numAt_eq]
      exact PySem.getD_mem (by rw [List.length_map, Array.length_toList]; omega)
    · obtain ⟨j, hj, rfl⟩ := mem_getD ha
      rw [List.length_map, Array.length_toList] at hj
      exact numAt_eq xs j ▸ g2 j (by omega)
end
section
variable {X : Cx}
def rMinD (K : PySem.W.Frag) : List V → List V → Hp → VK → Prop := fun xs zs H Q => ∃ (a : Addr) (ns : List Int) (d : V), xs = [.ref a] ∧ zs = [d] ∧ SqL K H a (ns.map V.int) ∧ (ns = [] → Q d H) ∧ ∀ m, m ∈ ns → (∀ b, b ∈ ns → m ≤ b) → Q (.int m) H
theorem cr_minD (hc : X.calm = true) : CallRK X (.builtin "min") [Str.ofString "default"] (rMinD X.K) := by
  intro pins s σ H xs zs us ws Q I r rz h
  obtain ⟨a, ns, d, rfl, rfl, hs, q0, q1⟩ := h
  obtain ⟨its, rv, hl, _⟩ := I.list hs
  obtain ⟨u, rfl, ru⟩ := vals1 rz
  rw [Vals.ref1 r]
  exact min_dflt (I.ok.hd hc) hl.isList rv.ints (fun e h' tk hk => ⟨d, H, I.kept hk, ru, q0 e⟩) fun h' tk m t' hk h1 h2 => ⟨.int m, H, I.kept hk, ⟨_, rfl⟩, q1 m h1 h2⟩
end

theorem cr_minDK {X : Cx} {K : PySem.W.Frag} (hc : X.calm = true) (e : X.K = K := by rfl) : CallRK X (.builtin "min") [Str.ofString "default"] (rMinD K) := e ▸ cr_minD hc
theorem x_minD {K : PySem.W.Frag} {H : Hp} {Q : VK} {a : Addr} {ns : List Int} {d : V} (h : SqL K H a (ns.map V.int)) (q0 : ns = [] → Q d H) (q1 : ∀ m, m ∈ ns → (∀ b, b ∈ ns → m ≤ b) → Q (.int m) H) : rMinD K [.ref a] [d] H Q := ⟨a, ns, d, rfl, rfl, h, q0, q1⟩
/-! ### math.lcm -/
section
variable {X : Cx}
def rLcm : List V → Hp → VK → Prop := fun vs H Q => ∃ a b : Int, vs = [.int a, .int b] ∧ a.natAbs < 2 ^ 10000 ∧ b.natAbs < 2 ^ 10000 ∧ (Nat.lcm a.natAbs b.natAbs) < 2 ^ 20000 ∧ Q (.int ((Nat.lcm a.natAbs b.natAbs : Nat) : Int)) H
theorem log_lt {n k : Nat} (h : n < 2 ^ k) (hk : 0 < k) : n.log2 < k := by
  by_cases h0 : n = 0
  · subst h0
    rw [Nat.log2_zero]
    exact hk
  · exact (Nat.log2_lt h0).mpr h
theorem max_lt2 {a b k : Nat} (ha : a < 2 ^ k) (hb : b < 2 ^ k) : max a b < 2 ^ k := Nat.max_lt.mpr ⟨ha, hb⟩
theorem cr_lcm : CallR X (.builtin "math.lcm") rLcm := by
  intro pins s σ H vs us Q I r h
  obtain ⟨a, b, rfl, ha, hb, hl, q⟩ := h
  obtain ⟨t, u, rfl⟩ := Vals.int2 r
  have e1 : Nat.lcm 1 a.natAbs = a.natAbs := Nat.lcm_one_left _
  have h1 : (max 1 a.natAbs).log2 < 10000 := log_lt (max_lt2 (Nat.one_lt_two_pow (by decide)) ha) (by decide)
  have h2 : (max a.natAbs b.natAbs).log2 < 10000 := log_lt (max_lt2 ha hb) (by decide)
  have h3 : (Nat.lcm a.natAbs b.natAbs).log2 < 20000 := log_lt hl (by decide)
  have h4 : (((((Nat.lcm 1 a.natAbs).lcm b.natAbs : Nat) : Int)).natAbs).log2 < bitsLine := by
    rw [e1, Int.natAbs_natCast]
    exact Nat.lt_of_lt_of_le h3 (by decide)
  refine call_function_meets PySem.W.MGF.kind_lcm PySem.W.MGF.plain_lcm PySem.W.MGF.entry_lcm (PySem.W.MGF.args_lcm _ _) (PySem.W.mg_run_lcm a t b u (by omega) (by omega) h4).meets ?_
  rw [e1]
  exact ⟨.int _, H, I.tok _, ⟨_, rfl⟩, q⟩
end
/-! ### a comprehension in a comprehension -/
def relabel' (scope sc : Scope) : Scope := { scope with names := scope.names.map fun (n, k) => if k == NameKind.free && sc.kind == .function && sc.names.lookup n == some .cell then (n, NameKind.cell) else (n, k) }
theorem relabel_eq (scope : Scope) (env : Env) : relabel scope env = relabel' scope env.scope := rfl
theorem blkOk_byN {N : List Str} {scope0 scope : Scope} {env0 : Env} {own : List (Str × Nat)} (h : blkC N (relabel' scope0 env0.scope) scope own = true) : BlkOk N (relabel scope0 env0) scope own := blkOk_by h
section
variable {X : Cx} {K : PySem.W.Frag} {tg e : Expr} {tl : TE}
theorem pi_listK (h : PE X e tl) (eK : X.K = K := by rfl) : PI X tg e (iList K tl) := eK ▸ pi_list h
theorem pi_tupK (h : PE X e tl) (eK : X.K = K := by rfl) : PI X tg e (iTup K tl) := eK ▸ pi_tup h
end

/-! ### calls by position and by name -/
structure Lkx (P : Program) (w : World) (K : PySem.W.Frag) (mg : Str → Option Value) (base : Heap) (x : Str) (k : Nat) (ps ks : List Str) (gV : List V → List V → List V) (sp : Sp) : Prop where
  ex : ∃ (f : Addr) (fd : FuncData) (g : List Value → List Value → List Value), FnOk P w K mg base CX0 k f fd ps sp ∧ mg x = some (.ref f) ∧ PySem.W.keepIn K (.ref f) = true ∧ KBinds K fd ps ks g gV
section
variable {X : Cx} {k : Nat} {x : Str} {ps ks : List Str} {sp : Sp} {e : Expr} {es : List Expr} {p pos : Pos} {t tk : TA} {kws : List Keyword} {gV : List V → List V → List V}
theorem pe_lkx (L : Lkx X.prog X.w X.K X.mg X.base x k ps ks gV sp) (hr : Room k X.A) (hg : Gl X x) (ha : PA X (e :: es) t) (hkw : PK X kws tk)
    (hall : (backToKw pos (keywordEach kws X.env)).all (·.1.isSome) = true := by rfl) (hks : (backToKw pos (keywordEach kws X.env)).filterMap (·.1) = ks := by rfl)
    (hdb : (x == ("__debug__" : Str)) = false := by decide) (he : starEach (e :: es) X.env = (false, eval e X.env) :: starEach es X.env := by rfl)
    (hpl : ((backTo pos (starEach (e :: es) X.env)).any (·.1) || (backToKw pos (keywordEach kws X.env)).any (·.1.isNone)) = false := by rfl) :
    PE X (.Call (.Name x p) (e :: es) kws pos) (tCallK sp gV E0 t tk) := by
  obtain ⟨f, fd, g, F, hm, hk, hb⟩ := L.ex
  exact pe_callK F hr hg hm hk hb pass0 ha hkw hall hks hdb he hpl
end
theorem x_kwx {σ : SS} {H : Hp} {Q : VK} {sp : Sp} {gV : List V → List V → List V} {t tk : TA} (q : t σ H fun vs H1 => tk σ H1 fun zs H2 => sp (gV vs zs) H2 Q E0) : tCallK sp gV E0 t tk σ H Q := q
/-- n by position, then m by name in their order -/
def gApp (n m : Nat) {α : Type} (us ws : List α) : List α := if us.length = n ∧ ws.length = m then us ++ ws else []
/-- n by name, the other way round -/
def gRev (n : Nat) {α : Type} (ws : List α) : List α := if ws.length = n then ws.reverse else []
theorem vals_app {vs zs : List V} {us ws : List Value} (r : Vals vs us) (q : Vals zs ws) : Vals (vs ++ zs) (us ++ ws) := by
  induction r with
  | nil => exact q
  | cons h _ ih => exact .cons h ih
theorem vals_rev {vs : List V} {us : List Value} (r : Vals vs us) : Vals vs.reverse us.reverse := by
  induction r with
  | nil => exact .nil
  | cons h _ ih =>
    rw [List.reverse_cons, List.reverse_cons]
    exact vals_app ih (.cons h .nil)
theorem gApp_rel {n m : Nat} {vs zs : List V} {us ws : List Value} (r : Vals vs us) (q : Vals zs ws) : Vals (gApp n m vs zs) (gApp n m us ws) := by
  unfold gApp
  rw [r.length, q.length]
  split
  · exact vals_app r q
  · exact .nil
theorem gRev_rel {n : Nat} {zs : List V} {ws : List Value} (q : Vals zs ws) : Vals (gRev n zs) (gRev n ws) := by
  unfold gRev
  rw [q.length]
  split
  · exact vals_rev q
  · exact .nil
theorem gApp_to {n m : Nat} {α : Type} {us ws : List α} (h : (gApp n m us ws).length = n + m) (h0 : 0 < n + m) : us.length = n ∧ ws.length = m := by
  unfold gApp at h
  split at h
  · assumption
  · rw [List.length_nil] at h; omega
theorem gRev_to {n : Nat} {α : Type} {ws : List α} (h : (gRev n ws).length = n) (h0 : 0 < n) : ws.length = n := by
  unfold gRev at h
  split at h
  · assumption
  · rw [List.length_nil] at h; omega
theorem len1 {α : Type} {l : List α} (h : l.length = 1) : ∃ a, l = [a] := by
  match l, h with
  | [a], _ => exact ⟨a, rfl⟩
theorem len2 {α : Type} {l : List α} (h : l.length = 2) : ∃ a b, l = [a, b] := by
  match l, h with
  | [a, b], _ => exact ⟨a, b, rfl⟩
theorem len3 {α : Type} {l : List α} (h : l.length = 3) : ∃ a b c, l = [a, b, c] := by
  match l, h with
  | [a, b, c], _ => exact ⟨a, b, c, rfl⟩
theorem len4 {α : Type} {l : List α} (h : l.length = 4) : ∃ a b c d, l = [a, b, c, d] := by
  match l, h with
  | [a, b, c, d], _ => exact ⟨a, b, c, d, rfl⟩
theorem x_rg2 {σ : SS} {H : Hp} {ta tb : TE} {QR : Int → Int → Hp → Prop} (q : ta σ H fun x H1 => tb σ H1 fun y H2 => ∃ n m, x = .int n ∧ y = .int m ∧ QR n m H2) : tRg2 ta tb σ H QR := q
theorem x_int2 {i j : Int} {R : Int → Int → Prop} (q : R i j) : ∃ n m, V.int i = .int n ∧ V.int j = .int m ∧ R n m := ⟨i, j, rfl, rfl, q⟩
theorem x_isIf {c : TT} {s1 s2 s3 : TS} {D : Ends} {σ : SS} {H : Hp} (q : tSeq (tIfS c s1 s2) s3 D σ H) : tSeq (tIfS c s1 s2) s3 D σ H := q

local macro_rules | `(tactic| walk_at "lk") => `(tactic| first
  | assumption
  | exact upd_same
  | (refine' lk_ne ?h (by assumption); (case h => walk_at "lk"))
  | (refine' lk_ne2 ?n ?h; (case n => walk_at "ne"); (case h => walk_at "lk"))
  | (refine' lk_keep (by assumption) ?n ?h; (case n => walk_at "nin"); (case h => walk_at "lk")))
local macro_rules | `(tactic| walk_at "ne") => `(tactic| first
  | assumption
  | exact Ne.symm (by assumption))
local macro_rules | `(tactic| walk_at "nin") => `(tactic| first
  | assumption
  | (simp only [List.mem_cons, List.not_mem_nil, or_false, not_or, not_false_eq_true, and_true]; (repeat' apply And.intro); all_goals walk_at "ne"))
local macro_rules | `(tactic| walk_at "lkL") => `(tactic| first
  | assumption
  | (refine' SqL.of ?h; (case h => walk_at "lk"))
  | (refine' Kx.sqL ?k ?n ?h; (case k => walk_at "kx"); (case n => walk_at "nin"); (case h => walk_at "lkL")))
local macro_rules | `(tactic| walk_at "kx") => `(tactic| first
  | assumption
  | (refine' Kx.new ?k ?n; (case n => assumption); (case k => first | walk_at "kx" | exact Kx.refl [] _)))
local macro_rules | `(tactic| walk_at "lkT") => `(tactic| first
  | assumption
  | (refine' SqT.of ?h; (case h => walk_at "lk"))
  | (refine' FT.seq ?h; (case h => assumption))
  | (refine' Kx.sqT ?k ?n ?h; (case k => walk_at "kx"); (case n => walk_at "nin"); (case h => walk_at "lkT")))
local macro_rules | `(tactic| walk_at "sz") => `(tactic| first
  | exact Nat.zero_le _
  | (show (_ : Nat) ≤ sizeLine; decide)
  | (refine Nat.le_of_lt (small1000 ?h); (case h => first | omega | (simp; done) | (simp; omega))))
local macro_rules | `(tactic| walk_at "at") => `(tactic| first
  | exact rfl
  | assumption)
local macro_rules | `(tactic| walk_at "side") => `(tactic| first
  | assumption
  | (show (0 : Int) < _; first | decide | omega)
  | exact Or.inl ⟨by omega, by omega⟩
  | exact Or.inr ⟨by omega, by omega⟩
  | exact ⟨by omega, by omega⟩
  | exact ⟨by decide, by decide, by decide⟩
  | exact ⟨by decide, by decide, natAbs_lt (by omega) (by omega)⟩
  | exact small1000 (by first | omega | (simp; done) | (simp; omega))
  | omega)
local macro_rules | `(tactic| walk_at "rd") => `(tactic| dsimp only)
local macro_rules | `(tactic| walk_at "rd") => `(tactic| ((with_reducible refine' x_c  ?_)))
local macro_rules | `(tactic| walk_at "rd") => `(tactic| ((with_reducible refine' x_op  ?_)))
local macro_rules | `(tactic| walk_at "rd") => `(tactic| ((with_reducible refine' x_un  ?_)))
local macro_rules | `(tactic| walk_at "rd") => `(tactic| ((with_reducible refine' x_I0  ?_)))
local macro_rules | `(tactic| walk_at "rd") => `(tactic| ((with_reducible refine' x_U  ?_)))
local macro_rules | `(tactic| walk_at "rd") => `(tactic| ((with_reducible refine' x_isN  ?_)))
local macro_rules | `(tactic| walk_at "rd") => `(tactic| ((with_reducible refine' x_notN  ?_)))
local macro_rules | `(tactic| walk_at "rd") => `(tactic| ((with_reducible refine' x_nil  ?_)))
local macro_rules | `(tactic| walk_at "rd") => `(tactic| ((with_reducible refine' x_cons  ?_)))
local macro_rules | `(tactic| walk_at "rd") => `(tactic| ((with_reducible refine' x_lst  ?_)))
local macro_rules | `(tactic| walk_at "rd") => `(tactic| ((with_reducible refine' x_tup  ?_)))
local macro_rules | `(tactic| walk_at "rd") => `(tactic| ((with_reducible refine' x_tupF  ?_)))
local macro_rules | `(tactic| walk_at "rd") => `(tactic| ((with_reducible refine' x_CB  ?_)))
local macro_rules | `(tactic| walk_at "rd") => `(tactic| ((with_reducible refine' x_call  ?_)))
local macro_rules | `(tactic| walk_at "rd") => `(tactic| ((with_reducible refine' x_test  ?_)))
local macro_rules | `(tactic| walk_at "rd") => `(tactic| ((with_reducible refine' x_bl  ?_)))
local macro_rules | `(tactic| walk_at "rd") => `(tactic| ((with_reducible refine' x_B  ?_)))
local macro_rules | `(tactic| walk_at "rd") => `(tactic| ((with_reducible refine' x_andV  ?_)))
local macro_rules | `(tactic| walk_at "rd") => `(tactic| ((with_reducible refine' x_orV  ?_)))
local macro_rules | `(tactic| walk_at "rd") => `(tactic| ((with_reducible refine' x_notV  ?_)))
local macro_rules | `(tactic| walk_at "rd") => `(tactic| ((with_reducible refine' x_and  ?_)))
local macro_rules | `(tactic| walk_at "rd") => `(tactic| ((with_reducible refine' x_or  ?_)))
local macro_rules | `(tactic| walk_at "rd") => `(tactic| ((with_reducible refine' x_not  ?_)))
local macro_rules | `(tactic| walk_at "rd") => `(tactic| ((with_reducible refine' x_if  ?_)))
local macro_rules | `(tactic| walk_at "rd") => `(tactic| ((with_reducible refine' x_sl  ?_)))
local macro_rules | `(tactic| walk_at "rd") => `(tactic| ((with_reducible refine' x_no  ?_)))
local macro_rules | `(tactic| walk_at "rd") => `(tactic| ((with_reducible refine' x_part  ?_)))
local macro_rules | `(tactic| walk_at "rd") => `(tactic| ((with_reducible refine' x_int  ?_)))
local macro_rules | `(tactic| walk_at "rd") => `(tactic| ((with_reducible refine' x_seq  ?_)))
local macro_rules | `(tactic| walk_at "rd") => `(tactic| ((with_reducible refine' x_next  ?_)))
local macro_rules | `(tactic| walk_at "rd") => `(tactic| ((with_reducible refine' x_brk  ?_)))
local macro_rules | `(tactic| walk_at "rd") => `(tactic| ((with_reducible refine' x_cont  ?_)))
local macro_rules | `(tactic| walk_at "rd") => `(tactic| ((with_reducible refine' x_drop  ?_)))
local macro_rules | `(tactic| walk_at "rd") => `(tactic| ((with_reducible refine' x_ret  ?_)))
local macro_rules | `(tactic| walk_at "rd") => `(tactic| ((with_reducible refine' x_retN  ?_)))
local macro_rules | `(tactic| walk_at "rd") => `(tactic| ((with_reducible refine' x_asg  ?_)))
local macro_rules | `(tactic| walk_at "rd") => `(tactic| ((with_reducible refine' x_gnil  ?_)))
local macro_rules | `(tactic| walk_at "rd") => `(tactic| ((with_reducible refine' x_gcons  ?_)))
local macro_rules | `(tactic| walk_at "rd") => `(tactic| ((with_reducible refine' x_gsub  ?_)))
local macro_rules | `(tactic| walk_at "rd") => `(tactic| ((with_reducible refine' x_par  ?_)))
local macro_rules | `(tactic| walk_at "rd") => `(tactic| ((with_reducible refine' x_ifS  ?_)))
local macro_rules | `(tactic| walk_at "rd") => `(tactic| ((with_reducible refine' x_ipI  ?_)))
local macro_rules | `(tactic| walk_at "rd") => `(tactic| ((with_reducible refine' x_augS  ?_)))
local macro_rules | `(tactic| walk_at "rd") => `(tactic| ((with_reducible refine' x_abs  ?_)))
local macro_rules | `(tactic| walk_at "rd") => `(tactic| ((with_reducible refine' x_toI  ?_)))
local macro_rules | `(tactic| walk_at "rd") => `(tactic| ((with_reducible refine' x_toIb  ?_)))
local macro_rules | `(tactic| walk_at "rd") => `(tactic| ((with_reducible refine' x_min2  ?_)))
local macro_rules | `(tactic| walk_at "rd") => `(tactic| ((with_reducible refine' x_bm  ?_)))
local macro_rules | `(tactic| walk_at "rd") => `(tactic| ((with_reducible refine' x_bm0  ?_)))
local macro_rules | `(tactic| walk_at "rd") => `(tactic| ((with_reducible refine' x_bmF  ?_)))
local macro_rules | `(tactic| walk_at "rd") => `(tactic| ((with_reducible refine' x_lrg  ?_)))
local macro_rules | `(tactic| walk_at "rd") => `(tactic| ((with_reducible refine' x_yes  ?_)))
local macro_rules | `(tactic| walk_at "rd") => `(tactic| ((with_reducible refine' x_rg1  ?_)))
local macro_rules | `(tactic| walk_at "rd") => `(tactic| ((with_reducible refine' x_for  ?_)))
local macro_rules | `(tactic| walk_at "rd") => `(tactic| ((with_reducible refine' x_lc  ?_)))
local macro_rules | `(tactic| walk_at "rd") => `(tactic| ((with_reducible refine' x_iL  ?_)))
local macro_rules | `(tactic| walk_at "rd") => `(tactic| ((with_reducible refine' x_iT  ?_)))
local macro_rules | `(tactic| walk_at "rd") => `(tactic| ((with_reducible refine' x_iR1  ?_)))
local macro_rules | `(tactic| walk_at "rd") => `(tactic| ((with_reducible refine' x_iR2  ?_)))
local macro_rules | `(tactic| walk_at "rd") => `(tactic| ((with_reducible refine' x_iE  ?_)))
local macro_rules | `(tactic| walk_at "rd") => `(tactic| ((with_reducible refine' x_iET  ?_)))
local macro_rules | `(tactic| walk_at "rd") => `(tactic| ((with_reducible refine' x_name  ?_); try simp only [List.set_cons_zero, List.set_cons_succ]))
local macro_rules | `(tactic| walk_at "rd") => `(tactic| ((with_reducible refine' x_new ?s0 ?_); (case s0 => walk_at "sz"); intro _ _))
local macro_rules | `(tactic| walk_at "rd") => `(tactic| ((with_reducible refine' x_newF ?s0 ?_); (case s0 => walk_at "sz"); intro _ _ _ _ _))
local macro_rules | `(tactic| walk_at "rd") => `(tactic| ((with_reducible refine' x_iteT  ?_)))
local macro_rules | `(tactic| walk_at "rd") => `(tactic| ((with_reducible refine' x_iteF  ?_)))
local macro_rules | `(tactic| walk_at "rd") => `(tactic| ((with_reducible refine' x_neNil ?s0 ?s1 ?_); (case s0 => walk_at "lkL"); (case s1 => walk_at "lkL")))
local macro_rules | `(tactic| walk_at "rd") => `(tactic| ((with_reducible refine' x_two  ?_); try simp only [List.set_cons_zero, List.set_cons_succ]))
local macro_rules | `(tactic| walk_at "rd") => `(tactic| ((with_reducible refine' x_getL ?s0 ?s1 ?_); (case s0 => walk_at "lkL"); (case s1 => walk_at "at")))
local macro_rules | `(tactic| walk_at "rd") => `(tactic| ((with_reducible refine' x_var ?s0 ?_); (case s0 => exact rfl)))
local macro_rules | `(tactic| walk_at "rd") => `(tactic| ((with_reducible refine' x_eq ?s0 ?_); (case s0 => exact rfl)))
local macro_rules | `(tactic| walk_at "rd") => `(tactic| ((with_reducible refine' x_ne ?s0 ?_); (case s0 => exact rfl)))
local macro_rules | `(tactic| walk_at "rd") => `(tactic| ((with_reducible refine' x_I ?s0 ?_); (case s0 => walk_at "side")))
local macro_rules | `(tactic| walk_at "rd") => `(tactic| ((with_reducible refine' x_ixL ?s0 ?s1 ?_); (case s0 => walk_at "lkL"); (case s1 => walk_at "at")))
local macro_rules | `(tactic| walk_at "rd") => `(tactic| ((with_reducible refine' x_ixT ?s0 ?s1 ?_); (case s0 => walk_at "lkT"); (case s1 => walk_at "at")))
local macro_rules | `(tactic| walk_at "rd") => `(tactic| ((with_reducible refine' x_slL ?s0 ?_); (case s0 => walk_at "lkL")))
local macro_rules | `(tactic| walk_at "rd") => `(tactic| ((with_reducible refine' x_gtup ?s0 ?s1 ?_); (case s0 => walk_at "lkT"); (case s1 => exact rfl)))
local macro_rules | `(tactic| walk_at "rd") => `(tactic| ((with_reducible refine' x_setL ?s0 ?s1 ?_); (case s0 => walk_at "lk"); (case s1 => walk_at "at"); try simp only [Int.reduceToNat, List.set]))
local macro_rules | `(tactic| walk_at "rd") => `(tactic| ((with_reducible refine' x_aug ?s0 ?_); (case s0 => exact rfl)))
local macro_rules | `(tactic| walk_at "rd") => `(tactic| ((with_reducible refine' x_lenS ?s0 ?_); (case s0 => walk_at "lkL")))
local macro_rules | `(tactic| walk_at "rd") => `(tactic| ((with_reducible refine' x_lenT ?s0 ?_); (case s0 => walk_at "lkT")))
local macro_rules | `(tactic| walk_at "rd") => `(tactic| ((with_reducible refine' x_tupS ?s0 ?_); (case s0 => walk_at "lkL")))
local macro_rules | `(tactic| walk_at "rd") => `(tactic| ((with_reducible refine' x_tupF1 ?s0 ?_); (case s0 => walk_at "lkL")))
local macro_rules | `(tactic| walk_at "rd") => `(tactic| ((with_reducible refine' x_insert ?s0 ?s1 ?s2 ?s3 ?_); (case s0 => walk_at "lk"); (case s1 => walk_at "side"); (case s2 => walk_at "side"); (case s3 => walk_at "side")))
local macro_rules | `(tactic| walk_at "rd") => `(tactic| ((with_reducible refine' x_append ?s0 ?s1 ?_); (case s0 => walk_at "lk"); (case s1 => walk_at "side")))
local macro_rules | `(tactic| walk_at "rd") => `(tactic| ((with_reducible refine' x_reverse ?s0 ?_); (case s0 => walk_at "lk")))
local macro_rules | `(tactic| walk_at "rd") => `(tactic| ((with_reducible refine' x_dc  ?_)))
local macro_rules | `(tactic| walk_at "rd") => `(tactic| ((with_reducible refine' x_while  ?_)))
local macro_rules | `(tactic| walk_at "rd") => `(tactic| ((with_reducible refine' x_din  ?_)))
local macro_rules | `(tactic| walk_at "rd") => `(tactic| ((with_reducible refine' x_dnotin  ?_)))
local macro_rules | `(tactic| walk_at "rd") => `(tactic| ((with_reducible refine' x_dput  ?_)))
local macro_rules | `(tactic| walk_at "rd") => `(tactic| ((with_reducible refine' x_dget  ?_)))
local macro_rules | `(tactic| walk_at "rd") => `(tactic| ((with_reducible refine' x_pop ?s0 ?s1 ?_); (case s0 => walk_at "lk"); (case s1 => walk_at "at")))
local macro_rules | `(tactic| walk_at "rd") => `(tactic| ((with_reducible refine' x_dgI ?s0 ?_); (case s0 => walk_at "lk")))
local macro_rules | `(tactic| walk_at "rd") => `(tactic| ((with_reducible refine' x_dpI ?s0 ?s1 ?_); (case s0 => walk_at "lk"); (case s1 => walk_at "side")))
local macro_rules | `(tactic| walk_at "rd") => `(tactic| ((with_reducible refine' x_listD ?s0 ?_); (case s0 => walk_at "lk"); intro _ _))
local macro_rules | `(tactic| walk_at "rd") => `(tactic| ((with_reducible refine' x_truthL ?s0 ?_); (case s0 => walk_at "lkL")))
local macro_rules | `(tactic| walk_at "rd") => `(tactic| ((with_reducible refine' x_inL ?s0 ?s1 ?s2 ?_); (case s0 => walk_at "lkL"); (case s1 => exact rfl); (case s2 => first | assumption | exact flat_ints _)))
local macro_rules | `(tactic| walk_at "rd") => `(tactic| ((with_reducible refine' x_notInL ?s0 ?s1 ?s2 ?_); (case s0 => walk_at "lkL"); (case s1 => exact rfl); (case s2 => first | assumption | exact flat_ints _)))
local macro_rules | `(tactic| walk_at "rd") => `(tactic| ((with_reducible refine' x_kw  ?_)))
local macro_rules | `(tactic| walk_at "rd") => `(tactic| ((with_reducible refine' x_ckw  ?_)))
local macro_rules | `(tactic| walk_at "rd") => `(tactic| ((with_reducible refine' x_iR3  ?_)))
local macro_rules | `(tactic| walk_at "rd") => `(tactic| ((with_reducible refine' x_par3  ?_); try simp only [List.set_cons_zero, List.set_cons_succ]))
local macro_rules | `(tactic| walk_at "rd") => `(tactic| ((with_reducible refine' x_three  ?_); try simp only [List.set_cons_zero, List.set_cons_succ]))
local macro_rules | `(tactic| walk_at "rd") => `(tactic| ((with_reducible refine' x_orT  ?_)))
local macro_rules | `(tactic| walk_at "rd") => `(tactic| ((with_reducible refine' x_truN  ?_)))
local macro_rules | `(tactic| walk_at "rd") => `(tactic| ((with_reducible refine' x_truT ?s0 ?_); (case s0 => walk_at "lkT")))
local macro_rules | `(tactic| walk_at "rd") => `(tactic| ((with_reducible refine' x_glst ?s0 ?s1 ?_); (case s0 => walk_at "lkL"); (case s1 => exact rfl)))
local macro_rules | `(tactic| walk_at "rd") => `(tactic| ((with_reducible refine' x_chain  ?_)))
local macro_rules | `(tactic| walk_at "rd") => `(tactic| ((with_reducible refine' x_isiII  ?_)))
local macro_rules | `(tactic| walk_at "rd") => `(tactic| ((with_reducible refine' x_isiIB  ?_)))
local macro_rules | `(tactic| walk_at "rd") => `(tactic| ((with_reducible refine' x_revL  ?_)))
local macro_rules | `(tactic| walk_at "rd") => `(tactic| ((with_reducible refine' x_kwx  ?_)))
local macro_rules | `(tactic| walk_at "rd") => `(tactic| ((with_reducible refine' x_rg2  ?_)))
local macro_rules | `(tactic| walk_at "rd") => `(tactic| ((with_reducible refine' x_int2  ?_)))
local macro_rules | `(tactic| walk_at "rd") => `(tactic| ((with_reducible refine' x_dget2  ?_)))
def topS (i : Nat) : Stmt := PySem.Challenge.pw_slotfall_k50_limits_that_determine.main.body.getD i (.Pass ⟨0, 0, 0, 0⟩)
abbrev sDetermines : Stmt := topS 2
theorem scDetermines : FnScope ["limits", "size"] ["limits", "size"] (defScope sDetermines) := ⟨rfl, rfl, rfl, by decide +kernel, rfl, by decide +kernel, by decide +kernel⟩
abbrev sDecidingLimits : Stmt := topS 3
theorem scDecidingLimits : FnScope ["limits", "size", "depth", "limit"] ["limits", "size"] (defScope sDecidingLimits) := ⟨rfl, rfl, rfl, by decide +kernel, rfl, by decide +kernel, by decide +kernel⟩
abbrev sNeededBound : Stmt := topS 4
theorem scNeededBound : FnScope ["size", "bound"] ["size"] (defScope sNeededBound) := ⟨rfl, rfl, rfl, by decide +kernel, rfl, by decide +kernel, by decide +kernel⟩
abbrev sCommonMultiple : Stmt := topS 5
theorem scCommonMultiple : FnScope ["limits", "multiple", "limit"] ["limits"] (defScope sCommonMultiple) := ⟨rfl, rfl, rfl, by decide +kernel, rfl, by decide +kernel, by decide +kernel⟩
abbrev sQSource : Stmt := topS 7
theorem scQSource : FnScope ["_law_script"] ["_law_script"] (defScope sQSource) := ⟨rfl, rfl, rfl, by decide +kernel, rfl, by decide +kernel, by decide +kernel⟩
abbrev sQDraw : Stmt := topS 8
theorem scQDraw : FnScope ["_law_source_here", "_law_bound", "_law_digit", "_law_place", "_law_cell", "_law_great", "_law_mixed"] ["_law_source_here", "_law_bound"] (defScope sQDraw) := ⟨rfl, rfl, rfl, by decide +kernel, rfl, by decide +kernel, by decide +kernel⟩
abbrev sQLimits : Stmt := topS 9
theorem scQLimits : FnScope ["_law_source_here", "_law_way", "_law_with_one", "_law_many", "_law_found", "_law_entry", "_law_small", "_law_divisor", "_law_wide", "_law_great"] ["_law_source_here"] (defScope sQLimits) := ⟨rfl, rfl, rfl, by decide +kernel, rfl, by decide +kernel, by decide +kernel⟩
abbrev sQDeciding : Stmt := topS 10
theorem scQDeciding : FnScope ["_law_some", "_law_many", "_law_found", "_law_depth", "_law_fitting", "_law_limit"] ["_law_some", "_law_many"] (defScope sQDeciding) := ⟨rfl, rfl, rfl, by decide +kernel, rfl, by decide +kernel, by decide +kernel⟩
abbrev sQDetermines : Stmt := topS 11
theorem scQDetermines : FnScope ["_law_some", "_law_many"] ["_law_some", "_law_many"] (defScope sQDetermines) := ⟨rfl, rfl, rfl, by decide +kernel, rfl, by decide +kernel, by decide +kernel⟩
abbrev sQRight : Stmt := topS 12
theorem scQRight : FnScope ["_law_some", "_law_many", "_law_before"] ["_law_some", "_law_many"] (defScope sQRight) := ⟨rfl, rfl, rfl, by decide +kernel, rfl, by decide +kernel, by decide +kernel⟩
abbrev sLaw : Stmt := topS 13
theorem scLaw : FnScope ["_law_script", "_law_source_here", "_law_turn", "_law_some", "_law_bound", "_law_many"] ["_law_script"] (defScope sLaw) := ⟨rfl, rfl, rfl, by decide +kernel, rfl, by decide +kernel, by decide +kernel⟩

structure Txt (mg : Str → Option Value) : Prop where
  b_len : mg "len" = none
  b_abs : mg "abs" = none
  b_int : mg "int" = none
  b_bool : mg "bool" = none
  b_list : mg "list" = none
  b_tuple : mg "tuple" = none
  b_min : mg "min" = none
  b_max : mg "max" = none
  b_sum : mg "sum" = none
  b_any : mg "any" = none
  b_all : mg "all" = none
  b_repr : mg "repr" = none
  b_sorted : mg "sorted" = none
  b_isinstance : mg "isinstance" = none
  b_range : mg "range" = none
  b_enumerate : mg "enumerate" = none
  g_lcm : mg "lcm" = some (.builtin "math.lcm")

/-- the pen at p over the cells at c: at most n cells drawn -/
def PenAt (H : Hp) (p c : Addr) (n : Nat) : Prop := ∃ (cs : List Int) (pl r : Int), H p = some (.lst [.ref c, .int pl, .int r]) ∧ H c = some (.lst (cs.map V.int)) ∧ cs.length ≤ 63 ∧ 0 ≤ pl ∧ pl ≤ n ∧ 0 ≤ r
theorem PenAt.ne {H : Hp} {p c : Addr} {n : Nat} (h : PenAt H p c n) : c ≠ p := by
  obtain ⟨cs, pl, r, h1, h2, _⟩ := h
  rintro rfl
  rw [h1] at h2
  have e := HO.lst.inj (Option.some.inj h2)
  cases cs with
  | nil => cases e
  | cons z t => cases (List.cons.inj e).1
def spDraw : Sp := fun vs H Q _ => ∃ (p c : Addr) (n : Nat) (m : Int), vs = [.ref p, .int m] ∧ PenAt H p c n ∧ n < 1000000 ∧ 0 < m ∧ m < 1073741824 ∧
  ∀ d H', 0 ≤ d → d < m → Kx [p] H H' → PenAt H' p c (n + 1) → Q (.int d) H'
theorem at_mod {cs : List Int} (i : Int) (h : ¬ (!cs.isEmpty) = false) : (0 : Int) < (cs.map V.int).length ∧ ∃ z, atI (cs.map V.int) (i % ((cs.map V.int).length : Int)) = some (.int z) := by
  have hl : 0 < cs.length := by
    cases cs with
    | nil => exact absurd rfl h
    | cons z t => exact Nat.succ_pos _
  have h0 : (0 : Int) < (cs.map V.int).length := by
    rw [List.length_map]
    omega
  refine ⟨h0, ?_⟩
  have h1 := Int.emod_nonneg i (Int.ne_of_gt h0)
  have h2 := Int.emod_lt_of_pos i h0
  generalize i % ((cs.map V.int).length : Int) = k at h1 h2
  rw [List.length_map] at h2
  obtain ⟨j, rfl⟩ : ∃ j : Nat, k = j := ⟨k.toNat, by omega⟩
  have hj : j < cs.length := by omega
  exact ⟨cs[j], atI_nat (by rw [List.getElem?_map, List.getElem?_eq_getElem hj]; rfl)⟩
theorem draw_bound {a pl : Int} (h0 : 0 ≤ a) (h1 : a < 2147483647) (h2 : 0 ≤ pl) (h3 : pl ≤ 1000000) : (a * (2 * pl + 13) + 90007 * pl * pl + 7).natAbs < 2 ^ 64 := by
  have e1 : 0 ≤ a * (2 * pl + 13) := Int.mul_nonneg h0 (by omega)
  have e2 : a * (2 * pl + 13) ≤ 2147483647 * 2000013 := Int.mul_le_mul (by omega) (by omega) (by omega) (by decide)
  have e3 : 0 ≤ 90007 * pl * pl := Int.mul_nonneg (by omega) h2
  have e4 : 90007 * pl * pl ≤ 90007 * 1000000 * 1000000 := Int.mul_le_mul (by omega) (by omega) (by omega) (by decide)
  generalize a * (2 * pl + 13) = x at e1 e2
  generalize 90007 * pl * pl = y at e3 e4
  omega
section Xtra
local macro_rules | `(tactic| walk_at "side") => `(tactic| exact ⟨by decide, by decide, draw_bound (Int.emod_nonneg _ (by decide)) (Int.emod_lt_of_pos _ (by decide)) (by assumption) (by omega)⟩)
section
variable {P : Program} {w : World} {K : PySem.W.Frag} {mg : Str → Option Value} {base : Heap}

theorem ok_draw {f : Addr} {fd : FuncData} (F : Fun K "_law_draw" "_law_draw" sQDraw f fd) (T : Txt mg) : FnOk P w K mg base CX0 1 f fd ["_law_source_here", "_law_bound"] spDraw := by
  refine F.ok scQDraw (fun vs H Q E h => ?_) (fun cdv A outer s H vs Q E hr h => ?_)
  · obtain ⟨p, c, n, m, rfl, _⟩ := h
    rfl
  · obtain ⟨p, c, n, m, rfl, hpen, hn, hm0, hm1, k⟩ := h
    have ncp := hpen.ne
    obtain ⟨cs, pl, r, hp, hcs, hl, h0, h1, h2⟩ := hpen
    refine ⟨_, (pss_cons (ps_if (pt_cmpR op_gt (pe_ix ix_list (pv 0) pe_int (fun _ _ => rfl)) pe_int (nomark _)) (pss_cons (ps_set (i := 2) scQDraw.nd rfl (Or.inl rfl) (pe_op op_mod (pe_ix ix_list (pv 0) pe_int (fun _ _ => rfl)) (pv 1)))
      (pss_cons (ps_asg (pe_op op_fdiv (pe_ix ix_list (pv 0) pe_int (fun _ _ => rfl)) (pv 1)) (pg_sub (pv 0) pe_int set_list))
      (pss_one (ps_ret (pv 2))))) pss_nil)
      (pss_cons (ps_set (i := 3) scQDraw.nd rfl (Or.inl rfl) (pe_ix ix_list (pv 0) pe_int (fun _ _ => rfl)))
      (pss_cons (ps_asg (pe_op op_add (pv 3) pe_int) (pg_sub (pv 0) pe_int set_list))
      (pss_cons (ps_set (i := 4) scQDraw.nd rfl (Or.inl rfl) (pe_op op_add (pe_op op_mul pe_int (pv 3)) pe_int))
      (pss_cons (ps_if (pt_cmpR (op_neD hr.units) (pe_ix ix_list (pv 0) pe_int (fun _ _ => rfl)) (pe_lst pa_nil) (nomark _)) (pss_one (ps_set (i := 4) scQDraw.nd rfl (Or.inl rfl) (pe_ix ix_list (pe_ix ix_list (pv 0) pe_int (fun _ _ => rfl)) (pe_op op_mod (pv 3) (pe_callB call_len_seq (by rfl) T.b_len boot'_len (pa_cons (pe_ix ix_list (pv 0) pe_int (fun _ _ => rfl)) pa_nil))) (fun _ _ => rfl)))) pss_nil)
      (pss_cons (ps_if ((pw_and (pt_cmpR op_lt (pv 3) (pe_callB call_len_seq (by rfl) T.b_len boot'_len (pa_cons (pe_ix ix_list (pv 0) pe_int (fun _ _ => rfl)) pa_nil)) (nomark _)) (pw_and1 (pt_cmpR op_ge (pe_callB call_abs (by rfl) T.b_abs boot'_abs (pa_cons (pv 4) pa_nil)) (pe_op op_pow pe_int pe_int) (nomark _))))).pt (pss_cons (ps_set (i := 5) scQDraw.nd rfl (Or.inl rfl) (pe_op op_add (pe_op op_mul pe_int (pe_callB call_abs (by rfl) T.b_abs boot'_abs (pa_cons (pv 4) pa_nil))) (pe_callTy call_int1 (by rfl) T.b_int boot'_int (pa_cons (pe_cmpR op_lt (pv 4) pe_int (nomark _)) pa_nil))))
      (pss_cons (ps_asg (pe_op op_fdiv (pv 5) (pv 1)) (pg_sub (pv 0) pe_int set_list))
      (pss_one (ps_ret (pe_op op_mod (pv 5) (pv 1)))))) pss_nil)
      (pss_cons (ps_set (i := 6) scQDraw.nd rfl (Or.inl rfl) (pe_op op_mod (pe_op op_pow (pe_op op_add (pe_op op_add (pe_op op_mod (pv 4) pe_int) (pe_op op_mul pe_int (pv 3))) pe_int) pe_int) pe_int))
      (pss_cons (ps_set (i := 6) scQDraw.nd rfl (Or.inl rfl) (pe_op op_mod (pe_op op_pow (pe_op op_add (pe_op op_add (pe_op op_mul (pv 6) (pe_op op_add (pe_op op_mul pe_int (pv 3)) pe_int)) (pe_op op_mul (pe_op op_mul pe_int (pv 3)) (pv 3))) pe_int) pe_int) pe_int))
      (pss_one (ps_ret (pe_op op_mod (pe_op op_fdiv (pv 6) pe_int) (pv 1)))))))))))), ?_⟩
    refine x_start (σ' := [some (.ref p), some (.int m), none, none, none, none, none]) rfl ?_
    try dsimp only [cxOf]
    have fin : ∀ d H1 pl' r', 0 ≤ d → d < m → Kx [p] H H1 → H1 p = some (.lst [.ref c, .int pl', .int r']) → 0 ≤ pl' → pl' ≤ pl + 1 → 0 ≤ r' → Q (.int d) H1 := by
      intro d H1 pl' r' a1 a2 a3 a4 a5 a6 a7
      exact k d H1 a1 a2 a3 ⟨cs, pl', r', a4, a3 c _ (by simpa using ncp) hcs, hl, a5, by omega, a7⟩
    have kx : ∀ o, Kx [p] H (upd H p o) := fun o => (Kx.refl _ _).wr (.inr (by simp))
    repeat walk_at "rd"
    refine ite2 (fun hc => ?_) (fun hc => ?_)
    · repeat walk_at "rd"
      exact fin _ _ pl (r / m) (Int.emod_nonneg _ (by omega)) (Int.emod_lt_of_pos _ hm0) (kx _) upd_same h0 (by omega) (Int.ediv_nonneg h2 (by omega))
    · repeat walk_at "rd"
      generalize hH1 : upd H p (.lst [.ref c, .int (pl + 1), .int r]) = H1
      rename_i q nq
      rw [hH1] at nq
      have p1 : H1 p = some (.lst [.ref c, .int (pl + 1), .int r]) := by rw [← hH1]; exact upd_same
      have k1 : Kx [p] H H1 := by rw [← hH1]; exact kx _
      generalize hH2 : upd H1 q (.lst []) = H2
      have p2 : H2 p = some (.lst [.ref c, .int (pl + 1), .int r]) := by rw [← hH2]; exact lk_ne p1 nq
      have c2 : H2 c = some (.lst (cs.map V.int)) := by rw [← hH2]; exact lk_ne (k1 c _ (by simpa using ncp) hcs) nq
      have q2 : H2 q = some (.lst []) := by rw [← hH2]; exact upd_same
      have k2 : Kx [p] H H2 := by rw [← hH2]; exact k1.new nq
      repeat walk_at "rd"
      refine ite2 (fun hc2 => ?_) (fun hc2 => ?_)
      · obtain ⟨hz0, z, hz⟩ := at_mod (cs := cs) pl (by simpa using hc2)
        repeat walk_at "rd"
        refine ite2 (fun hc3 => ?_) (fun hc3 => ?_)
        · repeat walk_at "rd"
          refine ite2 (fun hc4 => ?_) (fun hc4 => ?_)
          · have hc5 := of_decide_eq_true hc4
            repeat walk_at "rd"
            refine fin _ _ (pl + 1) _ (Int.emod_nonneg _ (by omega)) (Int.emod_lt_of_pos _ hm0) (k2.wr (.inr (by simp))) upd_same (by omega) (by omega) (Int.ediv_nonneg ?_ (by omega))
            split <;> split <;> omega
          · repeat walk_at "rd"
            exact fin _ _ (pl + 1) r (Int.emod_nonneg _ (by omega)) (Int.emod_lt_of_pos _ hm0) k2 p2 (by omega) (by omega) h2
        · repeat walk_at "rd"
          exact fin _ _ (pl + 1) r (Int.emod_nonneg _ (by omega)) (Int.emod_lt_of_pos _ hm0) k2 p2 (by omega) (by omega) h2
      · repeat walk_at "rd"
        refine ite2 (fun hc3 => ?_) (fun hc3 => ?_)
        · repeat walk_at "rd"
          refine ite2 (fun hc4 => ?_) (fun hc4 => ?_)
          · have hc5 := of_decide_eq_true hc4
            repeat walk_at "rd"
            refine fin _ _ (pl + 1) _ (Int.emod_nonneg _ (by omega)) (Int.emod_lt_of_pos _ hm0) (k2.wr (.inr (by simp))) upd_same (by omega) (by omega) (Int.ediv_nonneg ?_ (by omega))
            split <;> split <;> omega
          · repeat walk_at "rd"
            exact fin _ _ (pl + 1) r (Int.emod_nonneg _ (by omega)) (Int.emod_lt_of_pos _ hm0) k2 p2 (by omega) (by omega) h2
        · repeat walk_at "rd"
          exact fin _ _ (pl + 1) r (Int.emod_nonneg _ (by omega)) (Int.emod_lt_of_pos _ hm0) k2 p2 (by omega) (by omega) h2
end

end Xtra


section
variable {P : Program} {w : World} {K : PySem.W.Frag} {mg : Str → Option Value} {base : Heap}

def spPen (K : PySem.W.Frag) : Sp := fun vs H Q _ => ∃ (a : Addr) (ns : List Int), vs = [.ref a] ∧ SqL K H a (ns.map V.int) ∧
  ∀ p c H', H p = none → H c = none → Kx [] H H' → PenAt H' p c 0 → Q (.ref p) H'
theorem ok_pen {f : Addr} {fd : FuncData} (F : Fun K "_law_source" "_law_source" sQSource f fd) (T : Txt mg) : FnOk P w K mg base CX0 1 f fd ["_law_script"] (spPen K) := by
  refine F.ok scQSource (fun vs H Q E h => ?_) (fun cdv A outer s H vs Q E hr h => ?_)
  · obtain ⟨a, ns, rfl, _⟩ := h
    rfl
  · obtain ⟨a, ns, rfl, ha, k⟩ := h
    refine ⟨_, (pss_one (ps_ret (pe_lst (pa_cons (pe_callTy call_list_of (by rfl) T.b_list boot'_list (pa_cons (pe_slice sl_list (pv 0) po_none (po_some pe_int)) pa_nil)) (pa_cons pe_int (pa_cons pe_int pa_nil)))))), ?_⟩
    refine x_start (σ' := [some (.ref a)]) rfl ?_
    try dsimp only [cxOf]
    repeat walk_at "rd"
    intro t nt
    rw [cut63, ← List.map_take]
    repeat walk_at "rd"
    intro c nc
    repeat walk_at "rd"
    rename_i p np
    have ntc : t ≠ c := ne_of_none upd_same nc
    have ncp : c ≠ p := ne_of_none upd_same np
    have nc0 : H c = none := by rwa [upd_ne ntc.symm] at nc
    have np0 : H p = none := by
      have e1 := np
      rw [upd_ne ncp.symm] at e1
      exact ((Kx.refl [] H).new nt).fresh (by simp) e1
    refine k p c _ np0 nc0 ((((Kx.refl [] H).new nt).new nc).new np) ⟨ns.take 63, 0, 0, upd_same, ?_, ?_, by omega, by omega, by omega⟩
    · rw [upd_ne ncp, upd_same]
    · rw [List.length_take]
      exact Nat.min_le_left _ _
theorem x_draw {H : Hp} {p c : Addr} {n : Nat} {m : Int} {Q : VK} {E : XK} (h : PenAt H p c n) (hn : n < 1000000) (h0 : 0 < m) (h1 : m < 1073741824)
    (q : ∀ d H', 0 ≤ d → d < m → Kx [p] H H' → PenAt H' p c (n + 1) → Q (.int d) H') : spDraw ([V.ref p, V.int m] ++ []) H Q E := ⟨p, c, n, m, rfl, h, hn, h0, h1, q⟩
theorem PenAt.up {H H' : Hp} {p c : Addr} {n m : Nat} (h : PenAt H p c n) (e1 : H' p = H p) (e2 : H' c = H c) (l : n ≤ m) : PenAt H' p c m := by
  obtain ⟨cs, pl, r, h1, h2, h3, h4, h5, h6⟩ := h
  exact ⟨cs, pl, r, e1.trans h1, e2.trans h2, h3, h4, by omega, h6⟩
theorem PenAt.keep {H H' : Hp} {S : List Addr} {p c : Addr} {n m : Nat} (h : PenAt H p c n) (k : Kx S H H') (hp : p ∉ S) (hc : c ∉ S) (l : n ≤ m) : PenAt H' p c m := by
  obtain ⟨cs, pl, r, h1, h2, h3, h4, h5, h6⟩ := h
  exact ⟨cs, pl, r, k _ _ hp h1, k _ _ hc h2, h3, h4, by omega, h6⟩
theorem PenAt.some {H : Hp} {p c : Addr} {n : Nat} (h : PenAt H p c n) : (∃ o, H p = some o) ∧ ∃ o, H c = some o := by
  obtain ⟨cs, pl, r, h1, h2, _⟩ := h
  exact ⟨⟨_, h1⟩, _, h2⟩
theorem penLst {H : Hp} {p c : Addr} {n : Nat} (h : PenAt H p c n) : ∃ xs, H p = some (.lst xs) := by
  obtain ⟨cs, pl, r, h1, h2, _⟩ := h
  exact ⟨_, h1⟩
/-- what is new, or a list that is new since H, may be written -/
theorem PenAt.upd {H : Hp} {p c q : Addr} {o : HO} {n m : Nat} (h : PenAt H p c n) (h1 : q ≠ p) (h2 : q ≠ c) (l : n ≤ m) : PenAt (upd H q o) p c m := h.up (upd_ne h1.symm) (upd_ne h2.symm) l
end


/-! ### limits that determine -/
def lcmL (caps : List Nat) : Nat := caps.foldl Nat.lcm 1
theorem lcm_le {a b : Nat} : Nat.lcm a b ≤ a * b := by
  unfold Nat.lcm
  exact Nat.div_le_self _ _
theorem foldl_lcm_le : ∀ (caps : List Nat) (m : Nat), (∀ z ∈ caps, z ≤ 2 ^ 100) → caps.foldl Nat.lcm m ≤ m * 2 ^ (100 * caps.length)
  | [], m, _ => by simp
  | z :: r, m, h => by
    have h1 := foldl_lcm_le r (Nat.lcm m z) fun y hy => h y (List.mem_cons_of_mem _ hy)
    have h2 : Nat.lcm m z ≤ m * 2 ^ 100 := Nat.le_trans lcm_le (Nat.mul_le_mul_left m (h z List.mem_cons_self))
    refine Nat.le_trans h1 (Nat.le_trans (Nat.mul_le_mul_right _ h2) ?_)
    rw [Nat.mul_assoc, ← Nat.pow_add, List.length_cons, Nat.mul_add, Nat.mul_one, Nat.add_comm]
    exact Nat.le_refl _
theorem lcmL_lt {caps : List Nat} (h : ∀ z ∈ caps, z ≤ 2 ^ 100) (hl : caps.length ≤ 50) : lcmL caps < 2 ^ 10000 := by
  have h1 := foldl_lcm_le caps 1 h
  rw [Nat.one_mul] at h1
  exact Nat.lt_of_le_of_lt h1 (Nat.pow_lt_pow_right (by decide) (by omega))
theorem lcmL_snoc (caps : List Nat) (z : Nat) : lcmL (caps ++ [z]) = Nat.lcm (lcmL caps) z := by
  unfold lcmL
  rw [List.foldl_append]
  rfl
theorem foldl_lcm_dvd {d : Nat} : ∀ (caps : List Nat) (m : Nat), caps.foldl Nat.lcm m ∣ d ↔ m ∣ d ∧ ∀ z ∈ caps, z ∣ d
  | [], m => by simp
  | z :: r, m => by
    rw [List.foldl_cons, foldl_lcm_dvd r]
    constructor
    · rintro ⟨h1, h2⟩
      refine ⟨Nat.dvd_trans (Nat.dvd_lcm_left m z) h1, fun y hy => ?_⟩
      rcases List.mem_cons.mp hy with rfl | hy
      · exact Nat.dvd_trans (Nat.dvd_lcm_right m _) h1
      · exact h2 y hy
    · rintro ⟨h1, h2⟩
      exact ⟨Nat.lcm_dvd h1 (h2 z List.mem_cons_self), fun y hy => h2 y (List.mem_cons_of_mem _ hy)⟩
theorem lcmL_dvd {caps : List Nat} {d : Nat} : lcmL caps ∣ d ↔ ∀ z ∈ caps, z ∣ d := by
  unfold lcmL
  rw [foldl_lcm_dvd]
  simp
def lmin : List Nat → Option Nat
  | [] => none
  | x :: r => match lmin r with
    | none => some x
    | some y => some (min x y)
theorem lmin_spec : ∀ {l : List Nat} {m : Nat}, lmin l = some m → m ∈ l ∧ ∀ b ∈ l, m ≤ b
  | x :: r, m, h => by
    unfold lmin at h
    cases e : lmin r with
    | none =>
      rw [e] at h
      cases Option.some.inj h
      cases r with
      | nil => simp
      | cons y s =>
        unfold lmin at e
        split at e <;> cases e
    | some y =>
      rw [e] at h
      cases Option.some.inj h
      obtain ⟨h1, h2⟩ := lmin_spec e
      refine ⟨?_, fun b hb => ?_⟩
      · rcases Nat.le_total x y with hxy | hxy
        · rw [Nat.min_eq_left hxy]; exact List.mem_cons_self
        · rw [Nat.min_eq_right hxy]; exact List.mem_cons_of_mem _ h1
      · rcases List.mem_cons.mp hb with rfl | hb
        · exact Nat.min_le_left _ _
        · exact Nat.le_trans (Nat.min_le_right _ _) (h2 b hb)
theorem lmin_none {l : List Nat} : lmin l = none ↔ l = [] := by
  cases l with
  | nil => simp [lmin]
  | cons x r =>
    unfold lmin
    split <;> simp
theorem lmin_of {l : List Nat} {m : Nat} (h : m ∈ l) (h2 : ∀ b ∈ l, m ≤ b) : lmin l = some m := by
  cases e : lmin l with
  | none =>
    rw [lmin_none] at e
    subst e
    cases h
  | some y =>
    obtain ⟨g1, g2⟩ := lmin_spec e
    rw [Nat.le_antisymm (g2 m h) (h2 y g1)]
def fitL (caps : List Nat) (d : Nat) : List Nat := caps.filter fun z => decide (¬ z ∣ d)
def decL (caps : List Nat) (k : Nat) : List (Option Nat) := (List.range k).map fun i => lmin (fitL caps (i + 1))
theorem decL_succ (caps : List Nat) (k : Nat) : (decL caps (k + 1)).map oV = (decL caps k).map oV ++ [oV (lmin (fitL caps (k + 1)))] := by
  unfold decL
  rw [List.range_succ, List.map_append, List.map_append]
  rfl
theorem decL_len (caps : List Nat) (k : Nat) : (decL caps k).length = k := by
  unfold decL
  rw [List.length_map, List.length_range]
def detB (caps : List Nat) (n : Nat) : Bool := decide (n < 3) || (decide (1 ∈ caps) && decide (n ≤ lcmL caps + 1))
theorem lcmL_pos {caps : List Nat} (h : ∀ z ∈ caps, 1 ≤ z) : 1 ≤ lcmL caps := by
  have : ∀ (caps : List Nat) (m : Nat), 1 ≤ m → (∀ z ∈ caps, 1 ≤ z) → 1 ≤ caps.foldl Nat.lcm m := by
    intro caps
    induction caps with
    | nil => intro m hm _; exact hm
    | cons z r ih =>
      intro m hm h
      exact ih _ (Nat.lcm_pos hm (h z List.mem_cons_self)) fun y hy => h y (List.mem_cons_of_mem _ hy)
  exact this caps 1 (Nat.le_refl _) h
theorem det_iff {caps : List Nat} (h : ∀ z ∈ caps, 1 ≤ z) {n : Nat} (hn : 3 ≤ n) : n ≤ lcmL caps + 1 ↔ none ∉ decL caps (n - 2) := by
  have hp := lcmL_pos h
  have hnone : ∀ d, lmin (fitL caps d) = none ↔ lcmL caps ∣ d := by
    intro d
    rw [lmin_none, lcmL_dvd]
    unfold fitL
    rw [List.filter_eq_nil_iff]
    simp
  unfold decL
  constructor
  · intro h1 h2
    obtain ⟨i, hi, e⟩ := List.mem_map.mp h2
    rw [hnone] at e
    have := Nat.le_of_dvd (Nat.succ_pos i) e
    have := List.mem_range.mp hi
    omega
  · intro h1
    refine Nat.le_of_not_lt fun h2 => h1 (List.mem_map.mpr ⟨lcmL caps - 1, List.mem_range.mpr (by omega), ?_⟩)
    rw [hnone, show lcmL caps - 1 + 1 = lcmL caps by omega]
    exact Nat.dvd_refl _
structure Caps (caps : List Nat) : Prop where
  ge : ∀ z ∈ caps, 1 ≤ z
  le : ∀ z ∈ caps, z ≤ 2 ^ 100
  len : caps.length ≤ 50

section
variable {P : Program} {w : World} {K : PySem.W.Frag} {mg : Str → Option Value} {base : Heap}

def spCM (K : PySem.W.Frag) : Sp := fun vs H Q _ => ∃ (a : Addr) (caps : List Nat), vs = [.ref a] ∧ SqL K H a (natV caps) ∧ Caps caps ∧ Q (.int (lcmL caps : Nat)) H
theorem ok_cm {f : Addr} {fd : FuncData} (F : Fun K "_common_multiple" "_common_multiple" sCommonMultiple f fd) (T : Txt mg) : FnOk P w K mg base CX0 1 f fd ["limits"] (spCM K) := by
  refine F.ok scCommonMultiple (fun vs H Q E h => ?_) (fun cdv A outer s H vs Q E hr h => ?_)
  · obtain ⟨a, caps, rfl, _⟩ := h
    rfl
  · obtain ⟨a, caps, rfl, ha, hc, k⟩ := h
    refine ⟨_, (pss_cons (ps_set (i := 1) scCommonMultiple.nd rfl (Or.inl rfl) pe_int)
      (pss_cons (ps_for PassesOwn.never rfl (pi_list (pv 0)) (pg_name (i := 2) scCommonMultiple.nd rfl (Or.inl rfl))
      (pss_one (ps_set (i := 1) scCommonMultiple.nd rfl (Or.inl rfl) (pe_callBfun cr_lcm (by rfl) T.g_lcm (pa_cons (pv 1) (pa_cons (pv 2) pa_nil))))))
      (pss_one (ps_ret (pv 1))))), ?_⟩
    refine x_start (σ' := [some (.ref a), none, none]) rfl ?_
    try dsimp only [cxOf]
    have hlt : ∀ i, lcmL (caps.take i) < 2 ^ 10000 := fun i => lcmL_lt (fun z hz => hc.le z (List.mem_of_mem_take hz)) (Nat.le_trans (List.length_take_le' _ _) hc.len)
    repeat walk_at "rd"
    refine y_forL (xs := natV caps) ha ⟨fun i σ H1 => ∃ y2 : Option V, σ = [some (.ref a), some (.int (lcmL (caps.take i) : Nat)), y2] ∧ H1 = H, ⟨none, rfl, rfl⟩, ?_, ?_, ?_⟩
    · rintro i σ H1 hi ⟨y2, rfl, rfl⟩
      exact ha
    · rintro i x σ H1 H1' hi ⟨y2, rfl, rfl⟩ ⟨rfl, hx⟩
      rw [natV_len] at hi
      have hx2 : (natV caps)[i]? = some x := hx
      have hci := List.getElem?_eq_getElem hi
      rw [natV_get hci] at hx2
      cases Option.some.inj hx2
      have ht : caps.take (i + 1) = caps.take i ++ [caps[i]] := by rw [List.take_add_one, hci]; rfl
      have hz := hc.le _ (List.getElem_mem hi)
      have h1 := hlt i
      have h2 := hlt (i + 1)
      rw [ht, lcmL_snoc] at h2
      have e3 : lcmL (caps.take (i + 1)) = Nat.lcm (lcmL (caps.take i)) caps[i] := by rw [ht, lcmL_snoc]
      generalize caps[i] = z at *
      generalize lcmL (caps.take i) = m at *
      repeat walk_at "rd"
      refine ⟨m, z, rfl, by rw [Int.natAbs_natCast]; exact h1, by rw [Int.natAbs_natCast]; exact Nat.lt_of_le_of_lt hz (Nat.pow_lt_pow_right (by decide) (by decide)), by rw [Int.natAbs_natCast, Int.natAbs_natCast]; exact Nat.lt_trans h2 (Nat.pow_lt_pow_right (by decide) (by decide)), ?_⟩
      repeat walk_at "rd"
      refine ⟨_, by rw [e3, Int.natAbs_natCast, Int.natAbs_natCast], ?_⟩
      first | rfl | trivial
    · rintro σ H1 ⟨y2, rfl, rfl⟩
      rw [natV_len, List.take_length]
      repeat walk_at "rd"
      exact k
def spDet (K : PySem.W.Frag) : Sp := fun vs H Q _ => ∃ (a : Addr) (caps : List Nat) (n : Nat), vs = [.ref a, .int n] ∧ SqL K H a (natV caps) ∧ Caps caps ∧ n ≤ 1000 ∧ Q (.bl (detB caps n)) H
theorem ok_det {f : Addr} {fd : FuncData} (F : Fun K "determines" "determines" sDetermines f fd) (T : Txt mg) (l_common_multiple : Lo P w K mg base "_common_multiple" 1 ["limits"] (spCM K)) : FnOk P w K mg base CX0 2 f fd ["limits", "size"] (spDet K) := by
  refine F.ok scDetermines (fun vs H Q E h => ?_) (fun cdv A outer s H vs Q E hr h => ?_)
  · obtain ⟨a, caps, n, rfl, _⟩ := h
    rfl
  · obtain ⟨a, caps, n, rfl, ha, hc, hn, k⟩ := h
    refine ⟨_, (pss_one (ps_ret (pe_or (pe_cmpR op_lt (pv 1) pe_int (nomark _)) (pe_one (pe_and (pe_cmpR op_in_seq pe_int (pv 0) (by with_unfolding_all rfl)) (pe_one (pe_cmpR op_ge (pe_lo l_common_multiple (hr.mono (by decide)) (by rfl) (pa_cons (pv 0) pa_nil)) (pe_op op_sub (pv 1) pe_int) (nomark _)))))))), ?_⟩
    refine x_start (σ' := [some (.ref a), some (.int n)]) rfl ?_
    try dsimp only [cxOf]
    repeat walk_at "rd"
    by_cases h3 : n < 3
    · refine iteP (decide_eq_true (by omega)) ?_
      have e : detB caps n = true := by unfold detB; rw [decide_eq_true h3]; rfl
      rw [e] at k
      exact k
    · refine iteN (decide_eq_false (by omega)) ?_
      repeat walk_at "rd"
      refine x_inL ha rfl (flat_nats _) ?_
      rw [show inV (V.int 1) (natV caps) = decide (1 ∈ caps) from in_nat (n := 1) caps]
      repeat walk_at "rd"
      have e : detB caps n = (decide (1 ∈ caps) && decide (n ≤ lcmL caps + 1)) := by unfold detB; rw [decide_eq_false h3]; rfl
      rw [e] at k
      by_cases h1 : 1 ∈ caps
      · rw [decide_eq_true h1] at k ⊢
        refine iteP rfl ?_
        repeat walk_at "rd"
        refine ⟨a, caps, rfl, ha, hc, ?_⟩
        repeat walk_at "rd"
        have e2 : decide ((n : Int) - 1 ≤ (lcmL caps : Int)) = decide (n ≤ lcmL caps + 1) := by
          by_cases h : n ≤ lcmL caps + 1
          · rw [decide_eq_true h, decide_eq_true (by omega)]
          · rw [decide_eq_false h, decide_eq_false (by omega)]
        rw [e2]
        simpa using k
      · rw [decide_eq_false h1] at k ⊢
        refine iteN rfl ?_
        exact k
end


section
variable {P : Program} {w : World} {K : PySem.W.Frag} {mg : Str → Option Value} {base : Heap}

def spCMT (K : PySem.W.Frag) : Sp := fun vs H Q _ => ∃ (a : Addr) (caps : List Nat), vs = [.ref a] ∧ SqT K H a (natV caps) ∧ Caps caps ∧ Q (.int (lcmL caps : Nat)) H
theorem ok_cmT {f : Addr} {fd : FuncData} (F : Fun K "_common_multiple" "_common_multiple" sCommonMultiple f fd) (T : Txt mg) : FnOk P w K mg base CX0 1 f fd ["limits"] (spCMT K) := by
  refine F.ok scCommonMultiple (fun vs H Q E h => ?_) (fun cdv A outer s H vs Q E hr h => ?_)
  · obtain ⟨a, caps, rfl, _⟩ := h
    rfl
  · obtain ⟨a, caps, rfl, ha, hc, k⟩ := h
    refine ⟨_, (pss_cons (ps_set (i := 1) scCommonMultiple.nd rfl (Or.inl rfl) pe_int)
      (pss_cons (ps_for PassesOwn.never rfl (pi_tup (pv 0)) (pg_name (i := 2) scCommonMultiple.nd rfl (Or.inl rfl))
      (pss_one (ps_set (i := 1) scCommonMultiple.nd rfl (Or.inl rfl) (pe_callBfun cr_lcm (by rfl) T.g_lcm (pa_cons (pv 1) (pa_cons (pv 2) pa_nil))))))
      (pss_one (ps_ret (pv 1))))), ?_⟩
    refine x_start (σ' := [some (.ref a), none, none]) rfl ?_
    try dsimp only [cxOf]
    have hlt : ∀ i, lcmL (caps.take i) < 2 ^ 10000 := fun i => lcmL_lt (fun z hz => hc.le z (List.mem_of_mem_take hz)) (Nat.le_trans (List.length_take_le' _ _) hc.len)
    repeat walk_at "rd"
    refine y_forT (xs := natV caps) ha ⟨fun i σ H1 => ∃ y2 : Option V, σ = [some (.ref a), some (.int (lcmL (caps.take i) : Nat)), y2] ∧ H1 = H, ⟨none, rfl, rfl⟩, ?_, ?_, ?_⟩
    · rintro i σ H1 hi ⟨y2, rfl, rfl⟩
      exact ha
    · rintro i x σ H1 H1' hi ⟨y2, rfl, rfl⟩ ⟨rfl, hx⟩
      rw [natV_len] at hi
      have hx2 : (natV caps)[i]? = some x := hx
      have hci := List.getElem?_eq_getElem hi
      rw [natV_get hci] at hx2
      cases Option.some.inj hx2
      have ht : caps.take (i + 1) = caps.take i ++ [caps[i]] := by rw [List.take_add_one, hci]; rfl
      have hz := hc.le _ (List.getElem_mem hi)
      have h1 := hlt i
      have h2 := hlt (i + 1)
      rw [ht, lcmL_snoc] at h2
      have e3 : lcmL (caps.take (i + 1)) = Nat.lcm (lcmL (caps.take i)) caps[i] := by rw [ht, lcmL_snoc]
      generalize caps[i] = z at *
      generalize lcmL (caps.take i) = m at *
      repeat walk_at "rd"
      refine ⟨m, z, rfl, by rw [Int.natAbs_natCast]; exact h1, by rw [Int.natAbs_natCast]; exact Nat.lt_of_le_of_lt hz (Nat.pow_lt_pow_right (by decide) (by decide)), by rw [Int.natAbs_natCast, Int.natAbs_natCast]; exact Nat.lt_trans h2 (Nat.pow_lt_pow_right (by decide) (by decide)), ?_⟩
      repeat walk_at "rd"
      refine ⟨_, by rw [e3, Int.natAbs_natCast, Int.natAbs_natCast], ?_⟩
      first | rfl | trivial
    · rintro σ H1 ⟨y2, rfl, rfl⟩
      rw [natV_len, List.take_length]
      repeat walk_at "rd"
      exact k
def spDetT (K : PySem.W.Frag) : Sp := fun vs H Q _ => ∃ (a : Addr) (caps : List Nat) (n : Nat), vs = [.ref a, .int n] ∧ SqT K H a (natV caps) ∧ Caps caps ∧ n ≤ 1000 ∧ Q (.bl (detB caps n)) H
theorem ok_detT {f : Addr} {fd : FuncData} (F : Fun K "determines" "determines" sDetermines f fd) (T : Txt mg) (l_common_multiple : Lo P w K mg base "_common_multiple" 1 ["limits"] (spCMT K)) : FnOk P w K mg base CX0 2 f fd ["limits", "size"] (spDetT K) := by
  refine F.ok scDetermines (fun vs H Q E h => ?_) (fun cdv A outer s H vs Q E hr h => ?_)
  · obtain ⟨a, caps, n, rfl, _⟩ := h
    rfl
  · obtain ⟨a, caps, n, rfl, ha, hc, hn, k⟩ := h
    refine ⟨_, (pss_one (ps_ret (pe_or (pe_cmpR op_lt (pv 1) pe_int (nomark _)) (pe_one (pe_and (pe_cmpR op_in_seq pe_int (pv 0) (by with_unfolding_all rfl)) (pe_one (pe_cmpR op_ge (pe_lo l_common_multiple (hr.mono (by decide)) (by rfl) (pa_cons (pv 0) pa_nil)) (pe_op op_sub (pv 1) pe_int) (nomark _)))))))), ?_⟩
    refine x_start (σ' := [some (.ref a), some (.int n)]) rfl ?_
    try dsimp only [cxOf]
    repeat walk_at "rd"
    by_cases h3 : n < 3
    · refine iteP (decide_eq_true (by omega)) ?_
      have e : detB caps n = true := by unfold detB; rw [decide_eq_true h3]; rfl
      rw [e] at k
      exact k
    · refine iteN (decide_eq_false (by omega)) ?_
      repeat walk_at "rd"
      refine x_inT ha rfl (flat_nats _) ?_
      rw [show inV (V.int 1) (natV caps) = decide (1 ∈ caps) from in_nat (n := 1) caps]
      repeat walk_at "rd"
      have e : detB caps n = (decide (1 ∈ caps) && decide (n ≤ lcmL caps + 1)) := by unfold detB; rw [decide_eq_false h3]; rfl
      rw [e] at k
      by_cases h1 : 1 ∈ caps
      · rw [decide_eq_true h1] at k ⊢
        refine iteP rfl ?_
        repeat walk_at "rd"
        refine ⟨a, caps, rfl, ha, hc, ?_⟩
        repeat walk_at "rd"
        have e2 : decide ((n : Int) - 1 ≤ (lcmL caps : Int)) = decide (n ≤ lcmL caps + 1) := by
          by_cases h : n ≤ lcmL caps + 1
          · rw [decide_eq_true h, decide_eq_true (by omega)]
          · rw [decide_eq_false h, decide_eq_false (by omega)]
        rw [e2]
        simpa using k
      · rw [decide_eq_false h1] at k ⊢
        refine iteN rfl ?_
        exact k
end


theorem y_lcR2 {σ : SS} {H : Hp} {Q : VK} {g : TG} {tt : TT} {te : TE} {vs : List Nat} {i j : Int} (h0 : -1000000 < i) (h1 : i < 1000000) (h2 : -1000000 < j) (h3 : j < 1000000) (q : AskC (j - i).toNat (fun _ => True) (YFn fun k => .int (i + k)) g tt te vs σ H Q) : (-(2 ^ 62) ≤ i ∧ i < 2 ^ 62 ∧ -(2 ^ 62) ≤ j ∧ j < 2 ^ 62) ∧ WC (Itr i (j - i).toNat) g tt te vs σ H Q :=
  ⟨⟨by omega, by omega, by omega, by omega⟩, askC walk_range q⟩
theorem mod_pos {d z : Nat} (hz : 1 ≤ z) : decide (0 < (d : Int) % (z : Int)) = decide (¬ z ∣ d) := by
  have e : (d : Int) % (z : Int) = ((d % z : Nat) : Int) := (Int.natCast_emod d z).symm
  rw [e]
  by_cases h : z ∣ d
  · rw [decide_eq_false (not_not_intro h), Nat.mod_eq_zero_of_dvd h]
    rfl
  · rw [decide_eq_true h]
    have : d % z ≠ 0 := fun q => h (Nat.dvd_of_mod_eq_zero q)
    exact decide_eq_true (by omega)
theorem div_ne {d z : Nat} (hz : 1 ≤ z) : (!decide (V.int ((d : Int) / (z : Int) * (z : Int)) = V.int (d : Int))) = decide (¬ z ∣ d) := by
  have e : (d : Int) / (z : Int) * (z : Int) = ((d / z * z : Nat) : Int) := by
    rw [Int.natCast_mul, Int.natCast_ediv]
  rw [e]
  by_cases h : z ∣ d
  · rw [decide_eq_false (not_not_intro h), Nat.div_mul_cancel h]
    simp
  · rw [decide_eq_true h]
    have hne : d / z * z ≠ d := fun q => h ⟨d / z, by rw [Nat.mul_comm]; exact q.symm⟩
    have : V.int ((d / z * z : Nat) : Int) ≠ V.int (d : Int) := fun q => by
      injection q with q
      omega
    rw [decide_eq_false this]
    rfl
theorem fit_succ (caps : List Nat) (d j : Nat) {z : Nat} (h : caps[j]? = some z) : fitL (caps.take (j + 1)) d = fitL (caps.take j) d ++ (if z ∣ d then [] else [z]) := by
  unfold fitL
  rw [List.take_add_one, h, List.filter_append]
  by_cases e : z ∣ d
  · simp [List.filter, e]
  · simp [List.filter, e]
theorem fit_len (caps : List Nat) (d j : Nat) : (fitL (caps.take j) d).length ≤ caps.length := by
  unfold fitL
  exact Nat.le_trans (List.length_filter_le _ _) (List.length_take_le' _ _)
theorem min_of {l : List Nat} {m : Int} (h : m ∈ l.map fun (n : Nat) => (n : Int)) (h2 : ∀ b ∈ l.map fun (n : Nat) => (n : Int), m ≤ b) : V.int m = oV (lmin l) := by
  obtain ⟨x, hx, rfl⟩ := List.mem_map.mp h
  rw [lmin_of hx fun b hb => by
    have := h2 (b : Int) (List.mem_map.mpr ⟨b, hb, rfl⟩)
    omega]
  rfl
theorem small10k {n : Nat} (h : n < 10000) : n < sizeLine := Nat.lt_of_lt_of_le h (by decide)
section
variable {P : Program} {w : World} {K : PySem.W.Frag} {mg : Str → Option Value} {base : Heap}

def spDecl (K : PySem.W.Frag) : Sp := fun vs H Q _ => ∃ (a : Addr) (caps : List Nat) (n : Nat), vs = [.ref a, .int n] ∧ SqL K H a (natV caps) ∧ Caps caps ∧ n ≤ 1000 ∧
  ∀ p H', H p = none → Kx [] H H' → H' p = some (.tup ((decL caps (n - 2)).map oV)) → Q (.ref p) H'
theorem ok_decl {f : Addr} {fd : FuncData} (F : Fun K "deciding_limits" "deciding_limits" sDecidingLimits f fd) (T : Txt mg) : FnOk P w K mg base CX0 1 f fd ["limits", "size"] (spDecl K) := by
  refine F.ok scDecidingLimits (fun vs H Q E h => ?_) (fun cdv A outer s H vs Q E hr h => ?_)
  · obtain ⟨a, caps, n, rfl, _⟩ := h
    rfl
  · obtain ⟨a, caps, n, rfl, ha, hc, hn, k⟩ := h
    refine ⟨_, (pss_one (ps_ret (pe_callTy call_tuple_of (by rfl) T.b_tuple boot'_tuple (pa_cons (pe_lc (own := [("depth", 2)]) rfl scDecidingLimits.nd (pi_range2 (by rfl) T.b_range (pa_cons pe_int (pa_cons (pe_op op_sub (pv 1) pe_int) pa_nil))) (blkOk_by (N := ["limits", "size", "depth", "limit"]) (sc := defScope sDecidingLimits) (by decide +kernel)) (fun _ _ _ _ _ => (pg_name (i := 2) scDecidingLimits.nd rfl (Or.inr rfl))) (fun _ _ _ _ _ => pts_nil) (fun _ _ _ _ _ => (pe_callBK (cr_minDK (K := K) rfl) (by rfl) T.b_min boot'_min (pa_cons (pe_lc (own := [("limit", 3)]) rfl scDecidingLimits.nd (pi_listK (K := K) (pv 0)) (blkOk_byN (N := ["limits", "size", "depth", "limit"]) (by show blkC _ (relabel' _ (defScope sDecidingLimits)) _ _ = true; decide +kernel)) (fun _ _ _ _ _ => (pg_name (i := 3) scDecidingLimits.nd rfl (Or.inl rfl))) (fun _ _ _ _ _ => (pts_one (pt_cmpR op_gt (pe_op op_mod (pv 2) (pv 3)) pe_int (nomark _)))) (fun _ _ _ _ _ => (pv 3))) pa_nil) (pk_cons pe_non pk_nil)))) pa_nil)))), ?_⟩
    refine x_start (σ' := [some (.ref a), some (.int n), none, none]) rfl ?_
    try dsimp only [cxOf]
    repeat walk_at "rd"
    have hlenf : ∀ d j, (natV (fitL (caps.take j) d)).length < sizeLine := fun d j => small1000 (by rw [natV_len]; have := fit_len caps d j; have := hc.len; omega)
    refine y_lcR2 (by omega) (by omega) (by omega) (by omega) (fun Z nZ => ⟨fun i H1 => Kx [] H H1 ∧ H1 Z = some (.lst ((decL caps i).map oV)), ⟨(Kx.refl [] H).new nZ, upd_same⟩, fun _ _ _ _ => trivial, ?_, ?_⟩)
    · rintro i x H1 H1' hi ⟨k1, eZ⟩ ⟨rfl, hx⟩
      have hi2 : i < 1000 := by omega
      have hx' : x = V.int ((i + 1 : Nat) : Int) := by
        rw [hx]
        show V.int (1 + (i : Int)) = _
        congr 1
        omega
      subst hx'
      repeat walk_at "rd"
      refine ⟨rfl, ?_⟩
      repeat walk_at "rd"
      refine y_lcL (xs := natV caps) (k1.sqL (by simp) ha) (fun Y nY => ⟨fun j H2 => Kx [] H1' H2 ∧ H2 Y = some (.lst (natV (fitL (caps.take j) (i + 1)))), ⟨(Kx.refl [] H1').new nY, upd_same⟩, ?_, ?_, ?_⟩)
      · rintro j H2 hj ⟨k2, _⟩
        exact (k1.trans k2).sqL (by simp) ha
      · rintro j x H2 H2' hj ⟨k2, eY⟩ ⟨rfl, hx⟩
        rw [natV_len] at hj
        have hx2 : (natV caps)[j]? = some x := hx
        have hcj := List.getElem?_eq_getElem hj
        rw [natV_get hcj] at hx2
        cases Option.some.inj hx2
        have hz1 := hc.ge _ (List.getElem_mem hj)
        have es := fit_succ caps (i + 1) j hcj
        have hzl := hlenf (i + 1) j
        generalize caps[j] = z at *
        repeat walk_at "rd"
        refine ⟨rfl, ?_⟩
        repeat walk_at "rd"
        rw [mod_pos hz1]
        by_cases hd : z ∣ i + 1
        · rw [if_pos hd, List.append_nil] at es
          refine iteN (decide_eq_false (not_not_intro hd)) ⟨k2, ?_⟩
          rw [es]
          exact eY
        · rw [if_neg hd] at es
          refine iteP (decide_eq_true hd) ?_
          repeat walk_at "rd"
          refine ⟨_, eY, hzl, k2.wr (.inl nY), ?_⟩
          rw [upd_same, es]
          unfold natV
          rw [List.map_append]
          rfl
      · rintro H2 ⟨k2, eY⟩
        rw [natV_len, List.take_length] at eY
        have eZ2 := k2 Z _ (by simp) eZ
        have hzZ : ((decL caps i).map oV).length < sizeLine := small10k (by rw [List.length_map, decL_len]; omega)
        have nZ0 : H Z = none := nZ
        have eY' : H2 Y = some (.lst (((fitL caps (i + 1)).map fun (n : Nat) => (n : Int)).map V.int)) := by rw [eY, natV_int]
        repeat walk_at "rd"
        refine x_minD (SqL.of eY') (fun hnil => ?_) fun m hm hm2 => ?_
        · have hn : fitL caps (i + 1) = [] := List.map_eq_nil_iff.mp hnil
          refine ⟨_, eZ2, hzZ, (k1.trans k2).wr (.inl nZ0), ?_⟩
          rw [upd_same, decL_succ, hn]
          rfl
        · refine ⟨_, eZ2, hzZ, (k1.trans k2).wr (.inl nZ0), ?_⟩
          rw [upd_same, decL_succ, min_of hm hm2]
    · rintro H1 ⟨k1, eZ⟩
      have en : ((n : Int) - 1 - 1).toNat = n - 2 := by omega
      rw [en] at eZ
      repeat walk_at "rd"
      intro p np
      exact k p _ (k1.fresh (by simp) np) (k1.new np) upd_same
def spNeed : Sp := fun vs H Q _ => ∃ (n : Nat), vs = [.int n] ∧ n ≤ 40 ∧
  ∀ (b : Nat) H', Kx [] H H' → 1 ≤ b → b ≤ 50 → detB ((List.range b).map (· + 1)) n = true → (∀ b', 1 ≤ b' → b' < b → detB ((List.range b').map (· + 1)) n = false) → Q (.int b) H'
theorem caps_up {b : Nat} (h : b ≤ 50) : Caps ((List.range b).map (· + 1)) := by
  refine ⟨fun z hz => ?_, fun z hz => ?_, by rw [List.length_map, List.length_range]; exact h⟩
  · obtain ⟨i, _, rfl⟩ := List.mem_map.mp hz
    exact Nat.succ_le_succ (Nat.zero_le i)
  · obtain ⟨i, hi, rfl⟩ := List.mem_map.mp hz
    have := List.mem_range.mp hi
    exact Nat.le_trans (show i + 1 ≤ 50 by omega) (by decide)
theorem rg_up (b : Nat) : rgV 1 ((b : Int) + 1) = natV ((List.range b).map (· + 1)) := by
  unfold rgV natV
  rw [List.map_map, show ((b : Int) + 1 - 1).toNat = b by omega]
  refine List.map_congr_left fun i _ => ?_
  show V.int (1 + (i : Int)) = V.int ((i + 1 : Nat) : Int)
  congr 1
  omega
theorem det_big {b n : Nat} (h : n ≤ b) (hb : 1 ≤ b) : detB ((List.range b).map (· + 1)) n = true := by
  have hm : ∀ z, 1 ≤ z → z ≤ b → z ∈ (List.range b).map (· + 1) := fun z h1 h2 => List.mem_map.mpr ⟨z - 1, List.mem_range.mpr (by omega), by show z - 1 + 1 = z; omega⟩
  unfold detB
  rw [decide_eq_true (hm 1 (Nat.le_refl _) hb), Bool.true_and]
  have hd : b ∣ lcmL ((List.range b).map (· + 1)) := (lcmL_dvd.mp (Nat.dvd_refl _)) b (hm b hb (Nat.le_refl _))
  have hp : 1 ≤ lcmL ((List.range b).map (· + 1)) := lcmL_pos fun z hz => by
    obtain ⟨i, _, rfl⟩ := List.mem_map.mp hz
    exact Nat.succ_le_succ (Nat.zero_le i)
  have := Nat.le_of_dvd hp hd
  rw [decide_eq_true (show n ≤ lcmL ((List.range b).map (· + 1)) + 1 by omega), Bool.or_true]
theorem ok_need {f : Addr} {fd : FuncData} (F : Fun K "needed_bound" "needed_bound" sNeededBound f fd) (T : Txt mg) (x_determines : Lkx P w K mg base "determines" 2 ["limits", "size"] ["size"] (gApp 1 1) (spDet K)) : FnOk P w K mg base CX0 3 f fd ["size"] spNeed := by
  refine F.ok scNeededBound (fun vs H Q E h => ?_) (fun cdv A outer s H vs Q E hr h => ?_)
  · obtain ⟨n, rfl, _⟩ := h
    rfl
  · obtain ⟨n, rfl, hn, k⟩ := h
    refine ⟨_, (pss_cons (ps_set (i := 1) scNeededBound.nd rfl (Or.inl rfl) pe_int)
      (pss_cons (ps_while PassesOwn.never (pt_not (pt_val (pe_lkx x_determines (hr.mono (by decide)) (by rfl) (pa_cons (pe_listRg rfl (by rfl) T.b_list (prg_2 (by rfl) T.b_range pe_int (pe_op op_add (pv 1) pe_int))) pa_nil) (pk_cons (pv 0) pk_nil))))
      (pss_one (ps_aug (i := 1) scNeededBound.nd rfl (Or.inl rfl) pe_int ip_add)))
      (pss_one (ps_ret (pv 1))))), ?_⟩
    refine x_start (σ' := [some (.int n), none]) rfl ?_
    try dsimp only [cxOf]
    repeat walk_at "rd"
    refine ⟨fun m σ H1 => ∃ b : Nat, σ = [some (.int n), some (.int b)] ∧ Kx [] H H1 ∧ 1 ≤ b ∧ b ≤ 41 ∧ m = 60 - b ∧ ∀ b', 1 ≤ b' → b' < b → detB ((List.range b').map (· + 1)) n = false, ⟨_, 1, rfl, Kx.refl _ _, Nat.le_refl _, by decide, rfl, fun b' h1 h2 => absurd h1 (by omega)⟩, ?_⟩
    rintro m σ H1 ⟨b, rfl, k1, hb1, hb2, rfl, hmin⟩
    repeat walk_at "rd"
    refine ⟨RgOk.of_le (by omega) (by omega) (by omega) (by omega), fun L nL => ?_⟩
    rw [rg_up]
    repeat walk_at "rd"
    refine ⟨L, _, n, rfl, SqL.of upd_same, caps_up (by omega), by omega, ?_⟩
    repeat walk_at "rd"
    cases hd : detB ((List.range b).map (· + 1)) n with
    | true =>
      refine iteN rfl ?_
      repeat walk_at "rd"
      exact k b _ (k1.new nL) hb1 (by omega) hd hmin
    | false =>
      have hlt : b < n := Nat.lt_of_not_le fun h => by
        rw [det_big h hb1] at hd
        cases hd
      refine iteP rfl (x_turn ?_)
      repeat walk_at "rd"
      refine ⟨_, ?_, b + 1, rfl, k1.new nL, by omega, by omega, rfl, fun b' h1 h2 => ?_⟩
      · omega
      · by_cases e : b' = b
        · rw [e]; exact hd
        · exact hmin b' h1 (by omega)
end


structure GoodB (d : PyData) (dep w : Nat) : Prop where
  sh : d.showable = true
  nd : d.hasDict = false
  dp : d.depth ≤ dep
  sl : d.leavesShort 40 = true
  wt : d.weight ≤ w
theorem GoodB.none : GoodB .none 0 110 := ⟨rfl, rfl, Nat.le_refl _, rfl, Nat.zero_le _⟩
theorem GoodB.nat {n : Nat} (h : n ≤ 10 ^ 30) : GoodB (.int (n : Int)) 0 110 := by
  have h1 : (n : Int).natAbs < 10 ^ 31 := by
    rw [Int.natAbs_natCast]
    exact Nat.lt_of_le_of_lt h (by decide)
  have hl : (n : Int).natAbs.log2 < 104 := PySem.Flt.log2_lt_of (by decide) (Nat.lt_of_lt_of_le h1 (by decide))
  refine ⟨?_, rfl, Nat.le_refl _, ?_, ?_⟩
  · simp only [PyData.showable, decide_eq_true_eq]
    omega
  · simp only [PyData.leavesShort, PyData.shown]
    have := int_text_length_le10 (k := 31) (by decide) h1
    refine decide_eq_true ?_
    show (Str.ofString (toString (n : Int))).length ≤ 40
    rw [PySem.ofString_length]
    omega
  · simp only [PyData.weight]
    split <;> omega
theorem goodB_all {k w : Nat} : ∀ {ds : List PyData}, (∀ d ∈ ds, GoodB d k w) → PyData.showableAll ds = true ∧ PyData.hasDictAll ds = false ∧ PyData.depthAll ds ≤ k ∧ PyData.leavesShortAll 40 ds = true ∧ PyData.weightAll ds ≤ ds.length * (w + 1)
  | [], _ => ⟨rfl, rfl, Nat.zero_le _, rfl, Nat.zero_le _⟩
  | d :: ds, h => by
    obtain ⟨a1, a2, a3, a4, a5⟩ := goodB_all (ds := ds) fun x hx => h x (List.mem_cons_of_mem _ hx)
    have g := h d List.mem_cons_self
    refine ⟨?_, ?_, ?_, ?_, ?_⟩
    · simp only [PyData.showableAll, g.sh, a1, Bool.and_self]
    · simp only [PyData.hasDictAll, g.nd, a2, Bool.or_self]
    · simp only [PyData.depthAll]
      exact Nat.max_le.mpr ⟨g.dp, a3⟩
    · simp only [PyData.leavesShortAll, g.sl, a4, Bool.and_self]
    · simp only [PyData.weightAll, List.length_cons, Nat.add_mul]
      have := g.wt
      omega
theorem GoodB.list {ds : List PyData} {k w n : Nat} (h : ∀ d ∈ ds, GoodB d k w) (hn : ds.length ≤ n) : GoodB (.list ds) (k + 1) (n * (w + 1)) := by
  obtain ⟨a1, a2, a3, a4, a5⟩ := goodB_all h
  exact ⟨by simpa only [PyData.showable] using a1, by simpa only [PyData.hasDict] using a2, by simp only [PyData.depth]; omega, by simpa only [PyData.leavesShort] using a4, by simp only [PyData.weight]; exact Nat.le_trans a5 (Nat.mul_le_mul_right _ hn)⟩
theorem GoodB.tuple {ds : List PyData} {k w n : Nat} (h : ∀ d ∈ ds, GoodB d k w) (hn : ds.length ≤ n) : GoodB (.tuple ds) (k + 1) (n * (w + 1)) := by
  obtain ⟨a1, a2, a3, a4, a5⟩ := goodB_all h
  exact ⟨by simpa only [PyData.showable] using a1, by simpa only [PyData.hasDict] using a2, by simp only [PyData.depth]; omega, by simpa only [PyData.leavesShort] using a4, by simp only [PyData.weight]; exact Nat.le_trans a5 (Nat.mul_le_mul_right _ hn)⟩
theorem x_reprW {K : PySem.W.Frag} {H : Hp} {Q : VK} {a : Addr} {d : PyData} {k w : Nat} (h : Dp K H (.ref a) d) (g : GoodB d k w) (hk : k ≤ 60) (hw : w ≤ 100000) (q : Q (.str d.shown) H) : rRepr K [.ref a] H Q :=
  ⟨a, d, rfl, h, g.sh, g.nd, Nat.le_trans g.dp hk, Nat.le_trans (PyData.shown_le 40 (by decide) d g.sl) (Nat.le_trans (show (40 + 2) * d.weight + 40 ≤ 42 * 100000 + 40 by have := g.wt; omega) (by decide)), q⟩
def boolS (b : Bool) : Str := if b then "True" else "False"
section
variable {X : Cx}
def rReprB : List V → Hp → VK → Prop := fun xs H Q => ∃ b, xs = [.bl b] ∧ Q (.str (boolS b)) H
theorem call_reprB : CallR X (.builtin "repr") rReprB := by
  intro pins s σ H xs us Q I r h
  obtain ⟨b, rfl, q⟩ := h
  obtain ⟨u, rfl, ru⟩ := vals1 r
  obtain rfl : u = Value.bool b := ru
  exact PySem.P.repr_of_bool ⟨.str (boolS b), H, I.tok _, ⟨_, rfl⟩, q⟩
end
theorem x_reprB {H : Hp} {Q : VK} {b : Bool} (q : Q (.str (boolS b)) H) : rReprB [.bl b] H Q := ⟨b, rfl, q⟩
theorem x_isBl {H : Hp} {Q : VK} {a b : Bool} (q : Q (.bl (decide (a = b))) H) : rIsB (.bl a) (.bl b) H Q := ⟨a, b, rfl, rfl, q⟩
theorem in_none : ∀ l : List (Option Nat), inV .non (l.map oV) = decide (none ∈ l)
  | [] => rfl
  | none :: r => by
    have : decide ((none : Option Nat) ∈ none :: r) = true := decide_eq_true List.mem_cons_self
    rw [this]
    rfl
  | some n :: r => by
    have ih := in_none r
    unfold inV at ih ⊢
    rw [List.map_cons, List.any_cons, ih]
    have : decide ((none : Option Nat) ∈ some n :: r) = decide ((none : Option Nat) ∈ r) := by simp
    rw [this]
    rfl
theorem flat_os : ∀ l : List (Option Nat), (l.map oV).all flatV = true
  | [] => rfl
  | none :: r => flat_os r
  | some _ :: r => flat_os r
theorem x_notInT {K : PySem.W.Frag} {H : Hp} {Q : VK} {a : Addr} {xs : List V} {x : V} (h : SqT K H a xs) (f : flatV x = true) (fs : xs.all flatV = true) (q : Q (.bl (!inV x xs)) H) : rIn K true x (.ref a) H Q := ⟨a, xs, rfl, .inr h, f, fs, q⟩
/-- limits as they are drawn -/
structure Lims (caps : List Nat) : Prop where
  ge : ∀ z ∈ caps, 1 ≤ z
  le : ∀ z ∈ caps, z ≤ 10 ^ 30
  len : caps.length ≤ 50
theorem Lims.caps {caps : List Nat} (h : Lims caps) : Caps caps := ⟨h.ge, fun z hz => Nat.le_trans (h.le z hz) (by decide), h.len⟩
theorem Lims.good {caps : List Nat} (h : Lims caps) : GoodB (.list (caps.map fun (n : Nat) => PyData.int (n : Int))) 1 (50 * 111) := by
  refine GoodB.list (k := 0) (w := 110) (n := 50) ?_ (by rw [List.length_map]; exact h.len)
  intro d hd
  obtain ⟨z, hz, rfl⟩ := List.mem_map.mp hd
  exact GoodB.nat (h.le z hz)
theorem Lims.goodD {caps : List Nat} (h : Lims caps) {k : Nat} (hk : k ≤ 50) : GoodB (.tuple ((decL caps k).map oD)) 1 (50 * 111) := by
  refine GoodB.tuple (k := 0) (w := 110) (n := 50) ?_ (by rw [List.length_map, decL_len]; exact hk)
  intro d hd
  obtain ⟨o, ho, rfl⟩ := List.mem_map.mp hd
  obtain ⟨i, _, rfl⟩ := List.mem_map.mp ho
  cases e : lmin (fitL caps (i + 1)) with
  | none => exact GoodB.none
  | some z =>
    have hz := (lmin_spec e).1
    exact GoodB.nat (h.le z (List.mem_filter.mp hz).1)
section
variable {P : Program} {w : World} {K : PySem.W.Frag} {mg : Str → Option Value} {base : Heap}

def spLims : Sp := fun vs H Q _ => ∃ (p c : Addr) (n : Nat), vs = [.ref p] ∧ PenAt H p c n ∧ n ≤ 800000 ∧
  ∀ L H' caps, H L = none → Kx [p] H H' → H' L = some (.lst (natV caps)) → Lims caps → 1 ≤ caps.length → PenAt H' p c (n + 200) → Q (.ref L) H'
theorem ok_lims {f : Addr} {fd : FuncData} (F : Fun K "_law_limits" "_law_limits" sQLimits f fd) (T : Txt mg) (l_law_draw : Lo P w K mg base "_law_draw" 1 ["_law_source_here", "_law_bound"] spDraw) : FnOk P w K mg base CX0 2 f fd ["_law_source_here"] spLims := by
  refine F.ok scQLimits (fun vs H Q E h => ?_) (fun cdv A outer s H vs Q E hr h => ?_)
  · obtain ⟨p, c, n, rfl, _⟩ := h
    rfl
  · obtain ⟨p, c, n, rfl, hpen, hn, k⟩ := h
    refine ⟨_, (pss_cons (ps_set (i := 1) scQLimits.nd rfl (Or.inl rfl) (pe_lo l_law_draw (hr.mono (by decide)) (by rfl) (pa_cons (pv 0) (pa_cons pe_int pa_nil))))
      (pss_cons (ps_set (i := 2) scQLimits.nd rfl (Or.inl rfl) (pe_lo l_law_draw (hr.mono (by decide)) (by rfl) (pa_cons (pv 0) (pa_cons pe_int pa_nil))))
      (pss_cons (ps_set (i := 3) scQLimits.nd rfl (Or.inl rfl) (pe_ix ix_list (pe_lst (pa_cons (pe_op op_add pe_int (pe_lo l_law_draw (hr.mono (by decide)) (by rfl) (pa_cons (pv 0) (pa_cons pe_int pa_nil)))) (pa_cons (pe_op op_add pe_int (pe_lo l_law_draw (hr.mono (by decide)) (by rfl) (pa_cons (pv 0) (pa_cons pe_int pa_nil)))) pa_nil))) (pe_lo l_law_draw (hr.mono (by decide)) (by rfl) (pa_cons (pv 0) (pa_cons pe_int pa_nil))) (fun _ _ => rfl)))
      (pss_cons (ps_set (i := 4) scQLimits.nd rfl (Or.inl rfl) (pe_lst pa_nil))
      (pss_cons (ps_for PassesOwn.never rfl (pi_range1 (by rfl) T.b_range (pa_cons (pv 3) pa_nil)) (pg_name (i := 5) scQLimits.nd rfl (Or.inl rfl))
      (pss_cons (ps_set (i := 6) scQLimits.nd rfl (Or.inl rfl) (pe_op op_add pe_int (pe_lo l_law_draw (hr.mono (by decide)) (by rfl) (pa_cons (pv 0) (pa_cons pe_int pa_nil)))))
      (pss_cons (ps_set (i := 7) scQLimits.nd rfl (Or.inl rfl) (pe_ix ix_list (pe_lst (pa_cons pe_int (pa_cons pe_int (pa_cons pe_int (pa_cons pe_int (pa_cons pe_int (pa_cons pe_int (pa_cons pe_int (pa_cons pe_int (pa_cons pe_int (pa_cons pe_int (pa_cons pe_int (pa_cons pe_int pa_nil))))))))))))) (pe_lo l_law_draw (hr.mono (by decide)) (by rfl) (pa_cons (pv 0) (pa_cons pe_int pa_nil))) (fun _ _ => rfl)))
      (pss_cons (ps_set (i := 8) scQLimits.nd rfl (Or.inl rfl) (pe_op op_add pe_int (pe_lo l_law_draw (hr.mono (by decide)) (by rfl) (pa_cons (pv 0) (pa_cons pe_int pa_nil)))))
      (pss_cons (ps_set (i := 9) scQLimits.nd rfl (Or.inl rfl) (pe_op op_sub (pe_op op_pow pe_int pe_int) (pe_lo l_law_draw (hr.mono (by decide)) (by rfl) (pa_cons (pv 0) (pa_cons (pe_op op_pow pe_int pe_int) pa_nil)))))
      (pss_one (ps_expr (pe_bm PySem.F.plainAttrs_list PySem.F.slot_list_append PySem.F.type_list_append mt_append (pv 4) (pa_cons (pe_ix ix_list (pe_lst (pa_cons (pv 6) (pa_cons (pv 7) (pa_cons (pv 8) (pa_cons (pv 9) (pa_cons (pe_ix ix_list (pe_lst (pa_cons (pv 6) (pa_cons (pv 8) pa_nil))) (pe_lo l_law_draw (hr.mono (by decide)) (by rfl) (pa_cons (pv 0) (pa_cons pe_int pa_nil))) (fun _ _ => rfl)) pa_nil)))))) (pv 1) (fun _ _ => rfl)) pa_nil)))))))))
      (pss_cons (ps_if (pt_cmpR op_gt (pv 2) pe_int (nomark _)) (pss_one (ps_asg pe_int (pg_sub (pv 4) (pe_lo l_law_draw (hr.mono (by decide)) (by rfl) (pa_cons (pv 0) (pa_cons (pe_callB call_len_seq (by rfl) T.b_len boot'_len (pa_cons (pv 4) pa_nil)) pa_nil))) set_list))) pss_nil)
      (pss_one (ps_ret (pv 4))))))))), ?_⟩
    refine x_start (σ' := [some (.ref p), none, none, none, none, none, none, none, none, none]) rfl ?_
    try dsimp only [cxOf]
    have npfree : ∀ {H1 : Hp} {q m}, PenAt H1 p c m → H1 q = none → q ≠ p ∧ q ≠ c := fun hp1 hq => by
      obtain ⟨⟨o, ho⟩, o2, ho2⟩ := hp1.some
      exact ⟨fun e => (by rw [e, ho] at hq; cases hq), fun e => (by rw [e, ho2] at hq; cases hq)⟩
    repeat walk_at "rd"
    refine x_draw hpen (by omega) (by omega) (by omega) fun wy H1 wy0 wy1 k1 P1 => ?_
    repeat walk_at "rd"
    refine x_draw P1 (by omega) (by omega) (by omega) fun wo H2 wo0 wo1 k2 P2 => ?_
    replace k2 := k1.trans k2
    repeat walk_at "rd"
    refine x_draw P2 (by omega) (by omega) (by omega) fun m1 H3 m10 m11 k3 P3 => ?_
    replace k3 := k2.trans k3
    repeat walk_at "rd"
    refine x_draw P3 (by omega) (by omega) (by omega) fun m2 H4 m20 m21 k4 P4 => ?_
    replace k4 := k3.trans k4
    repeat walk_at "rd"
    rename_i q nq
    obtain ⟨nqp, nqc⟩ := npfree P4 nq
    refine x_draw (P4.keep ((Kx.refl [] H4).new nq) (by simp) (by simp) (Nat.le_refl _)) (by omega) (by omega) (by omega) fun m3 H5 m30 m31 k5 P5 => ?_
    have hq5 : H5 q = some (.lst [V.int (1 + m1), V.int (1 + m2)]) := k5 q _ (by simpa using nqp) upd_same
    have K5 := (k4.new nq).trans k5
    obtain ⟨mm, hatm, mm0, mm1⟩ : ∃ mm : Nat, atI [V.int (1 + m1), V.int (1 + m2)] m3 = some (.int mm) ∧ 1 ≤ mm ∧ mm ≤ 20 := by
      obtain ⟨z, hz, _, hz2⟩ := at_i (zs := [1 + m1, 1 + m2]) m30 (by simpa using m31)
      simp only [List.mem_cons, List.not_mem_nil, or_false] at hz
      refine ⟨z.toNat, ?_, by omega, by omega⟩
      rw [show ((z.toNat : Nat) : Int) = z by omega]
      exact hz2
    clear k1 k2 k3 k4 k5 P1 P2 P3 P4
    repeat walk_at "rd"
    rename_i Fd nF
    obtain ⟨nFp, nFc⟩ := npfree P5 nF
    have nF0 : H Fd = none := K5.fresh (by simpa using nFp) nF
    refine y_forR1 (by omega) (by omega) ⟨fun i σ H6 => ∃ (y5 y6 y7 y8 y9 : Option V) (caps : List Nat), σ = [some (.ref p), some (.int wy), some (.int wo), some (.int mm), some (.ref Fd), y5, y6, y7, y8, y9] ∧ Kx [p] H H6 ∧ H6 Fd = some (.lst (natV caps)) ∧ caps.length = i ∧ (∀ z ∈ caps, 1 ≤ z) ∧ (∀ z ∈ caps, z ≤ 10 ^ 30) ∧ PenAt H6 p c (n + 5 + 5 * i),
      ⟨none, none, none, none, none, [], rfl, K5.new nF, upd_same, rfl, by simp, by simp, P5.keep ((Kx.refl [] H5).new nF) (by simp) (by simp) (by omega)⟩, fun _ _ _ _ _ => trivial, ?_, ?_⟩
    · rintro i x σ H6 H6' hi ⟨y5, y6, y7, y8, y9, caps, rfl, k6, eF, hcl, hc1, hc2, P6⟩ ⟨rfl, rfl⟩
      have hi20 : i < 20 := by omega
      repeat walk_at "rd"
      refine x_draw P6 (by omega) (by omega) (by omega) fun d1 Ha d10 d11 ka Pa => ?_
      repeat walk_at "rd"
      rename_i q1 nq1
      obtain ⟨nq1p, _⟩ := npfree Pa nq1
      refine x_draw (Pa.keep ((Kx.refl [] Ha).new nq1) (by simp) (by simp) (Nat.le_refl _)) (by omega) (by omega) (by omega) fun d2 Hb d20 d21 kb Pb => ?_
      have hq1 : Hb q1 = some (.lst [V.int 1, V.int 2, V.int 3, V.int 4, V.int 6, V.int 8, V.int 9, V.int 12, V.int 18, V.int 24, V.int 36, V.int 72]) := kb q1 _ (by simpa using nq1p) upd_same
      obtain ⟨dv, hdv, _, hatd⟩ := at_i (zs := [1, 2, 3, 4, 6, 8, 9, 12, 18, 24, 36, 72]) d20 (by simpa using d21)
      simp only [List.map_cons, List.map_nil] at hatd
      have hdv2 : 1 ≤ dv ∧ dv ≤ 72 := by
        simp only [List.mem_cons, List.not_mem_nil, or_false] at hdv
        omega
      clear hdv
      have kB := (ka.new nq1).trans kb
      clear ka kb Pa
      repeat walk_at "rd"
      refine x_draw Pb (by omega) (by omega) (by omega) fun d3 Hc d30 d31 kc Pc => ?_
      have kC := kB.trans kc
      clear kc Pb kB hq1
      repeat walk_at "rd"
      have h9 : (10 : Int) ^ (9 : Int).toNat = 1000000000 := by decide
      rw [h9]
      refine x_draw Pc (by omega) (by omega) (by omega) fun d4 Hd d40 d41 kd Pd => ?_
      have kD := kC.trans kd
      clear kd Pc kC
      repeat walk_at "rd"
      refine ⟨ty_list (SqL.of (kD Fd _ (by simpa using nFp) eF)), ?_⟩
      have h30 : (10 : Int) ^ (30 : Int).toNat = 1000000000000000000000000000000 := by decide
      rw [h30]
      repeat walk_at "rd"
      rename_i q2 nq2
      obtain ⟨nq2p, _⟩ := npfree Pd nq2
      refine x_draw (Pd.keep ((Kx.refl [] Hd).new nq2) (by simp) (by simp) (Nat.le_refl _)) (by omega) (by omega) (by omega) fun d5 He d50 d51 ke Pe => ?_
      have hq2 : He q2 = some (.lst [V.int (1 + d1), V.int (1 + d3)]) := ke q2 _ (by simpa using nq2p) upd_same
      have kE := (kD.new nq2).trans ke
      obtain ⟨v5, hv5, _, hat5⟩ := at_i (zs := [1 + d1, 1 + d3]) d50 (by simpa using d51)
      simp only [List.map_cons, List.map_nil] at hat5
      simp only [List.mem_cons, List.not_mem_nil, or_false] at hv5
      clear ke Pd kD
      repeat walk_at "rd"
      rename_i q3 nq3
      obtain ⟨v6, hv6, _, hat6⟩ := at_i (zs := [1 + d1, dv, 1 + d3, 1000000000000000000000000000000 - d4, v5]) wy0 (by simpa using wy1)
      simp only [List.map_cons, List.map_nil] at hat6
      simp only [List.mem_cons, List.not_mem_nil, or_false] at hv6
      have hv7 : 1 ≤ v6 ∧ v6 ≤ 1000000000000000000000000000000 := by omega
      have h30n : (10 : Nat) ^ 30 = 1000000000000000000000000000000 := by decide
      have eFe : He Fd = some (.lst (natV caps)) := kE Fd _ (by simpa using nFp) eF
      have eFq := lk_ne (o := .lst [V.int (1 + d1), V.int dv, V.int (1 + d3), V.int (1000000000000000000000000000000 - d4), V.int v5]) eFe nq3
      have nFq3 : Fd ≠ q3 := ne_of_none eFe nq3
      have hzl : (natV caps).length < sizeLine := small1000 (by rw [natV_len]; omega)
      repeat walk_at "rd"
      refine ⟨_, _, _, _, _, caps ++ [v6.toNat], rfl, (k6.trans (kE.new nq3)).wr (.inl nF0), ?_, by rw [List.length_append, hcl]; rfl, ?_, ?_, (Pe.keep ((Kx.refl [] He).new nq3) (by simp) (by simp) (Nat.le_refl _)).upd nFp nFc (by omega)⟩
      · rw [upd_same]
        unfold natV
        rw [List.map_append]
        show _ = some (HO.lst (_ ++ [V.int ((v6.toNat : Nat) : Int)]))
        rw [show ((v6.toNat : Nat) : Int) = v6 by omega]
      · intro z hz
        rcases List.mem_append.mp hz with hz | hz
        · exact hc1 z hz
        · rw [List.mem_singleton.mp hz]; omega
      · intro z hz
        rcases List.mem_append.mp hz with hz | hz
        · exact hc2 z hz
        · rw [List.mem_singleton.mp hz, h30n]; omega
    · rintro σ H6 ⟨y5, y6, y7, y8, y9, caps, rfl, k6, eF, hcl, hc1, hc2, P6⟩
      rw [Int.toNat_natCast] at hcl P6
      repeat walk_at "rd"
      refine ite2 (fun hw => ?_) (fun hw => ?_)
      · repeat walk_at "rd"
        rw [natV_len]
        refine x_draw P6 (by omega) (by omega) (by omega) fun d Ha d0 d1 ka Pa => ?_
        have eFa := ka Fd _ (by simpa using nFp) eF
        have hix : ixN (natV caps).length d = some d.toNat := by
          rw [show d = ((d.toNat : Nat) : Int) by omega, Int.toNat_natCast]
          exact ix_n (by rw [natV_len]; omega)
        repeat walk_at "rd"
        have eset : (natV caps).set d.toNat (V.int 1) = natV (caps.set d.toNat 1) := by
          unfold natV
          rw [List.map_set]
          rfl
        refine k Fd _ (caps.set d.toNat 1) nF0 ((k6.trans ka).wr (.inl nF0)) (by rw [upd_same, eset]) ⟨fun z hz => ?_, fun z hz => ?_, by rw [List.length_set]; omega⟩ (by rw [List.length_set]; omega) (Pa.upd nFp nFc (by omega))
        · rcases List.mem_or_eq_of_mem_set hz with hz | rfl
          · exact hc1 z hz
          · exact Nat.le_refl _
        · rcases List.mem_or_eq_of_mem_set hz with hz | rfl
          · exact hc2 z hz
          · decide
      · repeat walk_at "rd"
        exact k Fd H6 caps nF0 k6 eF ⟨hc1, hc2, by omega⟩ (by omega) (P6.up rfl rfl (by omega))
def spDue (K : PySem.W.Frag) : Sp := fun vs H Q _ => ∃ (a : Addr) (caps : List Nat) (n : Nat), vs = [.ref a, .int n] ∧ SqL K H a (natV caps) ∧ Lims caps ∧ n ≤ 50 ∧
  ∀ p H', H p = none → Kx [] H H' → H' p = some (.tup ((decL caps (n - 2)).map oV)) → Q (.ref p) H'
theorem ok_due {f : Addr} {fd : FuncData} (F : Fun K "_law_deciding" "_law_deciding" sQDeciding f fd) (T : Txt mg) : FnOk P w K mg base CX0 1 f fd ["_law_some", "_law_many"] (spDue K) := by
  refine F.ok scQDeciding (fun vs H Q E h => ?_) (fun cdv A outer s H vs Q E hr h => ?_)
  · obtain ⟨a, caps, n, rfl, _⟩ := h
    rfl
  · obtain ⟨a, caps, n, rfl, ha, hc, hn, k⟩ := h
    refine ⟨_, (pss_cons (ps_set (i := 2) scQDeciding.nd rfl (Or.inl rfl) (pe_lst pa_nil))
      (pss_cons (ps_for PassesOwn.never rfl (pi_range2 (by rfl) T.b_range (pa_cons pe_int (pa_cons (pe_op op_sub (pv 1) pe_int) pa_nil))) (pg_name (i := 3) scQDeciding.nd rfl (Or.inr rfl))
      (pss_cons (ps_setLc (i := 4) (own := [("_law_limit", 5)]) rfl scQDeciding.nd rfl rfl (sw_true rfl rfl rfl (by decide +kernel)) (pi_list (pv 0)) (blkOk_by (N := ["_law_some", "_law_many", "_law_found", "_law_depth", "_law_fitting", "_law_limit"]) (sc := defScope sQDeciding) (by decide +kernel)) (fun _ _ _ _ _ => (pg_name (i := 5) scQDeciding.nd rfl (Or.inl rfl))) (fun _ _ _ _ _ => (pts_one (pt_cmpR op_ne (pe_op op_mul (pe_op op_fdivW (pv 3) (pv 5)) (pv 5)) (pv 3) (nomark _)))) (fun _ _ _ _ _ => (pv 5)))
      (pss_one (ps_expr (pe_bm PySem.F.plainAttrs_list PySem.F.slot_list_append PySem.F.type_list_append mt_append (pv 2) (pa_cons (pe_ifExp (pt_cmpR (op_neD hr.units) (pv 4) (pe_lst pa_nil) (nomark _)) (pe_callB (cr_min rfl) (by rfl) T.b_min boot'_min (pa_cons (pv 4) pa_nil)) pe_non) pa_nil))))))
      (pss_one (ps_ret (pe_callTy call_tuple_of (by rfl) T.b_tuple boot'_tuple (pa_cons (pv 2) pa_nil)))))), ?_⟩
    refine x_start (σ' := [some (.ref a), some (.int n), none, none, none, none]) rfl ?_
    try dsimp only [cxOf]
    have hlenf : ∀ d j, (natV (fitL (caps.take j) d)).length < sizeLine := fun d j => small1000 (by rw [natV_len]; have := fit_len caps d j; have := hc.len; omega)
    repeat walk_at "rd"
    rename_i F0 nF0
    refine y_forR2 (by omega) (by omega) (by omega) (by omega) ⟨fun i σ H1 => ∃ (y3 y4 y5 : Option V), σ = [some (.ref a), some (.int n), some (.ref F0), y3, y4, y5] ∧ Kx [] H H1 ∧ H1 F0 = some (.lst ((decL caps i).map oV)), ⟨none, none, none, rfl, (Kx.refl [] H).new nF0, upd_same⟩, fun _ _ _ _ _ => trivial, ?_, ?_⟩
    · rintro i x σ H1 H1' hi ⟨y3, y4, y5, rfl, k1, eF⟩ ⟨rfl, hx⟩
      have hi2 : i < 1000 := by omega
      have hx' : x = V.int ((i + 1 : Nat) : Int) := by
        rw [hx]
        show V.int (1 + (i : Int)) = _
        congr 1
        omega
      subst hx'
      repeat walk_at "rd"
      refine y_lcL (xs := natV caps) (k1.sqL (by simp) ha) (fun Y nY => ⟨fun j H2 => Kx [] H1' H2 ∧ H2 Y = some (.lst (natV (fitL (caps.take j) (i + 1)))), ⟨(Kx.refl [] H1').new nY, upd_same⟩, ?_, ?_, ?_⟩)
      · rintro j H2 hj ⟨k2, _⟩
        exact (k1.trans k2).sqL (by simp) ha
      · rintro j x H2 H2' hj ⟨k2, eY⟩ ⟨rfl, hx⟩
        rw [natV_len] at hj
        have hx2 : (natV caps)[j]? = some x := hx
        have hcj := List.getElem?_eq_getElem hj
        rw [natV_get hcj] at hx2
        cases Option.some.inj hx2
        have hz1 := hc.ge _ (List.getElem_mem hj)
        have hz30 := hc.le _ (List.getElem_mem hj)
        have es := fit_succ caps (i + 1) j hcj
        have hzl := hlenf (i + 1) j
        generalize caps[j] = z at *
        have hlg : z.log2 < 9000 := Nat.lt_of_lt_of_le (PySem.Flt.log2_lt_of (k := 100) (by decide) (Nat.lt_of_le_of_lt hz30 (by decide))) (by decide)
        repeat walk_at "rd"
        refine ⟨rfl, ?_⟩
        repeat walk_at "rd"
        refine ⟨_, _, rfl, rfl, ⟨by omega, by rw [Int.natAbs_natCast]; exact hlg⟩, ?_⟩
        have hq0 : 0 ≤ ((i + 1 : Nat) : Int) / (z : Int) := Int.ediv_nonneg (by omega) (by omega)
        have hq1 : ((i + 1 : Nat) : Int) / (z : Int) ≤ ((i + 1 : Nat) : Int) := Int.ediv_le_self _ (by omega)
        repeat walk_at "rd"
        try refine ⟨_, _, rfl, rfl, .inl ⟨by omega, by omega⟩, ?_⟩
        repeat walk_at "rd"
        rw [div_ne hz1]
        by_cases hd : z ∣ i + 1
        · rw [if_pos hd, List.append_nil] at es
          refine iteN (decide_eq_false (not_not_intro hd)) ⟨k2, ?_⟩
          rw [es]
          exact eY
        · rw [if_neg hd] at es
          refine iteP (decide_eq_true hd) ?_
          repeat walk_at "rd"
          refine ⟨_, eY, hzl, k2.wr (.inl nY), ?_⟩
          rw [upd_same, es]
          unfold natV
          rw [List.map_append]
          rfl
      · rintro H2 ⟨k2, eY⟩
        rw [natV_len, List.take_length] at eY
        have eF2 := k2 F0 _ (by simp) eF
        have hzZ : ((decL caps i).map oV).length < sizeLine := small10k (by rw [List.length_map, decL_len]; omega)
        have eY' : H2 Y = some (.lst (((fitL caps (i + 1)).map fun (n : Nat) => (n : Int)).map V.int)) := by rw [eY, natV_int]
        have nF00 : H F0 = none := nF0
        repeat walk_at "rd"
        refine ⟨ty_list (SqL.of eF2), ?_⟩
        repeat walk_at "rd"
        rename_i E0 nE0
        have nFE : F0 ≠ E0 := ne_of_none eF2 nE0
        have eF3 := lk_ne (o := .lst []) eF2 nE0
        by_cases hn : fitL caps (i + 1) = []
        · refine iteN (by rw [hn]; rfl) ?_
          repeat walk_at "rd"
          refine ⟨_, _, _, rfl, ((k1.trans k2).new nE0).wr (.inl nF00), ?_⟩
          rw [upd_same, decL_succ, hn]
          rfl
        · refine iteP (by cases hf : fitL caps (i + 1) with | nil => exact absurd hf hn | cons _ _ => rfl) ?_
          repeat walk_at "rd"
          refine ⟨Y, _, rfl, SqL.of (lk_ne eY' nE0), by rw [List.length_map]; exact List.length_pos_iff.mpr hn, fun m hm hm2 => ?_⟩
          repeat walk_at "rd"
          refine ⟨_, _, _, rfl, ((k1.trans k2).new nE0).wr (.inl nF00), ?_⟩
          rw [upd_same, decL_succ, min_of hm hm2]
    · rintro σ H1 ⟨y3, y4, y5, rfl, k1, eF⟩
      have en : ((n : Int) - 1 - 1).toNat = n - 2 := by omega
      rw [en] at eF
      repeat walk_at "rd"
      intro p np
      exact k p _ (k1.fresh (by simp) np) (k1.new np) upd_same
def spLDet (K : PySem.W.Frag) : Sp := fun vs H Q _ => ∃ (a : Addr) (caps : List Nat) (n : Nat), vs = [.ref a, .int n] ∧ SqL K H a (natV caps) ∧ Lims caps ∧ n ≤ 50 ∧ ∀ H', Kx [] H H' → Q (.bl (detB caps n)) H'
theorem ok_ldet {f : Addr} {fd : FuncData} (F : Fun K "_law_determines" "_law_determines" sQDetermines f fd) (T : Txt mg) (l_law_deciding : Lo P w K mg base "_law_deciding" 1 ["_law_some", "_law_many"] (spDue K)) : FnOk P w K mg base CX0 2 f fd ["_law_some", "_law_many"] (spLDet K) := by
  refine F.ok scQDetermines (fun vs H Q E h => ?_) (fun cdv A outer s H vs Q E hr h => ?_)
  · obtain ⟨a, caps, n, rfl, _⟩ := h
    rfl
  · obtain ⟨a, caps, n, rfl, ha, hc, hn, k⟩ := h
    refine ⟨_, (pss_one (ps_ret (pe_or (pe_cmpR op_lt (pv 1) pe_int (nomark _)) (pe_one (pe_and (pe_cmpR op_in_seq pe_int (pv 0) (by with_unfolding_all rfl)) (pe_one (pe_cmpR op_notIn_seq pe_non (pe_lo l_law_deciding (hr.mono (by decide)) (by rfl) (pa_cons (pv 0) (pa_cons (pv 1) pa_nil))) (by with_unfolding_all rfl)))))))), ?_⟩
    refine x_start (σ' := [some (.ref a), some (.int n)]) rfl ?_
    try dsimp only [cxOf]
    repeat walk_at "rd"
    by_cases h3 : n < 3
    · refine iteP (decide_eq_true (by omega)) ?_
      have e : detB caps n = true := by unfold detB; rw [decide_eq_true h3]; rfl
      rw [e] at k
      exact k _ (Kx.refl _ _)
    · refine iteN (decide_eq_false (by omega)) ?_
      repeat walk_at "rd"
      refine x_inL ha rfl (flat_nats _) ?_
      rw [show inV (V.int 1) (natV caps) = decide (1 ∈ caps) from in_nat (n := 1) caps]
      repeat walk_at "rd"
      have e : detB caps n = (decide (1 ∈ caps) && decide (n ≤ lcmL caps + 1)) := by unfold detB; rw [decide_eq_false h3]; rfl
      rw [e] at k
      by_cases h1 : 1 ∈ caps
      · rw [decide_eq_true h1] at k ⊢
        refine iteP rfl ?_
        repeat walk_at "rd"
        refine ⟨a, caps, n, rfl, ha, hc, hn, fun p H1 np k1 e1 => ?_⟩
        repeat walk_at "rd"
        refine x_notInT (SqT.of e1) rfl (flat_os _) ?_
        rw [in_none]
        repeat walk_at "rd"
        have e2 : (!decide (none ∈ decL caps (n - 2))) = decide (n ≤ lcmL caps + 1) := by
          have := det_iff hc.ge (n := n) (by omega)
          by_cases h : n ≤ lcmL caps + 1
          · rw [decide_eq_true h, decide_eq_false (this.mp h)]; rfl
          · rw [decide_eq_false h, decide_eq_true (Decidable.not_not.mp fun h2 => h (this.mpr h2))]; rfl
        rw [e2]
        simpa using k _ k1
      · rw [decide_eq_false h1] at k ⊢
        refine iteN rfl ?_
        exact k _ (Kx.refl _ _)
end


theorem lcm_rev (caps : List Nat) : lcmL caps.reverse = lcmL caps := Nat.dvd_antisymm (lcmL_dvd.mpr fun z hz => (lcmL_dvd.mp (Nat.dvd_refl _)) z (List.mem_reverse.mp hz)) (lcmL_dvd.mpr fun z hz => (lcmL_dvd.mp (Nat.dvd_refl _)) z (List.mem_reverse.mpr hz))
theorem det_rev (caps : List Nat) (n : Nat) : detB caps.reverse n = detB caps n := by
  unfold detB
  rw [lcm_rev]
  have : decide (1 ∈ caps.reverse) = decide (1 ∈ caps) := by simp
  rw [this]
theorem natV_rev (caps : List Nat) : (natV caps).reverse = natV caps.reverse := by
  unfold natV
  rw [List.map_reverse]
theorem Caps.rev {caps : List Nat} (h : Caps caps) : Caps caps.reverse := ⟨fun z hz => h.ge z (List.mem_reverse.mp hz), fun z hz => h.le z (List.mem_reverse.mp hz), by rw [List.length_reverse]; exact h.len⟩
section
variable {P : Program} {w : World} {K : PySem.W.Frag} {mg : Str → Option Value} {base : Heap}

def spRight (K : PySem.W.Frag) : Sp := fun vs H Q _ => ∃ (a : Addr) (caps : List Nat) (n : Nat), vs = [.ref a, .int n] ∧ SqL K H a (natV caps) ∧ Lims caps ∧ n ≤ 50 ∧ ∀ H', Kx [] H H' → Q (.bl true) H'
theorem ok_right {f : Addr} {fd : FuncData} (F : Fun K "_law_right" "_law_right" sQRight f fd) (T : Txt mg) (x_determines : Lkx P w K mg base "determines" 2 ["limits", "size"] ["size"] (gApp 1 1) (spDet K)) (k_determines : Lkw P w K mg base "determines" 2 ["limits", "size"] ["size", "limits"] (gRev 2) (spDetT K))
    (k_deciding_limits : Lkw P w K mg base "deciding_limits" 1 ["limits", "size"] ["size", "limits"] (gRev 2) (spDecl K)) (l_law_deciding : Lo P w K mg base "_law_deciding" 1 ["_law_some", "_law_many"] (spDue K)) (l_law_determines : Lo P w K mg base "_law_determines" 2 ["_law_some", "_law_many"] (spLDet K)) :
    FnG P w K mg base 3 f fd ["_law_some", "_law_many"] (spRight K) := by
  refine FnG.body F scQRight (fun vs H Q E h => ?_) (fun cdv A outer s H vs Q E hgd hr h => ?_)
  · obtain ⟨a, caps, n, rfl, _⟩ := h
    rfl
  · obtain ⟨a, caps, n, rfl, ha, hc, hn, k⟩ := h
    refine ⟨_, (pss_cons (ps_set (i := 2) scQRight.nd rfl (Or.inl rfl) (pe_callB (call_repr hgd hr.units) (by rfl) T.b_repr boot'_repr (pa_cons (pv 0) pa_nil)))
      (pss_cons (ps_if (pt_cmpR op_ne (pe_callB call_reprB (by rfl) T.b_repr boot'_repr (pa_cons (pe_lkx x_determines (hr.mono (by decide)) (by rfl) (pa_cons (pv 0) pa_nil) (pk_cons (pv 1) pk_nil)) pa_nil)) (pe_callB call_reprB (by rfl) T.b_repr boot'_repr (pa_cons (pe_lo l_law_determines (hr.mono (by decide)) (by rfl) (pa_cons (pv 0) (pa_cons (pv 1) pa_nil))) pa_nil)) (nomark _)) (pss_one (ps_ret pe_bl)) pss_nil)
      (pss_cons (ps_if (pt_cmpR op_ne (pe_callB (call_repr hgd hr.units) (by rfl) T.b_repr boot'_repr (pa_cons (pe_lkw k_deciding_limits (hr.mono (by decide)) (by rfl) (pk_cons (pv 1) (pk_cons (pv 0) pk_nil))) pa_nil)) (pe_callB (call_repr hgd hr.units) (by rfl) T.b_repr boot'_repr (pa_cons (pe_lo l_law_deciding (hr.mono (by decide)) (by rfl) (pa_cons (pv 0) (pa_cons (pv 1) pa_nil))) pa_nil)) (nomark _)) (pss_one (ps_ret pe_bl)) pss_nil)
      (pss_one (ps_ret (pe_and (pe_cmpR op_eq (pe_lkw k_determines (hr.mono (by decide)) (by rfl) (pk_cons (pv 1) (pk_cons (pe_callTy call_tuple_of (by rfl) T.b_tuple boot'_tuple (pa_cons (pe_revL (pv 0)) pa_nil)) pk_nil))) (pe_lkx x_determines (hr.mono (by decide)) (by rfl) (pa_cons (pv 0) pa_nil) (pk_cons (pv 1) pk_nil)) (nomark _)) (pe_one (pe_cmpR op_eq (pe_callB (call_repr hgd hr.units) (by rfl) T.b_repr boot'_repr (pa_cons (pv 0) pa_nil)) (pv 2) (nomark _))))))))), ?_⟩
    refine x_start (σ' := [some (.ref a), some (.int n), none]) rfl ?_
    try dsimp only [cxOf]
    have dL : ∀ {H1 : Hp}, Kx [] H H1 → Dp K H1 (.ref a) (.list (caps.map fun (n : Nat) => PyData.int (n : Int))) := fun k1 => .lst (k1.sqL (by simp) ha) (dp_nats _)
    have dT : ∀ {H1 : Hp} {p : Addr}, H1 p = some (.tup ((decL caps (n - 2)).map oV)) → Dp K H1 (.ref p) (.tuple ((decL caps (n - 2)).map oD)) := fun h => .tup (SqT.of h) (dp_os _)
    have gT := hc.goodD (k := n - 2) (by omega)
    repeat walk_at "rd"
    refine x_reprW (dL (Kx.refl _ _)) hc.good (by decide) (by decide) ?_
    repeat walk_at "rd"
    refine ⟨a, caps, n, rfl, ha, hc.caps, by omega, ?_⟩
    repeat walk_at "rd"
    refine x_reprB ?_
    repeat walk_at "rd"
    refine ⟨a, caps, n, rfl, ha, hc, hn, fun H1 k1 => ?_⟩
    repeat walk_at "rd"
    refine x_reprB ?_
    repeat walk_at "rd"
    refine iteN (by simp) ?_
    repeat walk_at "rd"
    refine ⟨a, caps, n, rfl, k1.sqL (by simp) ha, hc.caps, by omega, fun p H2 np k2 e2 => ?_⟩
    replace k2 := k1.trans k2
    repeat walk_at "rd"
    refine x_reprW (dT e2) gT (by decide) (by decide) ?_
    generalize hxx : (PyData.tuple ((decL caps (n - 2)).map oD)).shown = ex
    repeat walk_at "rd"
    refine ⟨a, caps, n, rfl, k2.sqL (by simp) ha, hc, hn, fun p3 H3 np3 k3 e3 => ?_⟩
    replace k3 := k2.trans k3
    repeat walk_at "rd"
    refine x_reprW (dT e3) gT (by decide) (by decide) ?_
    rw [hxx]
    repeat walk_at "rd"
    refine iteN (by simp) ?_
    repeat walk_at "rd"
    refine ⟨a, _, rfl, k3.sqL (by simp) ha, fun p4 np4 => ?_⟩
    rw [natV_rev]
    have k4 := k3.new (o := .lst (natV caps.reverse)) np4
    have e4 : upd H3 p4 (.lst (natV caps.reverse)) p4 = some (.lst (natV caps.reverse)) := upd_same
    generalize upd H3 p4 (.lst (natV caps.reverse)) = H4 at *
    repeat walk_at "rd"
    intro p5 np5
    have k5 := k4.new (o := .tup (natV caps.reverse)) np5
    have e5 : upd H4 p5 (.tup (natV caps.reverse)) p5 = some (.tup (natV caps.reverse)) := upd_same
    generalize upd H4 p5 (.tup (natV caps.reverse)) = H5 at *
    repeat walk_at "rd"
    refine ⟨p5, caps.reverse, n, rfl, SqT.of e5, hc.caps.rev, by omega, ?_⟩
    rw [det_rev]
    repeat walk_at "rd"
    refine ⟨a, caps, n, rfl, k5.sqL (by simp) ha, hc.caps, by omega, ?_⟩
    repeat walk_at "rd"
    refine iteP (by simp) ?_
    repeat walk_at "rd"
    refine x_reprW (dL k5) hc.good (by decide) (by decide) ?_
    repeat walk_at "rd"
    rw [decide_eq_true rfl]
    exact k _ k5
end


theorem in_ty (caps : List Nat) : True := trivial
theorem lims_up {b : Nat} (h : b ≤ 50) : Lims ((List.range b).map (· + 1)) := by
  refine ⟨fun z hz => ?_, fun z hz => ?_, by rw [List.length_map, List.length_range]; exact h⟩
  · obtain ⟨i, _, rfl⟩ := List.mem_map.mp hz
    exact Nat.succ_le_succ (Nat.zero_le i)
  · obtain ⟨i, hi, rfl⟩ := List.mem_map.mp hz
    have := List.mem_range.mp hi
    exact Nat.le_trans (show i + 1 ≤ 50 by omega) (by decide)
theorem need_at {b n b0 : Nat} (h1 : detB ((List.range b).map (· + 1)) n = true) (h2 : ∀ b', 1 ≤ b' → b' < b → detB ((List.range b').map (· + 1)) n = false) (hb : 1 ≤ b) (g0 : 1 ≤ b0) (g1 : detB ((List.range b0).map (· + 1)) n = true) (g2 : ∀ b', 1 ≤ b' → b' < b0 → detB ((List.range b').map (· + 1)) n = false) : b = b0 := by
  rcases Nat.lt_trichotomy b b0 with h | h | h
  · rw [g2 b hb h] at h1; cases h1
  · exact h
  · rw [h2 b0 g0 h] at g1; cases g1
theorem ne_of_pen {H : Hp} {p c L : Addr} {n : Nat} {caps : List Nat} (P : PenAt H p c n) (h : H L = some (.lst (natV caps))) : L ≠ p := by
  obtain ⟨cs, pl, r, h1, _⟩ := P
  rintro rfl
  rw [h1] at h
  have e := HO.lst.inj (Option.some.inj h)
  cases caps with
  | nil => cases e
  | cons z t => cases (List.cons.inj e).1
section
variable {P : Program} {w : World} {K : PySem.W.Frag} {mg : Str → Option Value} {base : Heap}

def spLaw (K : PySem.W.Frag) : Sp := fun vs H Q _ => ∃ (a : Addr) (ns : List Int), vs = [.ref a] ∧ SqL K H a (ns.map V.int) ∧ ∀ H', Q (.bl true) H'
theorem ok_law {f : Addr} {fd : FuncData} (F : Fun K "law" "law" sLaw f fd) (T : Txt mg) (l_law_source : Lo P w K mg base "_law_source" 1 ["_law_script"] (spPen K)) (l_law_draw : Lo P w K mg base "_law_draw" 1 ["_law_source_here", "_law_bound"] spDraw) (l_law_limits : Lo P w K mg base "_law_limits" 2 ["_law_source_here"] spLims)
    (l_law_right : Lk P w K mg base "_law_right" 3 ["_law_some", "_law_many"] (spRight K)) (l_law_determines : Lo P w K mg base "_law_determines" 2 ["_law_some", "_law_many"] (spLDet K)) (l_needed_bound : Lo P w K mg base "needed_bound" 3 ["size"] spNeed) (k_needed_bound : Lkw P w K mg base "needed_bound" 3 ["size"] ["size"] id spNeed)
    (xT_determines : Lkx P w K mg base "determines" 2 ["limits", "size"] ["size"] (gApp 1 1) (spDetT K)) : FnG P w K mg base 4 f fd ["_law_script"] (spLaw K) := by
  refine FnG.body F scLaw (fun vs H Q E h => ?_) (fun cdv A outer s H vs Q E hgd hr h => ?_)
  · obtain ⟨a, ns, rfl, _⟩ := h
    rfl
  · obtain ⟨a, ns, rfl, ha, k⟩ := h
    refine ⟨_, (pss_cons (ps_set (i := 1) scLaw.nd rfl (Or.inl rfl) (pe_lo l_law_source (hr.mono (by decide)) (by rfl) (pa_cons (pv 0) pa_nil)))
      (pss_cons (ps_for PassesOwn.never rfl (pi_range1 (by rfl) T.b_range (pa_cons pe_int pa_nil)) (pg_name (i := 2) scLaw.nd rfl (Or.inl rfl))
      (pss_cons (ps_set (i := 3) scLaw.nd rfl (Or.inl rfl) (pe_lo l_law_limits (hr.mono (by decide)) (by rfl) (pa_cons (pv 1) pa_nil)))
      (pss_cons (ps_if ((pw_or (pt_not (pt_val (pe_lk l_law_right hgd (hr.mono (by decide)) (by rfl) (pa_cons (pv 3) (pa_cons (pe_op op_add pe_int (pe_lo l_law_draw (hr.mono (by decide)) (by rfl) (pa_cons (pv 1) (pa_cons pe_int pa_nil)))) pa_nil))))) (pw_or1 (pt_not (pt_val (pe_lk l_law_right hgd (hr.mono (by decide)) (by rfl) (pa_cons (pv 3) (pa_cons (pe_op op_add pe_int (pe_lo l_law_draw (hr.mono (by decide)) (by rfl) (pa_cons (pv 1) (pa_cons pe_int pa_nil)))) pa_nil)))))))).pt (pss_one (ps_ret pe_bl)) pss_nil)
      (pss_cons (ps_set (i := 4) scLaw.nd rfl (Or.inl rfl) (pe_op op_add pe_int (pe_lo l_law_draw (hr.mono (by decide)) (by rfl) (pa_cons (pv 1) (pa_cons pe_int pa_nil)))))
      (pss_one (ps_if (pt_not (pt_val (pe_lk l_law_right hgd (hr.mono (by decide)) (by rfl) (pa_cons (pe_listRg rfl (by rfl) T.b_list (prg_2 (by rfl) T.b_range pe_int (pe_op op_add (pv 4) pe_int))) (pa_cons (pe_op op_add pe_int (pe_lo l_law_draw (hr.mono (by decide)) (by rfl) (pa_cons (pv 1) (pa_cons pe_int pa_nil)))) pa_nil))))) (pss_one (ps_ret pe_bl)) pss_nil))))))
      (pss_cons (ps_for PassesOwn.never rfl (pi_range2 (by rfl) T.b_range (pa_cons pe_int (pa_cons pe_int pa_nil))) (pg_name (i := 5) scLaw.nd rfl (Or.inl rfl))
      (pss_cons (ps_if (pt_not (pt_val (pe_lk l_law_right hgd (hr.mono (by decide)) (by rfl) (pa_cons (pv 3) (pa_cons (pv 5) pa_nil))))) (pss_one (ps_ret pe_bl)) pss_nil)
      (pss_cons (ps_set (i := 4) scLaw.nd rfl (Or.inl rfl) (pe_lo l_needed_bound (hr.mono (by decide)) (by rfl) (pa_cons (pv 5) pa_nil)))
      (pss_cons (ps_if ((pw_or (pt_not (pt_val (pe_callB call_isi (by rfl) T.b_isinstance boot'_isinstance (pa_cons (pv 4) (pa_cons (pe_bltn (v := .ty "int") (by rfl) T.b_int boot'_int rfl) pa_nil))))) (pw_or (pt_val (pe_callB call_isi (by rfl) T.b_isinstance boot'_isinstance (pa_cons (pv 4) (pa_cons (pe_bltn (v := .ty "bool") (by rfl) T.b_bool boot'_bool rfl) pa_nil)))) (pw_or1 (pt_cmpR op_lt (pv 4) pe_int (nomark _)))))).pt (pss_one (ps_ret pe_bl)) pss_nil)
      (pss_cons (ps_if (pt_not (pt_val (pe_lo l_law_determines (hr.mono (by decide)) (by rfl) (pa_cons (pe_listRg rfl (by rfl) T.b_list (prg_2 (by rfl) T.b_range pe_int (pe_op op_add (pv 4) pe_int))) (pa_cons (pv 5) pa_nil))))) (pss_one (ps_ret pe_bl)) pss_nil)
      (pss_one (ps_if ((pw_and (pt_cmpR op_gt (pv 4) pe_int (nomark _)) (pw_and1 (pt_val (pe_lo l_law_determines (hr.mono (by decide)) (by rfl) (pa_cons (pe_listRg rfl (by rfl) T.b_list (prg_2 (by rfl) T.b_range pe_int (pv 4))) (pa_cons (pv 5) pa_nil))))))).pt (pss_one (ps_ret pe_bl)) pss_nil)))))))
      (pss_one (ps_ret (pe_and (pe_cmpR (op_eqD hr.units) (pe_lst (pa_cons (pe_lo l_needed_bound (hr.mono (by decide)) (by rfl) (pa_cons pe_int pa_nil)) (pa_cons (pe_lkw k_needed_bound (hr.mono (by decide)) (by rfl) (pk_cons pe_int pk_nil)) pa_nil))) (pe_lst (pa_cons pe_int (pa_cons pe_int pa_nil))) (nomark _)) (pe_one (pe_cmpR op_isBl (pe_lkx xT_determines (hr.mono (by decide)) (by rfl) (pa_cons (pe_tup (pa_cons pe_int pa_nil)) pa_nil) (pk_cons pe_int pk_nil)) pe_bl (nomark _))))))))), ?_⟩
    refine x_start (σ' := [some (.ref a), none, none, none, none, none]) rfl ?_
    try dsimp only [cxOf]
    repeat walk_at "rd"
    refine ⟨a, ns, rfl, ha, fun p c H1 np nc k1 P1 => ?_⟩
    repeat walk_at "rd"
    refine y_forR1 (by decide) (by decide) ⟨fun i σ H2 => ∃ (y2 y3 y4 y5 : Option V), σ = [some (.ref a), some (.ref p), y2, y3, y4, y5] ∧ PenAt H2 p c (1000 * i) ∧ (0 < i → ∃ (L : Addr) (caps : List Nat), y3 = some (.ref L) ∧ H2 L = some (.lst (natV caps)) ∧ Lims caps), ⟨none, none, none, none, rfl, P1, fun h => absurd h (by decide)⟩, fun _ _ _ _ _ => trivial, ?_, ?_⟩
    · rintro i x σ H2 H2' hi ⟨y2, y3, y4, y5, rfl, P2, _⟩ ⟨rfl, rfl⟩
      have hi6 : i < 6 := hi
      repeat walk_at "rd"
      refine ⟨p, c, _, rfl, P2, by omega, fun L H3 caps nL k3 eL hc hc1 P3 => ?_⟩
      repeat walk_at "rd"
      refine x_draw P3 (by omega) (by omega) (by omega) fun d1 H4 d10 d11 k4 P4 => ?_
      obtain ⟨m1, e1⟩ : ∃ m : Nat, (m : Int) = 1 + d1 := ⟨(1 + d1).toNat, by omega⟩
      repeat walk_at "rd"
      have hL4 := k4 L _ (by simpa using ne_of_pen P3 eL) eL
      refine ⟨L, caps, m1, by rw [e1]; rfl, SqL.of hL4, hc, by omega, fun H5 k5 => ?_⟩
      have P5 := P4.keep k5 (by simp) (by simp) (Nat.le_refl _)
      have hL5 := k5 L _ (by simp) hL4
      repeat walk_at "rd"
      refine iteN (by decide) ?_
      repeat walk_at "rd"
      refine x_draw P5 (by omega) (by omega) (by omega) fun d2 H6 d20 d21 k6 P6 => ?_
      obtain ⟨m2, e2⟩ : ∃ m : Nat, (m : Int) = 3 + d2 := ⟨(3 + d2).toNat, by omega⟩
      have hL6 := k6 L _ (by simpa using ne_of_pen P5 hL5) hL5
      repeat walk_at "rd"
      refine ⟨L, caps, m2, by rw [e2]; rfl, SqL.of hL6, hc, by omega, fun H7 k7 => ?_⟩
      have P7 := P6.keep k7 (by simp) (by simp) (Nat.le_refl _)
      have hL7 := k7 L _ (by simp) hL6
      repeat walk_at "rd"
      refine iteN (by decide) ?_
      repeat walk_at "rd"
      refine x_draw P7 (by omega) (by omega) (by omega) fun d3 H8 d30 d31 k8 P8 => ?_
      have hL8 := k8 L _ (by simpa using ne_of_pen P7 hL7) hL7
      obtain ⟨b, eb⟩ : ∃ b : Nat, (b : Int) = 1 + d3 := ⟨(1 + d3).toNat, by omega⟩
      repeat walk_at "rd"
      rw [← eb]
      refine ⟨RgOk.of_le (by omega) (by omega) (by omega) (by omega), fun R nR => ?_⟩
      rw [rg_up]
      have P9 := P8.keep ((Kx.refl [] H8).new (o := .lst (natV ((List.range b).map (· + 1)))) nR) (by simp) (by simp) (Nat.le_refl _)
      have hL9 := lk_ne (o := .lst (natV ((List.range b).map (· + 1)))) hL8 nR
      have hR9 : upd H8 R (.lst (natV ((List.range b).map (· + 1)))) R = some (.lst (natV ((List.range b).map (· + 1)))) := upd_same
      generalize upd H8 R (.lst (natV ((List.range b).map (· + 1)))) = H9 at *
      repeat walk_at "rd"
      refine x_draw P9 (by omega) (by omega) (by omega) fun d4 Ha d40 d41 ka Pa => ?_
      have hLa := ka L _ (by simpa using ne_of_pen P9 hL9) hL9
      have hRa := ka R _ (by simpa using ne_of_pen P9 hR9) hR9
      obtain ⟨m4, e4⟩ : ∃ m : Nat, (m : Int) = 1 + d4 := ⟨(1 + d4).toNat, by omega⟩
      repeat walk_at "rd"
      refine ⟨R, _, m4, by rw [e4]; rfl, SqL.of hRa, lims_up (by omega), by omega, fun Hb kb => ?_⟩
      repeat walk_at "rd"
      refine iteN (by decide) ?_
      repeat walk_at "rd"
      exact ⟨_, _, _, _, rfl, Pa.keep kb (by simp) (by simp) (by omega), fun _ => ⟨L, caps, rfl, kb L _ (by simp) hLa, hc⟩⟩
    · rintro σ H2 ⟨y2, y3, y4, y5, rfl, P2, hs⟩
      obtain ⟨L, caps, rfl, eL, hc⟩ := hs (by decide)
      have hL := SqL.of (K := K) eL
      repeat walk_at "rd"
      refine y_forR2 (by decide) (by decide) (by decide) (by decide) ⟨fun i σ H3 => ∃ (y2 y4 y5 : Option V), σ = [some (.ref a), some (.ref p), y2, some (.ref L), y4, y5] ∧ SqL K H3 L (natV caps), ⟨y2, y4, y5, rfl, hL⟩, fun _ _ _ _ _ => trivial, ?_, ?_⟩
      · rintro i x σ H3 H3' hi ⟨y2, y4, y5, rfl, hL3⟩ ⟨rfl, hx⟩
        have hi40 : i < 40 := hi
        have hx' : x = V.int ((i + 1 : Nat) : Int) := by
          rw [hx]
          show V.int (1 + (i : Int)) = _
          congr 1
          omega
        subst hx'
        repeat walk_at "rd"
        refine ⟨L, caps, i + 1, rfl, hL3, hc, by omega, fun H4 k4 => ?_⟩
        have hL4 := k4.sqL (by simp) hL3
        repeat walk_at "rd"
        refine iteN (by decide) ?_
        repeat walk_at "rd"
        refine ⟨i + 1, rfl, by omega, fun b H5 k5 hb1 hb2 hdet hmin => ?_⟩
        have hL5 := k5.sqL (by simp) hL4
        repeat walk_at "rd"
        refine iteN (by decide) ?_
        repeat walk_at "rd"
        refine iteN (decide_eq_false (by omega)) ?_
        repeat walk_at "rd"
        refine ⟨RgOk.of_le (by omega) (by omega) (by omega) (by omega), fun R nR => ?_⟩
        rw [rg_up]
        have hL6 := ((Kx.refl [] H5).new (o := .lst (natV ((List.range b).map (· + 1)))) nR).sqL (by simp) hL5
        have hR6 : SqL K (upd H5 R (.lst (natV ((List.range b).map (· + 1))))) R (natV ((List.range b).map (· + 1))) := SqL.of upd_same
        generalize upd H5 R (.lst (natV ((List.range b).map (· + 1)))) = H6 at *
        repeat walk_at "rd"
        refine ⟨R, _, i + 1, rfl, hR6, lims_up (by omega), by omega, fun H7 k7 => ?_⟩
        rw [hdet]
        have hL7 := k7.sqL (by simp) hL6
        repeat walk_at "rd"
        refine iteN (by decide) ?_
        repeat walk_at "rd"
        by_cases hb : 1 < b
        · refine iteP (decide_eq_true (by omega)) ?_
          repeat walk_at "rd"
          refine ⟨RgOk.of_le (by omega) (by omega) (by omega) (by omega), fun R2 nR2 => ?_⟩
          rw [show (b : Int) = ((b - 1 : Nat) : Int) + 1 by omega, rg_up]
          have hL8 := ((Kx.refl [] H7).new (o := .lst (natV ((List.range (b - 1)).map (· + 1)))) nR2).sqL (by simp) hL7
          have hR8 : SqL K (upd H7 R2 (.lst (natV ((List.range (b - 1)).map (· + 1))))) R2 (natV ((List.range (b - 1)).map (· + 1))) := SqL.of upd_same
          generalize upd H7 R2 (.lst (natV ((List.range (b - 1)).map (· + 1)))) = H8 at *
          repeat walk_at "rd"
          refine ⟨R2, _, i + 1, rfl, hR8, lims_up (by omega), by omega, fun H9 k9 => ?_⟩
          rw [hmin (b - 1) (by omega) (by omega)]
          repeat walk_at "rd"
          try refine iteN rfl ?_
          repeat walk_at "rd"
          exact ⟨_, _, _, rfl, k9.sqL (by simp) hL8⟩
        · refine iteN (decide_eq_false (by omega)) ?_
          repeat walk_at "rd"
          exact ⟨_, _, _, rfl, hL7⟩
      · rintro σ H3 ⟨y2, y4, y5, rfl, hL3⟩
        repeat walk_at "rd"
        refine ⟨2, rfl, by omega, fun b1 H4 k4 hb1 hb2 hdet hmin => ?_⟩
        obtain rfl : b1 = 1 := need_at hdet hmin hb1 (b0 := 1) (by decide) (by decide) (fun b' h1 h2 => absurd h1 (by omega))
        repeat walk_at "rd"
        refine ⟨8, rfl, by omega, fun b2 H5 k5 hb3 hb4 hdet2 hmin2 => ?_⟩
        obtain rfl : b2 = 4 := need_at hdet2 hmin2 hb3 (b0 := 4) (by decide) (by decide) (fun b' h1 h2 => by
          match b', h1, h2 with
          | 1, _, _ => decide
          | 2, _, _ => decide
          | 3, _, _ => decide)
        repeat walk_at "rd"
        rename_i q1 nq1 q2 nq2
        refine ⟨.list [.int 1, .int 4], .list [.int 1, .int 4], .lst (SqL.of (lk_ne upd_same nq2)) (.cons (.int _) (.cons (.int _) .nil)), .lst (SqL.of upd_same) (.cons (.int _) (.cons (.int _) .nil)), by decide, by decide, ?_⟩
        refine ⟨_, rfl, ?_⟩
        refine iteP (by decide) ?_
        repeat walk_at "rd"
        refine ⟨_, [5], 2, rfl, SqT.of upd_same, ⟨by decide, by decide, by decide⟩, by decide, ?_⟩
        repeat walk_at "rd"
        refine x_isBl ?_
        exact k _
end

theorem all_mk {l : PySem.W.OpenLaw} {w : World} {K : PySem.W.Frag} {h : Heap} {mg : Str → Option Value} {fa : Addr} (X : K.In h) (G : h.Ns mainGlobals mg) (hfa : mg "law" = some (.ref fa))
    (g_lcm : PySem.W.nsIn K mainGlobals "lcm" = some (some (.builtin "math.lcm")))
    {f_common_multiple : Addr} {od_common_multiple an_common_multiple : Option Addr} {sl_common_multiple : Array (Option Value)} {oc_common_multiple kV_common_multiple dc_common_multiple pm_common_multiple cd_common_multiple ct_common_multiple : Value}
    (a_common_multiple : PySem.W.nsIn K mainGlobals "_common_multiple" = some (some (.ref f_common_multiple))) (l_common_multiple : K.lookup f_common_multiple = some ⟨oc_common_multiple, od_common_multiple, .func (PySem.W.fnOf "_common_multiple" "_common_multiple" (defArgs sCommonMultiple) (defBody sCommonMultiple) (defScope sCommonMultiple) .none kV_common_multiple dc_common_multiple pm_common_multiple an_common_multiple cd_common_multiple ct_common_multiple), sl_common_multiple⟩)
    (c_common_multiple : PySem.W.codeIn K cd_common_multiple "_common_multiple" = true) (k_common_multiple : PySem.W.keepIn K (.ref f_common_multiple) = true)
    {f_determines : Addr} {od_determines an_determines : Option Addr} {sl_determines : Array (Option Value)} {oc_determines kV_determines dc_determines pm_determines cd_determines ct_determines : Value}
    (a_determines : PySem.W.nsIn K mainGlobals "determines" = some (some (.ref f_determines))) (l_determines : K.lookup f_determines = some ⟨oc_determines, od_determines, .func (PySem.W.fnOf "determines" "determines" (defArgs sDetermines) (defBody sDetermines) (defScope sDetermines) .none kV_determines dc_determines pm_determines an_determines cd_determines ct_determines), sl_determines⟩)
    (c_determines : PySem.W.codeIn K cd_determines "determines" = true) (k_determines : PySem.W.keepIn K (.ref f_determines) = true)
    {f_deciding_limits : Addr} {od_deciding_limits an_deciding_limits : Option Addr} {sl_deciding_limits : Array (Option Value)} {oc_deciding_limits kV_deciding_limits dc_deciding_limits pm_deciding_limits cd_deciding_limits ct_deciding_limits : Value}
    (a_deciding_limits : PySem.W.nsIn K mainGlobals "deciding_limits" = some (some (.ref f_deciding_limits))) (l_deciding_limits : K.lookup f_deciding_limits = some ⟨oc_deciding_limits, od_deciding_limits, .func (PySem.W.fnOf "deciding_limits" "deciding_limits" (defArgs sDecidingLimits) (defBody sDecidingLimits) (defScope sDecidingLimits) .none kV_deciding_limits dc_deciding_limits pm_deciding_limits an_deciding_limits cd_deciding_limits ct_deciding_limits), sl_deciding_limits⟩)
    (c_deciding_limits : PySem.W.codeIn K cd_deciding_limits "deciding_limits" = true) (k_deciding_limits : PySem.W.keepIn K (.ref f_deciding_limits) = true)
    {f_needed_bound : Addr} {od_needed_bound an_needed_bound : Option Addr} {sl_needed_bound : Array (Option Value)} {oc_needed_bound kV_needed_bound dc_needed_bound pm_needed_bound cd_needed_bound ct_needed_bound : Value}
    (a_needed_bound : PySem.W.nsIn K mainGlobals "needed_bound" = some (some (.ref f_needed_bound))) (l_needed_bound : K.lookup f_needed_bound = some ⟨oc_needed_bound, od_needed_bound, .func (PySem.W.fnOf "needed_bound" "needed_bound" (defArgs sNeededBound) (defBody sNeededBound) (defScope sNeededBound) .none kV_needed_bound dc_needed_bound pm_needed_bound an_needed_bound cd_needed_bound ct_needed_bound), sl_needed_bound⟩)
    (c_needed_bound : PySem.W.codeIn K cd_needed_bound "needed_bound" = true) (k_needed_bound : PySem.W.keepIn K (.ref f_needed_bound) = true)
    {f_law_source : Addr} {od_law_source an_law_source : Option Addr} {sl_law_source : Array (Option Value)} {oc_law_source kV_law_source dc_law_source pm_law_source cd_law_source ct_law_source : Value}
    (a_law_source : PySem.W.nsIn K mainGlobals "_law_source" = some (some (.ref f_law_source))) (l_law_source : K.lookup f_law_source = some ⟨oc_law_source, od_law_source, .func (PySem.W.fnOf "_law_source" "_law_source" (defArgs sQSource) (defBody sQSource) (defScope sQSource) .none kV_law_source dc_law_source pm_law_source an_law_source cd_law_source ct_law_source), sl_law_source⟩)
    (c_law_source : PySem.W.codeIn K cd_law_source "_law_source" = true) (k_law_source : PySem.W.keepIn K (.ref f_law_source) = true)
    {f_law_draw : Addr} {od_law_draw an_law_draw : Option Addr} {sl_law_draw : Array (Option Value)} {oc_law_draw kV_law_draw dc_law_draw pm_law_draw cd_law_draw ct_law_draw : Value}
    (a_law_draw : PySem.W.nsIn K mainGlobals "_law_draw" = some (some (.ref f_law_draw))) (l_law_draw : K.lookup f_law_draw = some ⟨oc_law_draw, od_law_draw, .func (PySem.W.fnOf "_law_draw" "_law_draw" (defArgs sQDraw) (defBody sQDraw) (defScope sQDraw) .none kV_law_draw dc_law_draw pm_law_draw an_law_draw cd_law_draw ct_law_draw), sl_law_draw⟩)
    (c_law_draw : PySem.W.codeIn K cd_law_draw "_law_draw" = true) (k_law_draw : PySem.W.keepIn K (.ref f_law_draw) = true)
    {f_law_limits : Addr} {od_law_limits an_law_limits : Option Addr} {sl_law_limits : Array (Option Value)} {oc_law_limits kV_law_limits dc_law_limits pm_law_limits cd_law_limits ct_law_limits : Value}
    (a_law_limits : PySem.W.nsIn K mainGlobals "_law_limits" = some (some (.ref f_law_limits))) (l_law_limits : K.lookup f_law_limits = some ⟨oc_law_limits, od_law_limits, .func (PySem.W.fnOf "_law_limits" "_law_limits" (defArgs sQLimits) (defBody sQLimits) (defScope sQLimits) .none kV_law_limits dc_law_limits pm_law_limits an_law_limits cd_law_limits ct_law_limits), sl_law_limits⟩)
    (c_law_limits : PySem.W.codeIn K cd_law_limits "_law_limits" = true) (k_law_limits : PySem.W.keepIn K (.ref f_law_limits) = true)
    {f_law_deciding : Addr} {od_law_deciding an_law_deciding : Option Addr} {sl_law_deciding : Array (Option Value)} {oc_law_deciding kV_law_deciding dc_law_deciding pm_law_deciding cd_law_deciding ct_law_deciding : Value}
    (a_law_deciding : PySem.W.nsIn K mainGlobals "_law_deciding" = some (some (.ref f_law_deciding))) (l_law_deciding : K.lookup f_law_deciding = some ⟨oc_law_deciding, od_law_deciding, .func (PySem.W.fnOf "_law_deciding" "_law_deciding" (defArgs sQDeciding) (defBody sQDeciding) (defScope sQDeciding) .none kV_law_deciding dc_law_deciding pm_law_deciding an_law_deciding cd_law_deciding ct_law_deciding), sl_law_deciding⟩)
    (c_law_deciding : PySem.W.codeIn K cd_law_deciding "_law_deciding" = true) (k_law_deciding : PySem.W.keepIn K (.ref f_law_deciding) = true)
    {f_law_determines : Addr} {od_law_determines an_law_determines : Option Addr} {sl_law_determines : Array (Option Value)} {oc_law_determines kV_law_determines dc_law_determines pm_law_determines cd_law_determines ct_law_determines : Value}
    (a_law_determines : PySem.W.nsIn K mainGlobals "_law_determines" = some (some (.ref f_law_determines))) (l_law_determines : K.lookup f_law_determines = some ⟨oc_law_determines, od_law_determines, .func (PySem.W.fnOf "_law_determines" "_law_determines" (defArgs sQDetermines) (defBody sQDetermines) (defScope sQDetermines) .none kV_law_determines dc_law_determines pm_law_determines an_law_determines cd_law_determines ct_law_determines), sl_law_determines⟩)
    (c_law_determines : PySem.W.codeIn K cd_law_determines "_law_determines" = true) (k_law_determines : PySem.W.keepIn K (.ref f_law_determines) = true)
    {f_law_right : Addr} {od_law_right an_law_right : Option Addr} {sl_law_right : Array (Option Value)} {oc_law_right kV_law_right dc_law_right pm_law_right cd_law_right ct_law_right : Value}
    (a_law_right : PySem.W.nsIn K mainGlobals "_law_right" = some (some (.ref f_law_right))) (l_law_right : K.lookup f_law_right = some ⟨oc_law_right, od_law_right, .func (PySem.W.fnOf "_law_right" "_law_right" (defArgs sQRight) (defBody sQRight) (defScope sQRight) .none kV_law_right dc_law_right pm_law_right an_law_right cd_law_right ct_law_right), sl_law_right⟩)
    (c_law_right : PySem.W.codeIn K cd_law_right "_law_right" = true) (k_law_right : PySem.W.keepIn K (.ref f_law_right) = true)
    {f_law : Addr} {od_law an_law : Option Addr} {sl_law : Array (Option Value)} {oc_law kV_law dc_law pm_law cd_law ct_law : Value}
    (a_law : PySem.W.nsIn K mainGlobals "law" = some (some (.ref f_law))) (l_law : K.lookup f_law = some ⟨oc_law, od_law, .func (PySem.W.fnOf "law" "law" (defArgs sLaw) (defBody sLaw) (defScope sLaw) .none kV_law dc_law pm_law an_law cd_law ct_law), sl_law⟩)
    (c_law : PySem.W.codeIn K cd_law "law" = true) (k_law : PySem.W.keepIn K (.ref f_law) = true)
    (z_len : PySem.W.nsIn K mainGlobals "len" = some none)
    (z_abs : PySem.W.nsIn K mainGlobals "abs" = some none)
    (z_int : PySem.W.nsIn K mainGlobals "int" = some none)
    (z_bool : PySem.W.nsIn K mainGlobals "bool" = some none)
    (z_list : PySem.W.nsIn K mainGlobals "list" = some none)
    (z_tuple : PySem.W.nsIn K mainGlobals "tuple" = some none)
    (z_min : PySem.W.nsIn K mainGlobals "min" = some none)
    (z_max : PySem.W.nsIn K mainGlobals "max" = some none)
    (z_sum : PySem.W.nsIn K mainGlobals "sum" = some none)
    (z_any : PySem.W.nsIn K mainGlobals "any" = some none)
    (z_all : PySem.W.nsIn K mainGlobals "all" = some none)
    (z_repr : PySem.W.nsIn K mainGlobals "repr" = some none)
    (z_sorted : PySem.W.nsIn K mainGlobals "sorted" = some none)
    (z_isinstance : PySem.W.nsIn K mainGlobals "isinstance" = some none)
    (z_range : PySem.W.nsIn K mainGlobals "range" = some none)
    (z_enumerate : PySem.W.nsIn K mainGlobals "enumerate" = some none) :
    ∃ fd : FuncData, (∀ (s : Shared) (v : Value), BindsTo s fd ⟨[v], []⟩ [("_law_script", v)]) ∧ ∀ base : Heap, K.In base → base.Ns mainGlobals mg → FnG l.prog w K mg base 4 fa fd ["_law_script"] (spLaw K) := by
  have e := hfa.symm.trans (PySem.W.mg_of X G a_law)
  cases e
  have T : Txt mg := ⟨PySem.W.mg_none_of X G z_len, PySem.W.mg_none_of X G z_abs, PySem.W.mg_none_of X G z_int, PySem.W.mg_none_of X G z_bool, PySem.W.mg_none_of X G z_list, PySem.W.mg_none_of X G z_tuple, PySem.W.mg_none_of X G z_min, PySem.W.mg_none_of X G z_max, PySem.W.mg_none_of X G z_sum, PySem.W.mg_none_of X G z_any, PySem.W.mg_none_of X G z_all, PySem.W.mg_none_of X G z_repr, PySem.W.mg_none_of X G z_sorted, PySem.W.mg_none_of X G z_isinstance, PySem.W.mg_none_of X G z_range, PySem.W.mg_none_of X G z_enumerate, PySem.W.mg_of X G g_lcm⟩
  have F_common_multiple := fun_mk (st := sCommonMultiple) l_common_multiple c_common_multiple k_common_multiple
  have F_determines := fun_mk (st := sDetermines) l_determines c_determines k_determines
  have F_deciding_limits := fun_mk (st := sDecidingLimits) l_deciding_limits c_deciding_limits k_deciding_limits
  have F_needed_bound := fun_mk (st := sNeededBound) l_needed_bound c_needed_bound k_needed_bound
  have F_law_source := fun_mk (st := sQSource) l_law_source c_law_source k_law_source
  have F_law_draw := fun_mk (st := sQDraw) l_law_draw c_law_draw k_law_draw
  have F_law_limits := fun_mk (st := sQLimits) l_law_limits c_law_limits k_law_limits
  have F_law_deciding := fun_mk (st := sQDeciding) l_law_deciding c_law_deciding k_law_deciding
  have F_law_determines := fun_mk (st := sQDetermines) l_law_determines c_law_determines k_law_determines
  have F_law_right := fun_mk (st := sQRight) l_law_right c_law_right k_law_right
  have F_law := fun_mk (st := sLaw) l_law c_law k_law
  refine ⟨PySem.W.fnOf "law" "law" (defArgs sLaw) (defBody sLaw) (defScope sLaw) .none kV_law dc_law pm_law an_law cd_law ct_law, fun s v => .of_eq rfl, fun base _ _ => ?_⟩
  have b_common_multiple := F_common_multiple.binds (ps := ["limits"]) fun _ _ _ _ _ _ us hl => match us, hl with | [_], _ => rfl
  have l_common_multiple : Lo l.prog w K mg base "_common_multiple" 1 ["limits"] (spCM K) := ⟨f_common_multiple, _, ok_cm F_common_multiple T, PySem.W.mg_of X G a_common_multiple, k_common_multiple, b_common_multiple⟩
  have x_determines : Lkx l.prog w K mg base "determines" 2 ["limits", "size"] ["size"] (gApp 1 1) (spDet K) := ⟨f_determines, _, gApp 1 1, ok_det F_determines T l_common_multiple, PySem.W.mg_of X G a_determines, k_determines, ⟨fun s us ws _ hl => by have h := gApp_to (n := 1) (m := 1) hl (by decide); obtain ⟨_, rfl⟩ := len1 h.1; obtain ⟨_, rfl⟩ := len1 h.2; exact .of_eq rfl, gApp_rel⟩⟩
  have lT_common_multiple : Lo l.prog w K mg base "_common_multiple" 1 ["limits"] (spCMT K) := ⟨f_common_multiple, _, ok_cmT F_common_multiple T, PySem.W.mg_of X G a_common_multiple, k_common_multiple, b_common_multiple⟩
  have xT_determines : Lkx l.prog w K mg base "determines" 2 ["limits", "size"] ["size"] (gApp 1 1) (spDetT K) := ⟨f_determines, _, gApp 1 1, ok_detT F_determines T lT_common_multiple, PySem.W.mg_of X G a_determines, k_determines, ⟨fun s us ws _ hl => by have h := gApp_to (n := 1) (m := 1) hl (by decide); obtain ⟨_, rfl⟩ := len1 h.1; obtain ⟨_, rfl⟩ := len1 h.2; exact .of_eq rfl, gApp_rel⟩⟩
  have kT_determines : Lkw l.prog w K mg base "determines" 2 ["limits", "size"] ["size", "limits"] (gRev 2) (spDetT K) := ⟨f_determines, _, gRev 2, ok_detT F_determines T lT_common_multiple, PySem.W.mg_of X G a_determines, k_determines, ⟨fun s ws _ hl => by have h := gRev_to (n := 2) hl (by decide); obtain ⟨_, _, rfl⟩ := len2 h; exact .of_eq rfl, gRev_rel⟩⟩
  have k_deciding_limits : Lkw l.prog w K mg base "deciding_limits" 1 ["limits", "size"] ["size", "limits"] (gRev 2) (spDecl K) := ⟨f_deciding_limits, _, gRev 2, ok_decl F_deciding_limits T, PySem.W.mg_of X G a_deciding_limits, k_deciding_limits, ⟨fun s ws _ hl => by have h := gRev_to (n := 2) hl (by decide); obtain ⟨_, _, rfl⟩ := len2 h; exact .of_eq rfl, gRev_rel⟩⟩
  have b_needed_bound := F_needed_bound.binds (ps := ["size"]) fun _ _ _ _ _ _ us hl => match us, hl with | [_], _ => rfl
  have l_needed_bound : Lo l.prog w K mg base "needed_bound" 3 ["size"] (spNeed) := ⟨f_needed_bound, _, ok_need F_needed_bound T x_determines, PySem.W.mg_of X G a_needed_bound, k_needed_bound, b_needed_bound⟩
  have k_needed_bound : Lkw l.prog w K mg base "needed_bound" 3 ["size"] ["size"] id (spNeed) := ⟨f_needed_bound, _, id, ok_need F_needed_bound T x_determines, PySem.W.mg_of X G a_needed_bound, k_needed_bound, ⟨fun s ws _ hl => match ws, hl with | [_], _ => .of_eq rfl, fun r => r⟩⟩
  have b_law_source := F_law_source.binds (ps := ["_law_script"]) fun _ _ _ _ _ _ us hl => match us, hl with | [_], _ => rfl
  have l_law_source : Lo l.prog w K mg base "_law_source" 1 ["_law_script"] (spPen K) := ⟨f_law_source, _, ok_pen F_law_source T, PySem.W.mg_of X G a_law_source, k_law_source, b_law_source⟩
  have b_law_draw := F_law_draw.binds (ps := ["_law_source_here", "_law_bound"]) fun _ _ _ _ _ _ us hl => match us, hl with | [_, _], _ => rfl
  have l_law_draw : Lo l.prog w K mg base "_law_draw" 1 ["_law_source_here", "_law_bound"] (spDraw) := ⟨f_law_draw, _, ok_draw F_law_draw T, PySem.W.mg_of X G a_law_draw, k_law_draw, b_law_draw⟩
  have b_law_limits := F_law_limits.binds (ps := ["_law_source_here"]) fun _ _ _ _ _ _ us hl => match us, hl with | [_], _ => rfl
  have l_law_limits : Lo l.prog w K mg base "_law_limits" 2 ["_law_source_here"] (spLims) := ⟨f_law_limits, _, ok_lims F_law_limits T l_law_draw, PySem.W.mg_of X G a_law_limits, k_law_limits, b_law_limits⟩
  have b_law_deciding := F_law_deciding.binds (ps := ["_law_some", "_law_many"]) fun _ _ _ _ _ _ us hl => match us, hl with | [_, _], _ => rfl
  have l_law_deciding : Lo l.prog w K mg base "_law_deciding" 1 ["_law_some", "_law_many"] (spDue K) := ⟨f_law_deciding, _, ok_due F_law_deciding T, PySem.W.mg_of X G a_law_deciding, k_law_deciding, b_law_deciding⟩
  have b_law_determines := F_law_determines.binds (ps := ["_law_some", "_law_many"]) fun _ _ _ _ _ _ us hl => match us, hl with | [_, _], _ => rfl
  have l_law_determines : Lo l.prog w K mg base "_law_determines" 2 ["_law_some", "_law_many"] (spLDet K) := ⟨f_law_determines, _, ok_ldet F_law_determines T l_law_deciding, PySem.W.mg_of X G a_law_determines, k_law_determines, b_law_determines⟩
  have b_law_right := F_law_right.binds (ps := ["_law_some", "_law_many"]) fun _ _ _ _ _ _ us hl => match us, hl with | [_, _], _ => rfl
  have l_law_right : Lk l.prog w K mg base "_law_right" 3 ["_law_some", "_law_many"] (spRight K) := ⟨f_law_right, _, ok_right F_law_right T x_determines kT_determines k_deciding_limits l_law_deciding l_law_determines, PySem.W.mg_of X G a_law_right, k_law_right, b_law_right⟩
  exact ok_law F_law T l_law_source l_law_draw l_law_limits l_law_right l_law_determines l_needed_bound k_needed_bound xT_determines
end SF
open PySem PySem.W PyProof.Rows in
set_option maxRecDepth 100000 in
set_option maxHeartbeats 0 in
theorem PySem.Challenge.cw_slotfall_k50_limits_that_determine_holds : PySem.Challenge.rw_slotfall_k50_limits_that_determine.Holds := by
  w_on; o_law; k_head; (case hw => w_witness2)
  k_fill
  refine SF.walkG (l := PySem.Challenge.rw_slotfall_k50_limits_that_determine) (n := 63) (k := 4) (x := "_law_script") (sp := SF.spLaw) rfl (by decide) rfl ⟨rfl, by decide, by decide⟩ (fun w h Y => PySem.W.kIn_of Y) ?F (fun _ _ a ns _ _ _ hS => ⟨a, ns, rfl, hS, fun _ => rfl⟩)
  case F =>
    intro w mg fa h KX G hmg
    refine' SF.all_mk KX G hmg ?g_lcm ?a_common_multiple ?l_common_multiple ?c_common_multiple ?k_common_multiple ?a_determines ?l_determines ?c_determines ?k_determines ?a_deciding_limits ?l_deciding_limits ?c_deciding_limits ?k_deciding_limits ?a_needed_bound ?l_needed_bound ?c_needed_bound ?k_needed_bound ?a_law_source ?l_law_source ?c_law_source ?k_law_source ?a_law_draw ?l_law_draw ?c_law_draw ?k_law_draw ?a_law_limits ?l_law_limits ?c_law_limits ?k_law_limits ?a_law_deciding ?l_law_deciding ?c_law_deciding ?k_law_deciding ?a_law_determines ?l_law_determines ?c_law_determines ?k_law_determines ?a_law_right ?l_law_right ?c_law_right ?k_law_right ?a_law ?l_law ?c_law ?k_law ?z_len ?z_abs ?z_int ?z_bool ?z_list ?z_tuple ?z_min ?z_max ?z_sum ?z_any ?z_all ?z_repr ?z_sorted ?z_isinstance ?z_range ?z_enumerate
    (case g_lcm => k_is)
    (case a_common_multiple => k_is)
    (case l_common_multiple => k_is)
    (case c_common_multiple => k_is)
    (case k_common_multiple => k_is)
    (case a_determines => k_is)
    (case l_determines => k_is)
    (case c_determines => k_is)
    (case k_determines => k_is)
    (case a_deciding_limits => k_is)
    (case l_deciding_limits => k_is)
    (case c_deciding_limits => k_is)
    (case k_deciding_limits => k_is)
    (case a_needed_bound => k_is)
    (case l_needed_bound => k_is)
    (case c_needed_bound => k_is)
    (case k_needed_bound => k_is)
    (case a_law_source => k_is)
    (case l_law_source => k_is)
    (case c_law_source => k_is)
    (case k_law_source => k_is)
    (case a_law_draw => k_is)
    (case l_law_draw => k_is)
    (case c_law_draw => k_is)
    (case k_law_draw => k_is)
    (case a_law_limits => k_is)
    (case l_law_limits => k_is)
    (case c_law_limits => k_is)
    (case k_law_limits => k_is)
    (case a_law_deciding => k_is)
    (case l_law_deciding => k_is)
    (case c_law_deciding => k_is)
    (case k_law_deciding => k_is)
    (case a_law_determines => k_is)
    (case l_law_determines => k_is)
    (case c_law_determines => k_is)
    (case k_law_determines => k_is)
    (case a_law_right => k_is)
    (case l_law_right => k_is)
    (case c_law_right => k_is)
    (case k_law_right => k_is)
    (case a_law => k_is)
    (case l_law => k_is)
    (case c_law => k_is)
    (case k_law => k_is)
    (case z_len => k_is)
    (case z_abs => k_is)
    (case z_int => k_is)
    (case z_bool => k_is)
    (case z_list => k_is)
    (case z_tuple => k_is)
    (case z_min => k_is)
    (case z_max => k_is)
    (case z_sum => k_is)
    (case z_any => k_is)
    (case z_all => k_is)
    (case z_repr => k_is)
    (case z_sorted => k_is)
    (case z_isinstance => k_is)
    (case z_range => k_is)
    (case z_enumerate => k_is)

