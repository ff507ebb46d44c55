import PyProof.Rows.All
import Wide.All
import OpenK.AllK
import Wide.FinOn
import HandS.ForMost
import HandS.Conv
import HandS.More
import HandS.Wide
import HandS.Style
import HandS.Flow
import HandS.EndBits
import HandS.Walk
import HandS.Steps
import KE.GoesEnum
import KE.GoesMore
import PyProof.ReprRoads
import PyProof.ReprLen
import HandS.DictComp
import HandS.SortInts
import HandS.TupAny
import HandS.SortKw
import KE.KMinBuiltin
import HandS.IsInst
import HandS.TryOnly
import KE.KMathG
import HandS.Gcd
import KE.DataFind
import HandS.Lambda
import HandS.EndTab
import KE.KNestM
import HandS.ExcInit
import HandS.ExcField
import HandS.ExcIs
import HandS.WordsExc
import HandS.ExcValue
import KE.KExcInit
import KE.KExcIs
import PySem.Challenge.RW_slotfall_k07_reach_certificates
set_option Elab.async false
set_option linter.all false
set_option maxRecDepth 100000
set_option maxHeartbeats 4000000
set_option autoImplicit false
namespace SF
open PySem PySem.Spec PyProof.Rows L2

/-! ### promises that may lean on an empty list of guards -/
structure FnG (P : Program) (w : World) (K : PySem.W.Frag) (mg : Str → Option Value) (base : Heap) (k : Nat) (f : Addr) (fd : FuncData) (ps : List Str) (sp : Sp) : Prop where
  len : ∀ vs H Q E, sp vs H Q E → vs.length = ps.length
  run : ∀ (A : Around) (outer : List Env) (s : Shared) (H : Hp) (args : Args) (us : List Value) (vs : List V) (Q : VK) (E : XK),
    A.guards = some [] → Room k A → Env0 P w K mg base A outer s H → BindsTo s fd args (ps.zip us) → Vals vs us → sp vs H Q E →
    codeAny (model P w) A (.call (.ref f) args) (CR CX0 outer P w H s Q E) s

section
variable {P : Program} {w : World} {K : PySem.W.Frag} {mg : Str → Option Value} {base : Heap}
theorem FnG.of {k : Nat} {f : Addr} {fd : FuncData} {ps : List Str} {sp : Sp} (F : FnOk P w K mg base CX0 k f fd ps sp) : FnG P w K mg base k f fd ps sp :=
  ⟨F.len, fun A o s H a us vs Q E _ hr => F.run A o s H a us vs Q E hr⟩
theorem fnG_of {k : Nat} {f : Addr} {name qual : Str} {params : Arguments} {body : List Stmt} {scope : Scope} {kV doc pm cdv ct oc : Value} {an od : Option Addr}
    {osl : Array (Option Value)} {N ps : List Str} {sp : Sp}
    (lk : K.lookup f = some ⟨oc, od, .func (PySem.W.fnOf name qual params body scope .none kV doc pm an cdv ct), osl⟩)
    (hcd : PySem.W.codeIn K cdv qual = true) (S : FnScope N ps scope)
    (len : ∀ vs H Q E, sp vs H Q E → vs.length = ps.length)
    (hbody : ∀ (A : Around) (outer : List Env) (s : Shared) (H : Hp) (vs : List V) (Q : VK) (E : XK),
      (A.deeper (envOfC qual scope s.heap.objs.size f cdv)).guards = some [] →
      Room k (A.deeper (envOfC qual scope s.heap.objs.size f cdv)) → sp vs H Q E →
      ∃ t, PSs (cxOf CX0 P w K mg base N qual scope f cdv A outer s H E) body t ∧ t { nx := fun _ H' => Q .non H', rt := Q } (start N vs) H) :
    FnG P w K mg base (k + 1) f (PySem.W.fnOf name qual params body scope .none kV doc pm an cdv ct) ps sp := by
  constructor
  · exact len
  intro A outer s H args us vs Q E hgd hr e0 hb r hsp
  have hl := len _ _ _ _ hsp
  have inK : K.In s.heap := e0.mod.kin.keeps fun b o e => (e0.bs b o e).1
  have lim : s.heap.NoLimit := e0.mod.nolimit.keeps fun b o e => (e0.bs b o e).1
  have kinds : ∀ y ∈ ps.zip us, scope.names.lookup y.1 = some .local ∨
      (scope.names.lookup y.1 = some .cell ∧ ((cellsFrom (s.heap.objs.size + 1) scope.names []).lookup y.1).isSome = true) := by
    rintro ⟨n, v⟩ hy
    rcases S.par n (List.of_mem_zip hy).1 with q | q
    · exact Or.inl q
    · exact Or.inr ⟨q, PySem.W.cellsFrom_some _ _ _ (.inl q)⟩
  have code := PySem.W.codeRec_of inK hcd
  refine codeAny_call_function hr.depth (inK _ _ lk) rfl S.co S.gen rfl code (hb _ _ _ _ ?_)
  refine wpAny_newFunctionEnv_cells S.kind kinds fun env he s1 x => ?_
  subst he
  refine ⟨lim.keeps x.toInCall.keep, codeAny_func ?_⟩
  obtain ⟨t, ht, hq⟩ := hbody A outer s H vs Q E hgd (hr.deeper _) hsp
  have I := inv_start (CX := CX0) (E := E) (N := N) S hr.hd e0 hl r x
  refine wpAny_mono (ht.run [] s1 (start N vs) H _ I hq) (fun fl s' hs => ?_) fun e s' hs => hs
  cases fl with
  | ret u =>
    obtain ⟨v, σ', H', J, rv, q⟩ := hs
    exact ⟨v, H', J.os, J.bare, J.base, J.hok, rv, q⟩
  | next =>
    obtain ⟨σ', H', J, q⟩ := hs
    exact ⟨V.non, H', J.os, J.bare, J.base, J.hok, rfl, q⟩
  | brk =>
    obtain ⟨_, _, _, q⟩ := hs
    exact q.elim
  | cont =>
    obtain ⟨_, _, _, q⟩ := hs
    exact q.elim
theorem FnG.body {x qual : Str} {st : Stmt} {f : Addr} {fd : FuncData} {N ps : List Str} {k : Nat} {sp : Sp} (F : Fun K x qual st f fd) (S : FnScope N ps (defScope st))
    (len : ∀ vs H Q E, sp vs H Q E → vs.length = ps.length)
    (hbody : ∀ (cdv : Value) (A : Around) (outer : List Env) (s : Shared) (H : Hp) (vs : List V) (Q : VK) (E : XK),
      (A.deeper (envOfC qual (defScope st) s.heap.objs.size f cdv)).guards = some [] → Room k (A.deeper (envOfC qual (defScope st) s.heap.objs.size f cdv)) → sp vs H Q E →
      ∃ t, PSs (cxOf CX0 P w K mg base N qual (defScope st) f cdv A outer s H E).nox (defBody st) t ∧ t { nx := fun _ H' => Q .non H', rt := Q } (start N vs) H) :
    FnG P w K mg base (k + 1) f fd ps sp := by
  obtain ⟨oc, od, kV, doc, pm, an, cdv, ct, osl, rfl, lk, hcd⟩ := F.ex
  refine fnG_of lk hcd S len fun A outer s H vs Q E hgd hr hsp => ?_
  obtain ⟨t, h, q⟩ := hbody cdv A outer s H vs Q E hgd hr hsp
  exact ⟨t, h.nox, q⟩
end

/-! ### links to a callee: its promise, its place, its binding -/
structure Lk (P : Program) (w : World) (K : PySem.W.Frag) (mg : Str → Option Value) (base : Heap) (x : Str) (k : Nat) (ps : List Str) (sp : Sp) : Prop where
  ex : ∃ (f : Addr) (fd : FuncData), FnG P w K mg base k f fd ps sp ∧ mg x = some (.ref f) ∧ PySem.W.keepIn K (.ref f) = true ∧ Binds K fd ps []
/-- a callee that asks nothing of the guards -/
structure Lo (P : Program) (w : World) (K : PySem.W.Frag) (mg : Str → Option Value) (base : Heap) (x : Str) (k : Nat) (ps : List Str) (sp : Sp) : Prop where
  ex : ∃ (f : Addr) (fd : FuncData), FnOk P w K mg base CX0 k f fd ps sp ∧ mg x = some (.ref f) ∧ PySem.W.keepIn K (.ref f) = true ∧ Binds K fd ps []
theorem Lo.lk {P : Program} {w : World} {K : PySem.W.Frag} {mg : Str → Option Value} {base : Heap} {x : Str} {k : Nat} {ps : List Str} {sp : Sp} (L : Lo P w K mg base x k ps sp) : Lk P w K mg base x k ps sp := by
  obtain ⟨f, fd, a, b, c, d⟩ := L.ex
  exact ⟨f, fd, .of a, b, c, d⟩
section
variable {X : Cx} {k : Nat} {ps : List Str} {sp : Sp} {x : Str} {p pos : Pos} {e : Expr} {es : List Expr} {t tk : TA} {kws : List Keyword}
/-- what the callee's run is -/
theorem runG {pins : List (Addr × Obj)} {σ : L2.St} {H : Hp} {s : Shared} {Q : VK} {f : Addr} {fd : FuncData} {us : List Value} {kw : List (Str × Value)} {vs : List V} {ws : List Value}
    (F : FnG X.prog X.w X.K X.mg X.base k f fd ps sp) (hgd : X.A.guards = some []) (hr : Room k X.A) (hb : BindsTo s fd ⟨us, kw⟩ (ps.zip ws)) (I : Inv X pins σ H s) (r : Vals vs ws) (h : sp vs H Q E0) :
    wpAny (model X.prog X.w) X.A (call (.ref f) us kw) (EP X pins σ Q) X.xe s := by
  refine wpAny_call (codeAny_mono (F.run X.A X.stack s H ⟨us, kw⟩ ws vs Q E0 hgd hr I.env0 hb r h) fun r s' hq => ?_)
  match r, hq with
  | .ok (.ret u), hq => exact I.after hq
  | .ok .next, hq => exact hq.elim
  | .ok .brk, hq => exact hq.elim
  | .ok .cont, hq => exact hq.elim
  | .error e, hq => exact False.elim hq
theorem run0 {pins : List (Addr × Obj)} {σ : L2.St} {H : Hp} {s : Shared} {Q : VK} {f : Addr} {fd : FuncData} {us : List Value} {kw : List (Str × Value)} {vs : List V} {ws : List Value}
    (F : FnOk X.prog X.w X.K X.mg X.base CX0 k f fd ps sp) (hr : Room k X.A) (hb : BindsTo s fd ⟨us, kw⟩ (ps.zip ws)) (I : Inv X pins σ H s) (r : Vals vs ws) (h : sp vs H Q E0) :
    wpAny (model X.prog X.w) X.A (call (.ref f) us kw) (EP X pins σ Q) X.xe s := by
  refine wpAny_call (codeAny_mono (F.run X.A X.stack s H ⟨us, kw⟩ ws vs Q E0 hr I.env0 hb r h) fun r s' hq => ?_)
  match r, hq with
  | .ok (.ret u), hq => exact I.after hq
  | .ok .next, hq => exact hq.elim
  | .ok .brk, hq => exact hq.elim
  | .ok .cont, hq => exact hq.elim
  | .error e, hq => exact False.elim hq
/-- x(e, ..) -/
theorem pe_lo (L : Lo X.prog X.w X.K X.mg X.base x k ps sp) (hr : Room k X.A) (hg : Gl X x) (ha : PA X (e :: es) t)
    (hdb : (x == ("__debug__" : Str)) = false := by decide) (he : starEach (e :: es) X.env = (false, eval e X.env) :: starEach es X.env := by rfl) (hpl : (backTo pos (starEach es X.env)).any (·.1) = false := by rfl) :
    PE X (.Call (.Name x p) (e :: es) [] pos) (tCall sp [] E0 t) := by
  obtain ⟨f, fd, F, hm, hk, hb⟩ := L.ex
  exact pe_call F hr hg hm hk hb .nil pass0 ha hdb he hpl
theorem pe_lk (L : Lk X.prog X.w X.K X.mg X.base x k ps sp) (hgd : X.A.guards = some []) (hr : Room k X.A) (hg : Gl X x) (ha : PA X (e :: es) t)
    (hdb : (x == ("__debug__" : Str)) = false := by decide) (he : starEach (e :: es) X.env = (false, eval e X.env) :: starEach es X.env := by rfl) (hpl : (backTo pos (starEach es X.env)).any (·.1) = false := by rfl) :
    PE X (.Call (.Name x p) (e :: es) [] pos) (tCall sp [] E0 t) := by
  obtain ⟨f, fd, F, hm, hk, hb⟩ := L.ex
  constructor
  intro pins s σ H Q I h
  refine wpAny_Call_Name_kw (ld_glob I hg hm ?_ hdb)
  refine PySem.W.callWith_K (h₀ := X.base) I.ok.mod.kin hk (thn (ha.run pos pins s σ H _ I h) ?_) he hpl
  rintro us s1 ⟨vs, H1, I1, r, q⟩
  have q' : sp vs H1 Q E0 := by simpa using q
  have hl : us.length = ps.length := r.length ▸ F.len _ _ _ _ q'
  have hb1 := hb s1 us I1.kIn (by simpa using hl)
  simp only [List.append_nil] at hb1
  exact ⟨I1.kIn, runG F hgd hr hb1 I1 r q'⟩
/-- the promise at the keywords' values in the parameters' order: gV -/
def tCallKw (sp : Sp) (gV : List V → List V) (tk : TA) : TE := fun σ H Q => tk σ H fun zs H1 => sp (gV zs) H1 Q E0
structure KB (K : PySem.W.Frag) (fd : FuncData) (ps ks : List Str) (g : List Value → List Value) (gV : List V → List V) : Prop where
  to : ∀ (s : Shared) (ws : List Value), K.In s.heap → (g ws).length = ps.length → BindsTo s fd ⟨[], ks.zip ws⟩ (ps.zip (g ws))
  rel : ∀ {zs : List V} {ws : List Value}, Vals zs ws → Vals (gV zs) (g ws)
/-- x(k = v, ..) -/
theorem pe_kw0 {f : Addr} {fd : FuncData} {ks : List Str} {g : List Value → List Value} {gV : List V → List V} (F : FnOk X.prog X.w X.K X.mg X.base CX0 k f fd ps sp) (hr : Room k X.A) (hg : Gl X x) (hm : X.mg x = some (.ref f)) (hk : PySem.W.keepIn X.K (.ref f) = true)
    (hb : KB X.K fd ps ks g gV) (hkw : PK X kws tk)
    (hall : (backToKw pos (keywordEach kws X.env)).all (·.1.isSome) = true := by rfl) (hks : (backToKw pos (keywordEach kws X.env)).filterMap (·.1) = ks := by rfl)
    (hdb : (x == ("__debug__" : Str)) = false := by decide)
    (hpl : ((backTo pos (starEach [] X.env)).any (·.1) || (backToKw pos (keywordEach kws X.env)).any (·.1.isNone)) = false := by rfl) :
    PE X (.Call (.Name x p) [] kws pos) (tCallKw sp gV tk) := by
  constructor
  intro pins s σ H Q I h
  refine wpAny_Call_Name_kw (ld_glob I hg hm ?_ hdb)
  refine PySem.W.callWith_KW0 (h₀ := X.base) I.ok.mod.kin hk hall ?_ hpl
  refine thn (hkw.run pos pins s σ H _ I h) ?_
  rintro ws s2 ⟨zs, H2, I2, rz, q2⟩
  refine ⟨I2.kIn, ?_⟩
  rw [hks]
  have r2 := hb.rel rz
  have hl : (g ws).length = ps.length := r2.length ▸ F.len _ _ _ _ q2
  exact run0 F hr (hb.to s2 ws I2.kIn hl) I2 r2 q2
end

/-! ### repr of data -/
section
variable {X : Cx}
def rRepr (K : PySem.W.Frag) : List V → Hp → VK → Prop := fun xs H Q => ∃ a d, xs = [.ref a] ∧ Dp K H (.ref a) d ∧ d.showable = true ∧ d.hasDict = false ∧ d.depth ≤ 60 ∧ d.shown.length ≤ sizeLine ∧ Q (.str d.shown) H
theorem call_repr (hgd : X.A.guards = some []) (hu : X.A.units + 64 < cLine) : CallR X (.builtin "repr") (rRepr X.K) := by
  intro pins s σ H xs us Q I r h
  obtain ⟨a, d, rfl, hd, h1, h2, h3, h4, q⟩ := h
  rw [Vals.ref1 r]
  obtain ⟨as, hr⟩ := Dp.reads I d _ (.ref a) hd rfl
  refine repr_of_reads' hr h1 (PyData.noDict_hsm h2) hgd (by omega) (fun _ _ e => e) (fun h' u tk hk => ?_) h4
  exact ⟨.str d.shown, H, I.kept hk, ⟨u, rfl⟩, q⟩
end


/-! ### enumerate(tuple) -/
theorem meets_enum_newT (l : Addr) (items : Array Value) :
    Meets (Builtin.«enumerate.__new__» ⟨[.type "enumerate", .ref l], []⟩) (fun _ R s => s.heap.IsTuple l items ∧
      R (.ok (.ret (.ref (s.heap.push { cls := .type "tuple_iterator", data := .fields #[.ref l, .int 0 0] }).objs.size)))
        { s with heap := (s.heap.push { cls := .type "tuple_iterator", data := .fields #[.ref l, .int 0 0] }).push { cls := .type "enumerate", data := .fields #[.none, .bool false, .ref s.heap.objs.size, rawInt 0, .none, .none] } }) :=
  .of_wp fun prog w A R s h => by
    obtain ⟨hp, g, d, tk, os⟩ := s
    obtain ⟨hl, h⟩ := h
    have hsub := sub_enumerate
    have hT : Heap.IsTuple (Shared.heap ⟨hp, g, d, tk, os⟩) l items := hl
    obtain ⟨⟨c, dct, dt, sl⟩, ho, hc, n, hd⟩ := id hl
    replace hc : c = .type "tuple" := hc
    replace hd : dt = .seq items n := hd
    subst hc hd
    wp_walk using AutoSeq1.wpAny_loadPart' ho
    refine wpAny_stack_any fun st => wpAny_pure ?_
    split
    · rename_i c _ _ _ _ _
      cases (c == Value.type "enumerate")
      · wp_walk using AutoSeq1.wpAny_loadPart' ho, wpAny_pyIter_tuple hT
        exact ⟨_, rfl, h⟩
      · wp_walk using AutoSeq1.wpAny_loadPart' ho, wpAny_pyIter_tuple hT
        exact ⟨_, rfl, h⟩
    · wp_walk using AutoSeq1.wpAny_loadPart' ho, wpAny_pyIter_tuple hT
      exact ⟨_, rfl, h⟩
theorem call_enum_tup {prog : Program} {w : World} {A : Around} {E : Value → Shared → Prop} {s : Shared} {l : Addr} {items : Array Value} {Q : Value → Shared → Prop} (hL : s.heap.IsTuple l items)
    (h : ∀ h', IsEnum h' (s.heap.objs.size + 1) s.heap.objs.size 0 .none → h'.IsTupleIter s.heap.objs.size l 0 → h'.objs.size = s.heap.objs.size + 2 →
      (∀ b o, s.heap.get? b = some o → h'.get? b = some o) → Q (.ref (s.heap.objs.size + 1)) { s with heap := h' }) :
    wpAny (model prog w) A (call (.type "enumerate") [.ref l]) Q E s := by
  refine callType_new F.called_enumerate (by decide) (F.typeCall_enumerate_1 _) (F.newCall_enumerate_1 _) (fun obj => F.args_object_init_2 obj _) F.entry_enumerate_new (meets_enum_newT l items) ⟨hL, ?_⟩
  have hz : (s.heap.push { cls := .type "tuple_iterator", data := .fields #[.ref l, .int 0 0] }).objs.size = s.heap.objs.size + 1 := Heap.size_push ..
  show _ ∧ _
  rw [hz]
  have he := Heap.get?_push_size (s.heap.push { cls := .type "tuple_iterator", data := .fields #[.ref l, .int 0 0] })
      (o := { cls := .type "enumerate", data := .fields #[.none, .bool false, .ref s.heap.objs.size, rawInt 0, .none, .none] }) rfl
  rw [hz] at he
  refine ⟨⟨_, he, rfl⟩, h _ he ⟨_, Heap.get?_push_of_some _ (Heap.get?_push_size _ rfl), rfl, rfl⟩ (by rw [Heap.size_push, hz]) ?_⟩
  exact fun b o x => Heap.get?_push_of_some _ (Heap.get?_push_of_some _ x)
def IteT (K : PySem.W.Frag) (a : Addr) : It where
  go := fun i H => ∃ (xs : List V) (x : V), SqT K H a xs ∧ xs[i]? = some x
  yld := fun i H v H' => ∃ T x, v = .ref T ∧ H T = none ∧ H' = upd H T (.tup [.int (i : Nat), x]) ∧ ∀ xs, SqT K H a xs → xs[i]? = some x
  stop := fun i H => ∃ xs : List V, SqT K H a xs ∧ xs.length ≤ i
theorem turn_enumT {P : Program} {w : World} {K : PySem.W.Frag} {elts : List Expr} {kk : Nat} {tpos : Pos} (a e it : Addr) :
    Turn P w K (.Tuple elts kk tpos) (IteT K a) [e, it] e (fun i h => (∃ old, IsEnum h e it ((i : Nat) : Int) old) ∧ h.IsTupleIter it a i ∧ e ≠ it) where
  mem := List.mem_cons_self
  obj := by
    rintro i h ⟨⟨old, he⟩, ⟨o, ho, hc, hd⟩, _⟩ b hb
    have cs : b = e ∨ b = it := by simpa using hb
    rcases cs with rfl | rfl
    · exact ⟨_, he, fun v q => nomatch q⟩
    · exact ⟨o, ho, fun v q => by rw [hd] at q; cases q⟩
  keep := by
    rintro i h h' ⟨⟨old, he⟩, hi, hne⟩ k
    exact ⟨⟨old, k e (by simp) _ he⟩, hi.at fun o q => k it (by simp) o q, hne⟩
  item := by
    intro X hP hw hK hc i pins s σ H E I hf st hg
    subst hP hw hK
    obtain ⟨⟨old, he⟩, hit, hne⟩ := st
    obtain ⟨xs, x, hq, hx⟩ := hg
    obtain ⟨its, rv, p, hz⟩ := I.tuple hq
    obtain ⟨u, hu, ru⟩ := rv.get hx
    have hel : e < s.heap.objs.size := Heap.lt_size he
    have hil : it < s.heap.objs.size := by
      obtain ⟨_, q, _⟩ := hit
      exact Heap.lt_size q
    have hha : X.A.in1.handled = none := I.ok.hd hc
    have pa : s.heap.IsTuple a its.toArray := p
    have nai : a ≠ it := by
      rintro rfl
      obtain ⟨o, q1, q2, q3⟩ := hit
      obtain ⟨o', q1', q2', n', q3'⟩ := pa
      rw [q1] at q1'
      cases q1'
      rw [q3] at q3'
      cases q3'
    have nae : a ≠ e := by
      rintro rfl
      obtain ⟨o', q1', q2', n', q3'⟩ := pa
      rw [show s.heap.get? a = _ from he] at q1'
      cases q1'
      cases q3'
    refine wpAny_pyNext_enum_itemD (n := its.toArray.size) (Draws.tuple hha it a nai its.toArray) he ⟨hit, pa⟩ (by have := List.getElem?_eq_some_iff.mp hu; obtain ⟨q, _⟩ := this; simpa using q) hne (by simp [hne, Ne.symm nae]) fun y h' tk hy ho hst hT hsz hk => ?_
    have ey : y = u := by
      have hy' : its.toArray[i]? = some y := hy
      have : its[i]? = some y := by simpa using hy'
      rw [hu] at this
      exact (Option.some.inj this).symm
    subst ey
    refine ⟨_, rfl, wpAny_letOwnedTupleGo_enum (s := { s with heap := h', toks := tk + 1 }) ho fun h'' he' sb => ?_⟩
    have hT2 : h''.get? s.heap.objs.size = some { cls := .type "tuple", data := .seq #[.int i tk, y] } := (sb.2 _ (Nat.ne_of_gt hel)).trans hT
    have new : ObjOk X.prog X.w (upd H s.heap.objs.size (.tup [.int (i : Nat), x])) h'' s.heap.objs.size (.tup [.int (i : Nat), x]) :=
      ⟨by show 2 ≤ sizeLine; decide, [.int i tk, y], .cons ⟨_, rfl⟩ (.cons ru .nil), ⟨_, hT2, rfl, _, rfl⟩⟩
    have I1 : Inv X pins σ (upd H s.heap.objs.size (.tup [.int (i : Nat), x])) { s with heap := h'', toks := tk + 1 } :=
      I.turnedNew (ch := [e, it]) (fun b ob hb q => (sb.2 b (fun z => hb (by simp [z]))).trans (hk b ob (fun z => hb (by simp [z])) (fun z => hb (by simp [z])) q)) hf (Nat.le_refl _) new
    refine ⟨.ref s.heap.objs.size, _, I1, rfl, ⟨_, x, rfl, I.hok.fresh (Nat.le_refl _), rfl, fun ys hy => by rw [I.tuple_inj hy hq]; exact hx⟩, ⟨⟨y, ?_⟩, hst.1.at fun o q => (sb.2 it (Ne.symm hne)).trans q, hne⟩, fun b hb => ?_⟩
    · have e1 : ((i + 1 : Nat) : Int) = (i : Int) + 1 := by omega
      rw [e1]
      exact he'
    · have cs : b = e ∨ b = it := by simpa using hb
      have hb' : b < s.heap.objs.size := by
        rcases cs with rfl | rfl
        · exact hel
        · exact hil
      rw [upd_ne (Nat.ne_of_lt hb')]
      exact (hf b hb).1
  done := by
    intro X hP hw hK hc i pins s σ H E I hf st hg
    subst hP hw hK
    obtain ⟨⟨old, he⟩, hit, hne⟩ := st
    obtain ⟨xs, hq, hx⟩ := hg
    obtain ⟨its, rv, p, hz⟩ := I.tuple hq
    obtain ⟨f0, f1, f2, f3, f4, f5⟩ := hf it (by simp)
    have pa : s.heap.IsTuple a its.toArray := p
    have hha : X.A.in1.handled = none := I.ok.hd hc
    have nai : a ≠ it := by
      rintro rfl
      obtain ⟨o, q1, q2, q3⟩ := hit
      obtain ⟨o', q1', q2', n', q3'⟩ := pa
      rw [q1] at q1'
      cases q1'
      rw [q3] at q3'
      cases q3'
    -- an iterator behind the end stands like one at the end: the next of it is told apart
    unfold pyNext
    have hT : s.TypeIs (.ref e) "enumerate" := ⟨_, he, rfl⟩
    refine wpAny_bind (wpAny_attempt (wpAny_callSpecial?_slot (name := Str.ofString "__next__") hT F.slot_enumerate_next
      (wpAny_call_entry F.slot_enumerate_next hT F.entry_enumerate_next ?_ (F.args_enumerate_next_1 _))))
    show wpAny _ _ (field (.ref e) 2 >>= _) _ _ _
    refine wpAny_bind (wpAny_field he rfl (x := .ref it) rfl ?_)
    refine wpAny_bind (wpAny_nextOf_tuple_end hha hit pa (by simp; have := rv.length; omega) fun h' x he' hx' => ?_)
    obtain ⟨o, ho, hc⟩ := hx'
    refine wpAny_bind (wpAny_isInstance (T := "StopIteration") (b := true) ⟨o, ho, hc⟩ isSubtype_stop ?_)
    exact wpAny_pure ⟨rfl, I.turned (t' := s.toks) (fun b o hb q => he' b o hb q) f0 f1 f3 f4 f5⟩
  self := fun A i s Q E st h => let ⟨⟨_, he⟩, _⟩ := st; wpAny_pyIter_enum he h
def iEnumT (K : PySem.W.Frag) (ta : TA) : TI := fun σ H R => ta σ H fun vs H1 => ∃ a xs, vs = [.ref a] ∧ SqT K H1 a xs ∧ R (IteT K a) H1
theorem pi_enumT {X : Cx} {e : Expr} {ta : TA} {p pos tpos : Pos} {elts : List Expr} {kk : Nat} (hg : Gl X "enumerate") (hm : X.mg "enumerate" = none) (ha : PA X [e] ta)
    (hs : starEach [e] X.env = [(false, eval e X.env)] := by rfl) : PI X (.Tuple elts kk tpos) (.Call (.Name "enumerate" p) [e] [] pos) (iEnumT X.K ta) := by
  constructor
  intro pins s σ H R I h
  refine Call_ (ld_blt I hg hm boot_enumerate (PyProof.Rows.callWith_type1 (thn (ha.run pos pins s σ H _ I h) ?_) hs rfl))
  rintro us s1 ⟨vs, H1, I1, r1, a, xs, ex, hq, q⟩
  subst ex
  rw [Vals.ref1 r1]
  obtain ⟨its, rv, p', hz⟩ := I1.tuple hq
  refine call_enum_tup p' fun h' he hit hsz hk => wpAny_pyIter_enum he ?_
  have I2 : Inv X pins σ H1 { s1 with heap := h' } := I1.kept (t' := s1.toks) hk
  refine ⟨s1.heap.objs.size + 1, [s1.heap.objs.size + 1, s1.heap.objs.size], _, _, H1, rfl, I2, turn_enumT a (s1.heap.objs.size + 1) s1.heap.objs.size, ⟨⟨.none, he⟩, hit, Nat.succ_ne_self _⟩, fun b hb => ?_, q⟩
  have cs : b = s1.heap.objs.size + 1 ∨ b = s1.heap.objs.size := by simpa using hb
  have hle : s1.heap.objs.size ≤ b := by
    rcases cs with z | z
    · rw [z]
      exact Nat.le_succ _
    · rw [z]
      exact Nat.le_refl _
  exact I1.fpOk hle (I1.hok.fresh hle)
theorem walk_enumT {K : PySem.W.Frag} {a : Addr} {xs : List V} : Walk (IteT K a) xs.length (fun H => SqT K H a xs) (YPair (fun i => some (.int (i : Nat))) (fun i => xs[i]?)) := by
  refine ⟨fun i _ hi q => ⟨xs, xs[i], q, by simp [hi]⟩, fun _ q => ⟨xs, q, Nat.le_refl _⟩, ?_⟩
  rintro i H v H' _ q ⟨T, x, h1, h2, h3, h4⟩
  exact ⟨T, .int (i : Nat), x, h1, h2, h3, rfl, h4 xs q⟩

/-! ### tuple.count of flat items -/
section
variable {X : Cx}
def rCountT (K : PySem.W.Frag) : V → List V → Hp → VK → Prop := fun x vs H Q => ∃ (a : Addr) (ys : List V) (y : V), x = V.ref a ∧ vs = [y] ∧ SqT K H a ys ∧ flatV y = true ∧ ys.all flatV = true ∧ Q (.int ((ys.countP fun z => eqV z y : Nat) : Int)) H
theorem countP_vals {y : V} : ∀ {xs : List V} {us : List Value}, Vals xs us → xs.all flatV = true → us.countP (eqU y) = xs.countP fun z => eqV z y
  | _, _, .nil, _ => rfl
  | x :: xs, u :: us, .cons r t, f => by
    rw [List.all_cons, Bool.and_eq_true] at f
    rw [List.countP_cons, List.countP_cons, countP_vals t f.2, eqU_of r f.1]
theorem mt_countT : MtR X "tuple.count" (rCountT X.K) := by
  intro pins s σ H x xs v us Q I rx rxs h
  obtain ⟨a, ys, y, rfl, rfl, hs, fy, fys, q⟩ := h
  cases rx
  cases rxs with
  | cons ry rt =>
    rename_i uy ut
    cases rt
    obtain ⟨its, rv, ⟨o, ho, hc, n, hd⟩, hlen⟩ := I.tuple hs
    obtain ⟨cls, dd, data, sl⟩ := o
    replace hc : cls = _ := hc
    replace hd : data = _ := hd
    subst hc hd
    refine call_meets PySem.F.slot_tuple_count ⟨_, ho, rfl⟩ PySem.F.entry_tuple_count (PySem.F.args_tuple_count_2 _ _)
      (SeqAt.tuple_countAt a its.toArray n dd sl uy (eqU y)) ⟨ho, fun u' hu' => mem_eqAt ry fy rv fys u' (by simpa using hu'), ?_⟩
    have e1 : its.toArray.toList.countP (eqU y) = ys.countP fun z => eqV z y := by
      rw [List.toList_toArray]
      exact countP_vals rv fys
    rw [e1]
    exact ⟨.int ((ys.countP fun z => eqV z y : Nat) : Int), H, I.tok _, ⟨_, rfl⟩, q⟩
end


/-- the law's own run from an abstract heap that knows the script alone, where the promise may lean on the empty list of guards -/
theorem lawG {P : Program} {w : World} {K : PySem.W.Frag} {mg mb : Str → Option Value} {k : Nat} {fa a : Addr} {fd : FuncData} {x : Str} {sp : Sp} {s₁ : Shared} {vs : List Value} {ns : List Int}
    (KX : K.In s₁.heap) (hns : s₁.heap.Ns mainGlobals mg) (hb : s₁.heap.Ns builtinsNs mb) (hbb : ∀ x : Str, x ≠ "__name__" → mb x = bootBuiltins x) (hlim : s₁.heap.NoLimit) (hg : s₁.gens = #[])
    (ha : s₁.heap.get? a = some { cls := .type "list", data := .seq vs.toArray }) (hi : IntsAre vs ns) (hl : ns.length ≤ sizeLine) (hr : Room k callerA)
    (F : ∀ base : Heap, K.In base → base.Ns mainGlobals mg → FnG P w K mg base k fa fd [x] sp) (hbind : ∀ (s : Shared) (u : Value), BindsTo s fd ⟨[u], []⟩ [(x, u)])
    (hsp : ∀ H : Hp, Only H → SqL K H a (ns.map V.int) → sp [.ref a] H (fun v _ => v = .bl true) E0) :
    codeAny (model P w) callerA (.call (.ref fa) ⟨[.ref a], []⟩)
      (fun r s' => r = .ok (.ret (.bool true)) ∧ OldK s₁.heap s'.heap ∧ s'.os = s₁.os ∧ AllBare s'.gens) s₁ := by
  have rv := vals_ints hi
  have lenV := hi.length
  have core : ∀ H : Hp, Only H → SqL K H a (ns.map V.int) → HOk P w H s₁.heap → (∀ b, H b ≠ none → b = a) → (H a ≠ none → K.lookup a = none) →
      codeAny (model P w) callerA (.call (.ref fa) ⟨[.ref a], []⟩)
        (fun r s' => r = .ok (.ret (.bool true)) ∧ OldK s₁.heap s'.heap ∧ s'.os = s₁.os ∧ AllBare s'.gens) s₁ := by
    intro H hO hS hok hA hK
    have dicts : ∀ {b : Addr} {o : Obj} {es : Array DictEntry} {ep : Nat}, s₁.heap.get? b = some o → o.data = .dict es ep → H b = none := by
      intro b o es ep e d
      match q : H b with
      | none => rfl
      | some u =>
        have eb : b = a := hA b (by rw [q]; simp)
        rw [eb, ha] at e
        rw [← Option.some.inj e] at d
        cases (show Data.seq vs.toArray _ = Data.dict es ep from d)
    have ns' : ∀ {b : Addr} {m : Str → Option Value}, s₁.heap.Ns b m → (hidT s₁.heap H).Ns b m := by
      rintro b m ⟨o, es, ep, e, d, r⟩
      exact ⟨o, es, ep, hidT_get e (dicts e d), d, r⟩
    have inK : K.In (hidT s₁.heap H) := by
      intro b o e
      refine hidT_get (KX b o e) ?_
      match q : H b with
      | none => rfl
      | some u =>
        have eb : b = a := hA b (by rw [q]; simp)
        rw [eb, hK (by rw [← eb, q]; simp)] at e
        cases e
    have md : Mod K mg (hidT s₁.heap H) := by
      obtain ⟨mc, h1, h2⟩ := hlim
      exact ⟨inK, ns' hns, ⟨mb, ns' hb, hbb⟩, ⟨mc, ns' h1, h2⟩⟩
    have e0 : Env0 P w K mg (hidT s₁.heap H) callerA [] s₁ H := by
      refine ⟨rfl, md, fun b o e => of_hidT e, ?_, trivial, ?_, hok, .of_eq hg⟩
      · exact Nat.le_of_eq (hidT_size _ _)
      · exact fun b hb => absurd (show b ∈ ([] : List Addr) from hb) (by simp)
    have run := (F _ inK (ns' hns)).run callerA [] s₁ H ⟨[.ref a], []⟩ [.ref a] [.ref a] _ _ rfl hr e0 (hbind s₁ (.ref a)) (.cons rfl .nil) (hsp H hO hS)
    refine codeAny_mono run fun r s' h => ?_
    match r, h with
    | .error e, h => exact False.elim h
    | .ok .next, h => exact False.elim h
    | .ok .brk, h => exact False.elim h
    | .ok .cont, h => exact False.elim h
    | .ok (.ret u), h =>
      obtain ⟨v, H', os, bare, un, hok', r', q⟩ := h
      replace q : v = .bl true := q
      subst q
      obtain rfl : u = Value.bool true := r'
      refine ⟨rfl, OldK.of_keep ?_, os, bare⟩
      intro b o e
      match q : H b with
      | none => exact un.keep b o e q (fun z => absurd (show b ∈ ([] : List Addr) from z) (by simp)) (by simp)
      | some u =>
        rcases hO b with z | ⟨ob, xs, z⟩
        · rw [q] at z
          cases z
        · obtain ⟨e1, _⟩ := hok b _ z
          obtain ⟨e2, _⟩ := hok' b _ (un.frzs b ob _ z)
          rw [e] at e1
          rw [Option.some.inj e1]
          exact e2
  match hk : K.lookup a with
  | some o =>
    have e := KX a o hk
    rw [ha] at e
    have eo := Option.some.inj e
    subst eo
    refine core (fun _ => none) (fun _ => .inl rfl) (.inr ⟨_, vs.toArray, _, hk, rfl, rfl, rfl, ?_, by simpa using rv⟩) (fun b u z => ?_) (fun b z => absurd rfl z) fun z => absurd rfl z
    · rw [List.size_toArray, lenV]
      exact hl
    · cases (show (none : Option HO) = some u from z)
  | none =>
    let Hs : Hp := fun b => if b = a then some (.frz { cls := .type "list", data := .seq vs.toArray } (.lst (ns.map V.int))) else none
    have hs1 : Hs a = some (.frz { cls := .type "list", data := .seq vs.toArray } (.lst (ns.map V.int))) := if_pos rfl
    have hs2 : ∀ b, b ≠ a → Hs b = none := fun b hb => if_neg hb
    have hs3 : ∀ b, Hs b ≠ none → b = a := fun b z => Classical.byContradiction fun hb => z (hs2 b hb)
    refine core Hs (fun b => ?_) (.inl (.inr ⟨{ cls := .type "list", data := .seq vs.toArray }, hs1⟩)) (fun b u z => ?_) hs3 fun _ => hk
    · by_cases hb : b = a
      · exact .inr ⟨_, _, hb ▸ hs1⟩
      · exact .inl (hs2 b hb)
    · have eb : b = a := hs3 b (by rw [z]; simp)
      rw [eb, hs1] at z
      rw [← Option.some.inj z, eb]
      exact ⟨ha, by rw [List.length_map]; exact hl, vs, _, rv, ha⟩
/-- the goal that k_head leaves, from such a promise of the law -/
theorem walkG {l : PySem.W.OpenLaw} {n k : Nat} {q : Program} {loose : List Str} {XP : (Str → Option Value) → Heap → Prop} {YP : World → Heap → Prop} {d : DefRec} {K : Params → PySem.W.Frag} {sp : PySem.W.Frag → Sp} {x : Str}
    (hn : l.most = some n) (hn2 : n ≤ sizeLine) (hdf : d.params.defaults = []) (hr : Room k callerA)
    (hY : ∀ (w : World) (h : Heap), YP w h → (K w.params).In h)
    (F : ∀ (w : World) (mg : Str → Option Value) (fa : Addr) (h : Heap), (K w.params).In h → h.Ns mainGlobals mg → mg d.name = some (.ref fa) →
      ∃ fd : FuncData, (∀ (s : Shared) (u : Value), BindsTo s fd ⟨[u], []⟩ [(x, u)]) ∧
        ∀ base : Heap, (K w.params).In base → base.Ns mainGlobals mg → FnG l.prog w (K w.params) mg base k fa fd [x] (sp (K w.params)))
    (hsp : ∀ (K : PySem.W.Frag) (H : Hp) (a : Addr) (ns : List Int), ns.length ≤ n → (∀ z ∈ ns, Builtin.Int.intBits z ≤ 1048576) → Only H → SqL K H a (ns.map V.int) → sp K [.ref a] H (fun v _ => v = .bl true) E0) :
    PySem.W.WalkO q loose XP YP l.row.toRowW d [] (fun f vs => PySem.call f vs) := by
  refine Att.attach_callB hn hdf ?_
  intro w s₀ s₁ mg mb fa o pm cd doc a vs ns G Y ho hd hcd hmg hobj hints hlen hbits hg
  have KX := hY w _ Y
  obtain ⟨fd, hb, hF⟩ := F w mg fa _ KX G.T.g hmg
  exact lawG KX G.T.g G.T.b G.T.builtins G.T.nolimit hg hobj hints (Nat.le_trans hlen hn2) hr hF hb fun H hO hS => hsp (K w.params) H a ns hlen hbits hO hS


/-! ### tuples whose very object is known: they have no dict, so their methods may be called -/
def tyF (T : String) (x : V) (H : Hp) : Prop := ∃ p o u, x = .ref p ∧ H p = some (.frz o u) ∧ o.cls = .type T ∧ o.dict = none
def FT (H : Hp) (a : Addr) (xs : List V) : Prop := ∃ o, H a = some (.frz o (.tup xs)) ∧ o.cls = .type "tuple" ∧ o.dict = none
theorem FT.seq {K : PySem.W.Frag} {H : Hp} {a : Addr} {xs : List V} (h : FT H a xs) : SqT K H a xs := by
  obtain ⟨o, h, _⟩ := h
  exact .inl (.inr ⟨o, h⟩)
theorem FT.ty {H : Hp} {a : Addr} {xs : List V} (h : FT H a xs) : tyF "tuple" (.ref a) H := by
  obtain ⟨o, h, c, d⟩ := h
  exact ⟨a, o, _, rfl, h, c, d⟩
def tBMF (T : String) (r : V → List V → Hp → VK → Prop) (to : TE) (t : TA) : TE := fun σ H Q => to σ H fun x H1 => tyF T x H1 ∧ t σ H1 fun xs H2 => r x xs H2 Q
section
variable {X : Cx} {o e : Expr} {es : List Expr} {to : TE} {t : TA} {name : Str} {apos cpos pos : Pos} {T id : String} {r : V → List V → Hp → VK → Prop}
theorem pe_bmF (pa : PlainAttrs T) (slot : Slot T name id) (hty : typeOf (.builtin id) = pure (.type "method_descriptor")) (hm : MtR X id r) (ho : PE X o to) (ha : PA X (e :: es) t)
    (hbase : attributeBase o name X.env (eval o X.env) = eval o X.env := by rfl)
    (hfew : ((backTo cpos (starEach (e :: es) X.env)).all (fun x => !x.1) && (backToKw cpos (keywordEach [] X.env)).all (fun x => x.1.isSome)
      && decide ((e :: es).length + ([] : List Keyword).length + (if ([] : List Keyword).isEmpty then 0 else 1) < 30)) = true := by rfl)
    (hline : (apos.endLine == cpos.line) = true := by rfl) (hs : starEach (e :: es) X.env = (false, eval e X.env) :: starEach es X.env := by rfl) (hplain : (backTo cpos (starEach es X.env)).any (·.1) = false := by rfl) :
    PE X (.Call (.Attribute o name apos) (e :: es) [] cpos) (tBMF T r to t) := by
  constructor
  intro pins s σ H Q I h
  refine wpAny_Call_method_late hbase hfew hline rfl (thn (ho.run pins s σ H _ I h) ?_)
  rintro v s1 ⟨x, H1, I1, r1, ⟨p, ob, u, rfl, hp, hc, hd⟩, q1⟩
  cases r1
  have hob := (I1.hok p _ hp).1
  refine ⟨T, id, pa, slot, hty, ⟨ob, hob, hc⟩, ?_, ?_⟩
  · intro a ea
    cases ea
    exact ⟨ob, hob, hd⟩
  have hA := ha.run cpos pins s1 σ H1 _ I1 q1
  rw [hs] at hA ⊢
  refine Calls.callWith_builtin ?_ (Calls.evalArgs_plain (thn hA fun us s2 ⟨vs, H2, I2, r2, q2⟩ => hm pins s2 σ H2 (.ref p) vs (.ref p) us Q I2 (show RelV (.ref p) (.ref p) from rfl) r2 q2))
  show (false || (backTo cpos (starEach es X.env)).any (·.1)) = false
  rw [hplain, Bool.false_or]
theorem call_tupF : CallR X (.type "tuple") (fun xs H Q => ∃ p ys, xs = [.ref p] ∧ SqL X.K H p ys ∧ ∀ l o, H l = none → o.cls = .type "tuple" → o.dict = none → Q (.ref l) (upd H l (.frz o (.tup ys)))) := by
  intro pins s σ H xs us Q I r h
  obtain ⟨p, ys, rfl, hq, q⟩ := h
  rw [Vals.ref1 r]
  obtain ⟨its, r', pl, hz⟩ := I.list hq
  have hlen := r'.length
  refine call_tuple_list pl.isList (fun h' kp => ?_) (by simp only [List.size_toArray] <;> omega)
  have I1 : Inv X pins σ H { s with heap := h' } := I.kept (t' := s.toks) kp
  let ob : Obj := { cls := .type "tuple", data := .seq its.toArray }
  have I2 : Inv X pins σ (upd H h'.objs.size (.frz ob (.tup ys))) { s with heap := h'.push ob } :=
    I1.laid (t' := s.toks) (fun b o e => Heap.get?_push_of_some _ e) (Nat.le_refl _) ⟨Heap.get?_push_size _ rfl, hz, its, r', IsTup.new _ _⟩
  exact ⟨.ref h'.objs.size, _, I2, rfl, q _ ob (I1.hok.fresh (Nat.le_refl _)) rfl rfl⟩
def tTupF (t : TA) : TE := fun σ H Q => t σ H fun xs H1 => xs.length ≤ sizeLine ∧ ∀ p o, H1 p = none → o.cls = .type "tuple" → o.dict = none → Q (.ref p) (upd H1 p (.frz o (.tup xs)))
theorem pe_tupF {x1} (h : PA X es t) : PE X (.Tuple es x1 pos) (tTupF t) := by
  constructor
  intro pins s σ H Q I hq
  refine wpAny_Tuple_spliced (thn (h.run pos pins s σ H _ I hq) ?_)
  rintro us s1 ⟨xs, H1, I1, r, z, q⟩
  refine ⟨by rw [← r.length]; exact z, ?_⟩
  have hf : H1 s1.heap.objs.size = none := I1.hok.fresh (Nat.le_refl _)
  refine ⟨.ref s1.heap.objs.size, upd H1 s1.heap.objs.size (.frz { cls := .type "tuple", data := .seq us.toArray } (.tup xs)), I1.laid (t' := s1.toks) (fun b u e => Heap.get?_push_of_some _ e) (Nat.le_refl _) ?_, rfl, q _ _ hf rfl rfl⟩
  exact ⟨Heap.get?_push_size _ rfl, z, us, r, ⟨_, Heap.get?_push_size _ rfl, rfl, _, rfl⟩⟩
end

/-! ### what an update of the list at a place leaves, for the reading of o[i] op= e -/
def rGetL (K : PySem.W.Frag) : V → V → Hp → VK → Prop := fun o i H Q => ∃ p xs k v, o = .ref p ∧ i = .int k ∧ SqL K H p xs ∧ atI xs k = some v ∧ Q v H

/-! ### steps of a reading -/
abbrev SS := L2.St
section
variable {K : PySem.W.Frag} {σ : SS} {H H' : Hp} {Q : VK} {QB : Bool → Hp → Prop} {QA : List V → Hp → Prop} {QS : SS → Hp → Prop} {x y v : V} {ta tb te : TE} {tt tu : TT} {t : TA} {xs : List V} {p : Addr} {i j : Int} {n : Nat}
theorem x_var (h : σ[n]? = some (some v)) (q : Q v H) : tVar n σ H Q := ⟨v, h, q⟩
theorem x_c (q : Q v H) : tC v σ H Q := q
theorem x_op {r : R2} (q : ta σ H fun x H1 => tb σ H1 fun y H2 => r x y H2 Q) : tOp r ta tb σ H Q := q
theorem x_un {r : V → Hp → VK → Prop} (q : ta σ H fun x H1 => r x H1 Q) : tUn r ta σ H Q := q
theorem x_I0 {g : Int → Int → V} (q : Q (g i j) H) : rI0 g (.int i) (.int j) H Q := ⟨i, j, rfl, rfl, q⟩
theorem x_I {C : Int → Int → Prop} {g : Int → Int → V} (c : C i j) (q : Q (g i j) H) : rI C g (.int i) (.int j) H Q := ⟨i, j, rfl, rfl, c, q⟩
theorem x_U {g : Int → V} (q : Q (g i) H) : rU g (.int i) H Q := ⟨i, rfl, q⟩
theorem x_eq (s : scal x y = true) (q : Q (.bl (decide (x = y))) H) : rEq x y H Q := ⟨s, q⟩
theorem x_ne (s : scal x y = true) (q : Q (.bl (!decide (x = y))) H) : rNe x y H Q := ⟨s, q⟩
theorem x_isN (q : Q (.bl (decide (x = .non))) H) : rIsN x .non H Q := ⟨rfl, q⟩
theorem x_notN (q : Q (.bl (!decide (x = .non))) H) : rNotN x .non H Q := ⟨rfl, q⟩
theorem x_ixL (h : SqL K H p xs) (a : atI xs i = some v) (q : Q v H) : rIxL K (.ref p) (.int i) H Q := ⟨p, xs, i, v, rfl, rfl, h, a, q⟩
theorem x_ixT (h : SqT K H p xs) (a : atI xs i = some v) (q : Q v H) : rIxT K (.ref p) (.int i) H Q := ⟨p, xs, i, v, rfl, rfl, h, a, q⟩
theorem x_nil (q : QA [] H) : tNil σ H QA := q
theorem x_cons {tr : TA} (q : ta σ H fun x H1 => tr σ H1 fun xs H2 => QA (x :: xs) H2) : tCons ta tr σ H QA := q
theorem x_lst (q : t σ H fun xs H1 => xs.length ≤ sizeLine ∧ ∀ p, H1 p = none → Q (.ref p) (upd H1 p (.lst xs))) : tLst t σ H Q := q
theorem x_tup (q : t σ H fun xs H1 => xs.length ≤ sizeLine ∧ ∀ p, H1 p = none → Q (.ref p) (upd H1 p (.tup xs))) : tTup t σ H Q := q
theorem x_tupF (q : t σ H fun xs H1 => xs.length ≤ sizeLine ∧ ∀ p o, H1 p = none → o.cls = .type "tuple" → o.dict = none → Q (.ref p) (upd H1 p (.frz o (.tup xs)))) : tTupF t σ H Q := q
theorem x_CB {r : List V → Hp → VK → Prop} (q : t σ H fun vs H1 => r vs H1 Q) : tCB r t σ H Q := q
theorem x_call {sp : Sp} {E : XK} (q : t σ H fun vs H1 => sp (vs ++ []) H1 Q E) : tCall sp [] E t σ H Q := q
theorem x_test (q : te σ H fun x H' => ∃ k, x = .bl k ∧ QB k H') : tTest te σ H QB := q
theorem x_bl {b : Bool} {R : Bool → Prop} (q : R b) : ∃ k, V.bl b = .bl k ∧ R k := ⟨b, rfl, q⟩
theorem x_B (q : te σ H fun x H1 => ∃ c, x = .bl c ∧ QB c H1) : tB te σ H QB := q
theorem x_andV (q : ta σ H fun x H1 => ∃ c, x = .bl c ∧ if c = true then tb σ H1 Q else Q (.bl false) H1) : tAndV ta tb σ H Q := q
theorem x_orV (q : ta σ H fun x H1 => ∃ c, x = .bl c ∧ if c = true then Q (.bl true) H1 else tb σ H1 Q) : tOrV ta tb σ H Q := q
theorem x_notV (q : ta σ H fun x H1 => ∃ c, x = .bl c ∧ Q (.bl (!c)) H1) : tNotV ta σ H Q := q
theorem x_and (q : tt σ H fun c H1 => if c = true then tu σ H1 QB else QB false H1) : tAnd tt tu σ H QB := q
theorem x_or (q : tt σ H fun c H1 => if c = true then QB true H1 else tu σ H1 QB) : tOr tt tu σ H QB := q
theorem x_not (q : tt σ H fun c H1 => QB (!c) H1) : tNot tt σ H QB := q
theorem x_if (q : tt σ H fun c H1 => if c = true then ta σ H1 Q else tb σ H1 Q) : tIf tt ta tb σ H Q := q
theorem x_sl {r : V → Option Int → Option Int → Hp → VK → Prop} {tl th : TO} (q : te σ H fun x H1 => tl σ H1 fun l H2 => th σ H2 fun u H3 => r x l u H3 Q) : tSl r te tl th σ H Q := q
theorem x_no {QO : Option Int → Hp → Prop} (q : QO none H) : tNoPart σ H QO := q
theorem x_part {QO : Option Int → Hp → Prop} (q : te σ H fun x H1 => ∃ i, x = .int i ∧ QO (some i) H1) : tPart te σ H QO := q
theorem x_int {R : Int → Prop} (q : R i) : ∃ k, V.int i = .int k ∧ R k := ⟨i, rfl, q⟩
theorem x_slL {lo hi : Option Int} (h : SqL K H p xs) (q : ∀ a, H a = none → Q (.ref a) (upd H a (.lst (cutV xs lo hi)))) : rSlL K (.ref p) lo hi H Q := ⟨p, xs, rfl, h, q⟩
/- statements: the ends written out -/
variable {nx bk ct : SS → Hp → Prop} {rt : VK} {s1 s2 : TS} {g : TG}
theorem x_seq (q : s1 ⟨s2 ⟨nx, rt, bk, ct⟩, rt, bk, ct⟩ σ H) : tSeq s1 s2 ⟨nx, rt, bk, ct⟩ σ H := q
theorem x_next (q : nx σ H) : tNext ⟨nx, rt, bk, ct⟩ σ H := q
theorem x_brk (q : bk σ H) : tBreak ⟨nx, rt, bk, ct⟩ σ H := q
theorem x_cont (q : ct σ H) : tCont ⟨nx, rt, bk, ct⟩ σ H := q
theorem x_drop (q : te σ H fun _ H1 => nx σ H1) : tDrop te ⟨nx, rt, bk, ct⟩ σ H := q
theorem x_ret (q : te σ H rt) : tRet te ⟨nx, rt, bk, ct⟩ σ H := q
theorem x_retN (q : rt .non H) : tRetN ⟨nx, rt, bk, ct⟩ σ H := q
theorem x_asg (q : te σ H fun x H1 => g x σ H1 nx) : tAsg te g ⟨nx, rt, bk, ct⟩ σ H := q
theorem x_name (q : QS (σ.set n (some v)) H) : gName n v σ H QS := q
theorem x_gtup {m : Nat} {u : TGs} (h : SqT K H p xs) (l : xs.length = m) (q : u xs σ H QS) : gTup K m u (.ref p) σ H QS := ⟨p, xs, rfl, h, l, q⟩
theorem x_gnil (q : QS σ H) : gNil [] σ H QS := ⟨rfl, q⟩
theorem x_gcons {u : TGs} (q : g v σ H fun σ' H' => u xs σ' H' QS) : gCons g u (v :: xs) σ H QS := ⟨v, xs, rfl, q⟩
theorem x_gsub {to ti : TE} {s : TSet} (q : to σ H fun o H1 => ti σ H1 fun i H2 => s o i v H2 fun H3 => QS σ H3) : gSub to ti s v σ H QS := q
theorem x_setL {QH : Hp → Prop} {k : Nat} (h : H p = some (.lst xs)) (a : ixN xs.length i = some k) (q : QH (upd H p (.lst (xs.set k v)))) : rSetL (.ref p) (.int i) v H QH := ⟨p, xs, i, k, rfl, rfl, h, a, q⟩
theorem x_par {k m : Nat} (q : t σ H fun vs H1 => ∃ v w, vs = [v, w] ∧ nx ((σ.set k (some v)).set m (some w)) H1) : tPar k m t ⟨nx, rt, bk, ct⟩ σ H := q
theorem x_two {R : V → V → Prop} (q : R x y) : ∃ v w, [x, y] = [v, w] ∧ R v w := ⟨x, y, rfl, q⟩
theorem x_ifS {c : TT} (q : c σ H fun b H1 => if b = true then s1 ⟨nx, rt, bk, ct⟩ σ H1 else s2 ⟨nx, rt, bk, ct⟩ σ H1) : tIfS c s1 s2 ⟨nx, rt, bk, ct⟩ σ H := q
theorem x_aug {ti : TIp} (h : σ[n]? = some (some x)) (q : te σ H fun y H1 => ti x y H1 fun z H2 => nx (σ.set n (some z)) H2) : tAug n te ti ⟨nx, rt, bk, ct⟩ σ H := ⟨x, h, q⟩
theorem x_ipI {f : Int → Int → Int} (q : Q (.int (f i j)) H) : ipI f (.int i) (.int j) H Q := ⟨i, j, rfl, rfl, q⟩
theorem x_augS {to ti : TE} {tget : V → V → Hp → VK → Prop} {tip : TIp} {tset : TSet} (q : to σ H fun o H1 => ti σ H1 fun i H2 => tget o i H2 fun x H3 => te σ H3 fun y H4 => tip x y H4 fun z H5 => tset o i z H5 fun H6 => nx σ H6) : tAugS to ti te tget tip tset ⟨nx, rt, bk, ct⟩ σ H := q
/- built-ins -/
theorem x_lenS {R : List V → Prop} (h : SqL K H p xs) (q : R xs) : ∃ p' ys, [V.ref p] = [.ref p'] ∧ (SqL K H p' ys ∨ SqT K H p' ys) ∧ R ys := ⟨p, xs, rfl, .inl h, q⟩
theorem x_lenT {R : List V → Prop} (h : SqT K H p xs) (q : R xs) : ∃ p' ys, [V.ref p] = [.ref p'] ∧ (SqL K H p' ys ∨ SqT K H p' ys) ∧ R ys := ⟨p, xs, rfl, .inr h, q⟩
theorem x_abs {R : Int → Prop} (q : R i) : ∃ k, [V.int i] = [.int k] ∧ R k := ⟨i, rfl, q⟩
theorem x_toI {R : Int → Prop} {R' : Bool → Prop} (q : R i) : (∃ k, [V.int i] = [.int k] ∧ R k) ∨ ∃ k, [V.int i] = [.bl k] ∧ R' k := .inl ⟨i, rfl, q⟩
theorem x_toIb {R : Int → Prop} {R' : Bool → Prop} {b : Bool} (q : R' b) : (∃ k, [V.bl b] = [.int k] ∧ R k) ∨ ∃ k, [V.bl b] = [.bl k] ∧ R' k := .inr ⟨b, rfl, q⟩
theorem x_min2 {R : Int → Int → Prop} (q : R i j) : ∃ a b, [V.int i, V.int j] = [.int a, .int b] ∧ R a b := ⟨i, j, rfl, q⟩
theorem x_tupS {Q1 Q2 : Addr → List V → Prop} (h : SqL K H p xs) (q : Q1 p xs) : ∃ p' ys, [V.ref p] = [.ref p'] ∧ ((SqL K H p' ys ∧ Q1 p' ys) ∨ (SqT K H p' ys ∧ Q2 p' ys)) := ⟨p, xs, rfl, .inl ⟨h, q⟩⟩
theorem x_tupF1 {R : List V → Prop} (h : SqL K H p xs) (q : R xs) : ∃ p' ys, [V.ref p] = [.ref p'] ∧ SqL K H p' ys ∧ R ys := ⟨p, xs, rfl, h, q⟩
theorem x_insert {R : Addr → List V → Int → V → Prop} (h : H p = some (.lst xs)) (l : xs.length < sizeLine) (h0 : 0 ≤ i) (h1 : i < 2 ^ 63) (q : R p xs i v) :
    ∃ (l : Addr) (ys : List V) (k : Int) (y : V), V.ref p = .ref l ∧ [V.int i, v] = [.int k, y] ∧ H l = some (.lst ys) ∧ ys.length < sizeLine ∧ 0 ≤ k ∧ k < 2 ^ 63 ∧ R l ys k y := ⟨p, xs, i, v, rfl, rfl, h, l, h0, h1, q⟩
theorem x_bm {r : V → List V → Hp → VK → Prop} {T : String} (q : ta σ H fun x H1 => tyV K T x H1 ∧ t σ H1 fun xs H2 => r x xs H2 Q) : tBM K T r ta t σ H Q := q
theorem x_bm0 {r : V → List V → Hp → VK → Prop} {T : String} (q : ta σ H fun x H1 => tyV K T x H1 ∧ r x [] H1 Q) : tBM0 K T r ta σ H Q := q
theorem x_bmF {r : V → List V → Hp → VK → Prop} {T : String} (q : ta σ H fun x H1 => tyF T x H1 ∧ t σ H1 fun xs H2 => r x xs H2 Q) : tBMF T r ta t σ H Q := q
theorem ty_list (h : SqL K H p xs) : tyV K "list" (.ref p) H := .inl ⟨rfl, xs, h⟩
theorem x_append {Q : VK} (h : H p = some (.lst xs)) (l : xs.length < sizeLine) (q : Q .non (upd H p (.lst (xs ++ [v])))) : rAppend (.ref p) [v] H Q := ⟨p, xs, v, rfl, rfl, h, l, q⟩
theorem x_reverse {Q : VK} (h : H p = some (.lst xs)) (q : Q .non (upd H p (.lst xs.reverse))) : rReverse (.ref p) [] H Q := ⟨p, xs, rfl, rfl, h, q⟩
theorem x_lrg {Q : VK} {te : SS → Hp → (Int → Int → Hp → Prop) → Prop} (q : te σ H fun a b H1 => RgOk a b ∧ ∀ q, H1 q = none → Q (.ref q) (upd H1 q (.lst (rgV a b)))) : tLstRg te σ H Q := q
theorem x_rg1 {QR : Int → Int → Hp → Prop} (q : ta σ H fun x H1 => ∃ n, x = .int n ∧ QR 0 n H1) : tRg1 ta σ H QR := q
end
section
variable {K : PySem.W.Frag} {H : Hp} {Q : VK} {n : Nat}
theorem x_new {R : Addr → Prop} (z : n ≤ sizeLine) (q : ∀ p, H p = none → R p) : n ≤ sizeLine ∧ ∀ p, H p = none → R p := ⟨z, q⟩
theorem x_newF {R : Addr → Obj → Prop} (z : n ≤ sizeLine) (q : ∀ p (o : Obj), H p = none → o.cls = .type "tuple" → o.dict = none → R p o) : n ≤ sizeLine ∧ ∀ p (o : Obj), H p = none → o.cls = .type "tuple" → o.dict = none → R p o := ⟨z, q⟩
theorem x_iteT {A B : Prop} (q : A) : if true = true then A else B := iteT q
theorem x_iteF {A B : Prop} (q : B) : if false = true then A else B := iteF q
theorem dp_ints {a : Addr} : ∀ cs : List Int, DpAll K H (cs.map V.int) (cs.map PyData.int)
  | [] => .nil
  | z :: r => .cons (.int z) (dp_ints (a := a) r)
theorem lay_ints : ∀ cs : List Int, PyData.canLayAll0 (cs.map PyData.int) = true
  | [] => by simp only [List.map_nil, PyData.canLayAll0]
  | z :: r => by simp only [List.map_cons, PyData.canLayAll0, PyData.canLay0, lay_ints r, Bool.and_self]
theorem deep_ints : ∀ cs : List Int, PyData.depthAll (cs.map PyData.int) = 0
  | [] => by simp only [List.map_nil, PyData.depthAll]
  | z :: r => by simp [List.map_cons, PyData.depthAll, PyData.depth, deep_ints r]
theorem shaped_ints (cs : List Int) : SeqAt.shaped (.list (cs.map PyData.int)) = true := by
  unfold SeqAt.shaped
  simp [PyData.canLay0, PyData.depth, lay_ints, deep_ints]
theorem x_neNil {a b : Addr} {cs : List Int} (h : SqL K H a (cs.map V.int)) (hb : SqL K H b []) (q : Q (.bl (!cs.isEmpty)) H) : rNeD K (.ref a) (.ref b) H Q := by
  refine ⟨.list (cs.map PyData.int), .list [], .lst h (dp_ints (a := a) cs), .lst hb .nil, shaped_ints cs, shaped_ints [], ?_⟩
  have e : PyData.eqv (.list (cs.map PyData.int)) (.list []) = cs.isEmpty := by
    cases cs <;> simp [PyData.eqv, PyData.eqvAll]
  rw [e]
  exact q
end
theorem natAbs_lt {i : Int} {n : Nat} (h : -(n : Int) < i) (h2 : i < n) : i.natAbs < n := by omega
/- looking up -/
theorem boot'_len : bootBuiltins "len" = some (.builtin "len") := by decide +kernel
theorem boot'_abs : bootBuiltins "abs" = some (.builtin "abs") := by decide +kernel
theorem boot'_int : bootBuiltins "int" = some (.type "int") := by decide +kernel
theorem boot'_bool : bootBuiltins "bool" = some (.type "bool") := by decide +kernel
theorem boot'_list : bootBuiltins "list" = some (.type "list") := by decide +kernel
theorem boot'_tuple : bootBuiltins "tuple" = some (.type "tuple") := by decide +kernel
theorem boot'_str : bootBuiltins "str" = some (.type "str") := by decide +kernel
theorem boot'_min : bootBuiltins "min" = some (.builtin "min") := by decide +kernel
theorem boot'_max : bootBuiltins "max" = some (.builtin "max") := by decide +kernel
theorem boot'_sum : bootBuiltins "sum" = some (.builtin "sum") := by decide +kernel
theorem boot'_any : bootBuiltins "any" = some (.builtin "any") := by decide +kernel
theorem boot'_all : bootBuiltins "all" = some (.builtin "all") := by decide +kernel
theorem boot'_repr : bootBuiltins "repr" = some (.builtin "repr") := by decide +kernel
theorem boot'_sorted : bootBuiltins "sorted" = some (.builtin "sorted") := by decide +kernel
theorem boot'_isinstance : bootBuiltins "isinstance" = some (.builtin "isinstance") := by decide +kernel
theorem boot'_range : bootBuiltins "range" = some (.type "range") := by decide +kernel
theorem boot'_enumerate : bootBuiltins "enumerate" = some (.type "enumerate") := by decide +kernel
theorem boot'_set : bootBuiltins "set" = some (.type "set") := by decide +kernel
theorem x_start {t : TS} {D : Ends} {σ σ' : SS} {H : Hp} (e : σ = σ') (q : t D σ' H) : t D σ H := e ▸ q

theorem lk_ne {H : Hp} {p q : Addr} {o u : HO} (h : H q = some u) (n : H p = none) : upd H p o q = some u := (upd_ne (ne_of_none h n)).trans h
theorem lk_ne2 {H : Hp} {p q : Addr} {o u : HO} (hne : q ≠ p) (h : H q = some u) : upd H p o q = some u := (upd_ne hne).trans h
/-- all but what stands in S is kept -/
def Kx (S : List Addr) (H H' : Hp) : Prop := ∀ b o, b ∉ S → H b = some o → H' b = some o
theorem Kx.refl (S : List Addr) (H : Hp) : Kx S H H := fun _ _ _ h => h
theorem Kx.trans {S : List Addr} {H H1 H2 : Hp} (a : Kx S H H1) (b : Kx S H1 H2) : Kx S H H2 := fun c o n h => b c o n (a c o n h)
theorem Kx.new {S : List Addr} {H H1 : Hp} {p : Addr} {o : HO} (a : Kx S H H1) (n : H1 p = none) : Kx S H (upd H1 p o) := fun b u hb h => lk_ne (a b u hb h) n
theorem Kx.fresh {S : List Addr} {H H1 : Hp} {p : Addr} (a : Kx S H H1) (hp : p ∉ S) (n : H1 p = none) : H p = none := by
  cases q : H p with
  | none => rfl
  | some o => rw [a p o hp q] at n; cases n
/-- a write at a thing that H did not know, or that S bears -/
theorem Kx.wr {S : List Addr} {H H1 : Hp} {p : Addr} {o : HO} (a : Kx S H H1) (n : H p = none ∨ p ∈ S) : Kx S H (upd H1 p o) := fun b u hb h => by
  have nb : b ≠ p := by
    rcases n with n | n
    · exact ne_of_none h n
    · exact fun e => hb (e ▸ n)
  rw [upd_ne nb]
  exact a b u hb h
theorem Kx.mono {S T : List Addr} {H H' : Hp} (a : Kx S H H') (h : ∀ b ∈ S, b ∈ T) : Kx T H H' := fun b o n e => a b o (fun z => n (h b z)) e
theorem lk_keep {S : List Addr} {H H' : Hp} {q : Addr} {u : HO} (k : Kx S H H') (hq : q ∉ S) (h : H q = some u) : H' q = some u := k q u hq h
theorem Kx.sqT {S : List Addr} {K : PySem.W.Frag} {H H' : Hp} {a : Addr} {xs : List V} (k : Kx S H H') (n : a ∉ S) (h : SqT K H a xs) : SqT K H' a xs := by
  rcases h with (h | ⟨o, h⟩) | h
  · exact .inl (.inl (k _ _ n h))
  · exact .inl (.inr ⟨o, k _ _ n h⟩)
  · exact .inr h
theorem Kx.sqL {S : List Addr} {K : PySem.W.Frag} {H H' : Hp} {a : Addr} {xs : List V} (k : Kx S H H') (n : a ∉ S) (h : SqL K H a xs) : SqL K H' a xs := by
  rcases h with (h | ⟨o, h⟩) | h
  · exact .inl (.inl (k _ _ n h))
  · exact .inl (.inr ⟨o, k _ _ n h⟩)
  · exact .inr h
theorem Kx.same {H H' : Hp} (h : Same H H') (S : List Addr) : Kx S H H' := fun b o _ e => h b o e


/-! ### loops and comprehensions: what each asks, by a word Pv of the turn -/
section
variable {K : PySem.W.Frag} {σ : SS} {H : Hp} {Q : VK} {nx bk ct : SS → Hp → Prop} {rt : VK} {g : TG} {tb : TS} {tl te : TE} {ta : TA} {tt : TT} {vs : List Nat}
/-- the asking of a for over n turns that give what Y tells while G holds -/
def AskF (n : Nat) (G : Hp → Prop) (Y : Nat → Hp → V → Hp → Prop) (g : TG) (tb : TS) (nx : SS → Hp → Prop) (rt : VK) (σ : SS) (H : Hp) : Prop :=
  ∃ Pv : Nat → SS → Hp → Prop, Pv 0 σ H ∧ (∀ i σ H, i ≤ n → Pv i σ H → G H) ∧
    (∀ i x σ H H', i < n → Pv i σ H → Y i H x H' → g x σ H' fun σ2 H2 => tb ⟨Pv (i + 1), rt, nx, Pv (i + 1)⟩ σ2 H2) ∧ ∀ σ H, Pv n σ H → nx σ H
def AskC (n : Nat) (G : Hp → Prop) (Y : Nat → Hp → V → Hp → Prop) (g : TG) (tt : TT) (te : TE) (vs : List Nat) (σ : SS) (H : Hp) (Q : VK) : Prop :=
  ∀ D, H D = none → ∃ Pv : Nat → Hp → Prop, Pv 0 (upd H D (.lst [])) ∧ (∀ i H, i ≤ n → Pv i H → G H) ∧
    (∀ i x H H', i < n → Pv i H → Y i H x H' → g x (wipe σ vs) H' fun σ2 H2 => wipe σ2 vs = wipe σ vs ∧ tt σ2 H2 fun b H3 =>
      if b = true then te σ2 H3 fun y H4 => ∃ acc, H4 D = some (.lst acc) ∧ acc.length < sizeLine ∧ Pv (i + 1) (upd H4 D (.lst (acc ++ [y]))) else Pv (i + 1) H3) ∧ ∀ H, Pv n H → Q (.ref D) H
theorem askF {J : It} {n : Nat} {G : Hp → Prop} {Y : Nat → Hp → V → Hp → Prop} (w : Walk J n G Y) (q : AskF n G Y g tb nx rt σ H) :
    ∃ W : Nat → Nat → SS → Hp → Prop, (∃ m, W 0 m σ H) ∧ ∀ i m σ H, W i m σ H → (J.stop i H ∧ nx σ H) ∨
      (J.go i H ∧ ∃ N : SS → Hp → Prop, (∀ σ' H', N σ' H' → ∃ m', m' < m ∧ W (i + 1) m' σ' H') ∧ ∀ x H', J.yld i H x H' → g x σ H' fun σ2 H2 => tb ⟨N, rt, nx, N⟩ σ2 H2) := by
  obtain ⟨Pv, h0, h1, h2, h3⟩ := q
  exact for_it (D := ⟨nx, rt, fun _ _ => False, fun _ _ => False⟩) w Pv h0 h1 h2 h3
theorem askC {J : It} {n : Nat} {G : Hp → Prop} {Y : Nat → Hp → V → Hp → Prop} (w : Walk J n G Y) (q : AskC n G Y g tt te vs σ H Q) :
    ∀ D, H D = none → ∃ W : Nat → Nat → Hp → Prop, (∃ m, W 0 m (upd H D (.lst []))) ∧ ∀ i m H, W i m H → (J.stop i H ∧ Q (.ref D) H) ∨
      (J.go i H ∧ ∃ Nx : Hp → Prop, (∀ H', Nx H' → ∃ m', m' < m ∧ W (i + 1) m' H') ∧ ∀ x H', J.yld i H x H' → g x (wipe σ vs) H' fun σ2 H2 => wipe σ2 vs = wipe σ vs ∧ tt σ2 H2 fun b H3 =>
        if b = true then te σ2 H3 fun y H4 => ∃ acc, H4 D = some (.lst acc) ∧ acc.length < sizeLine ∧ Nx (upd H4 D (.lst (acc ++ [y]))) else Nx H3) := by
  intro D hD
  obtain ⟨Pv, h0, h1, h2, h3⟩ := q D hD
  exact lc_it w Pv h0 h1 h2 h3
abbrev YA (xs : List V) := YAt xs
abbrev YE (xs : List V) := YPair (fun i => some (.int (i : Nat))) (fun i => xs[i]?)
def WF (J : It) (g : TG) (tb : TS) (nx : SS → Hp → Prop) (rt : VK) (σ : SS) (H : Hp) : Prop := ∃ W : Nat → Nat → SS → Hp → Prop, (∃ m, W 0 m σ H) ∧ ∀ i m σ H, W i m σ H → (J.stop i H ∧ nx σ H) ∨
      (J.go i H ∧ ∃ N : SS → Hp → Prop, (∀ σ' H', N σ' H' → ∃ m', m' < m ∧ W (i + 1) m' σ' H') ∧ ∀ x H', J.yld i H x H' → g x σ H' fun σ2 H2 => tb ⟨N, rt, nx, N⟩ σ2 H2)
def WC (J : It) (g : TG) (tt : TT) (te : TE) (vs : List Nat) (σ : SS) (H : Hp) (Q : VK) : Prop := ∀ D, H D = none → ∃ W : Nat → Nat → Hp → Prop, (∃ m, W 0 m (upd H D (.lst []))) ∧ ∀ i m H, W i m H → (J.stop i H ∧ Q (.ref D) H) ∨
      (J.go i H ∧ ∃ Nx : Hp → Prop, (∀ H', Nx H' → ∃ m', m' < m ∧ W (i + 1) m' H') ∧ ∀ x H', J.yld i H x H' → g x (wipe σ vs) H' fun σ2 H2 => wipe σ2 vs = wipe σ vs ∧ tt σ2 H2 fun b H3 =>
        if b = true then te σ2 H3 fun y H4 => ∃ acc, H4 D = some (.lst acc) ∧ acc.length < sizeLine ∧ Nx (upd H4 D (.lst (acc ++ [y]))) else Nx H3)
theorem x_for {wi : TI} (q : wi σ H fun J H1 => WF J g tb nx rt σ H1) : tFor wi g tb ⟨nx, rt, bk, ct⟩ σ H := q
theorem x_lc {wi : TI} (q : wi σ H fun J H1 => WC J g tt te vs σ H1 Q) : tLc wi g tt te vs σ H Q := q
theorem x_yes {QB : Bool → Hp → Prop} (q : QB true H) : tYes σ H QB := q
theorem x_iL {R : It → Hp → Prop} (q : tl σ H fun x H1 => ∃ a, x = .ref a ∧ (∃ xs, SqL K H1 a xs) ∧ R (Itl K a) H1) : iList K tl σ H R := q
theorem x_iT {R : It → Hp → Prop} (q : tl σ H fun x H1 => ∃ a, x = .ref a ∧ (∃ xs, SqT K H1 a xs) ∧ R (Itt K a) H1) : iTup K tl σ H R := q
theorem x_iR1 {R : It → Hp → Prop} (q : ta σ H fun vs H1 => ∃ j : Int, vs = [.int j] ∧ -(2 ^ 62) ≤ j ∧ j < 2 ^ 62 ∧ R (Itr 0 j.toNat) H1) : iRng1 ta σ H R := q
theorem x_iR2 {R : It → Hp → Prop} (q : ta σ H fun vs H1 => ∃ i j : Int, vs = [.int i, .int j] ∧ (-(2 ^ 62) ≤ i ∧ i < 2 ^ 62 ∧ -(2 ^ 62) ≤ j ∧ j < 2 ^ 62) ∧ R (Itr i (j - i).toNat) H1) : iRng2 ta σ H R := q
theorem x_iE {R : It → Hp → Prop} (q : ta σ H fun vs H1 => ∃ a xs, vs = [.ref a] ∧ SqL K H1 a xs ∧ R (Ite K a) H1) : iEnum K ta σ H R := q
theorem x_iET {R : It → Hp → Prop} (q : ta σ H fun vs H1 => ∃ a xs, vs = [.ref a] ∧ SqT K H1 a xs ∧ R (IteT K a) H1) : iEnumT K ta σ H R := q
/- the asking, at the end of the walked thing's value -/
variable {a : Addr} {xs : List V}
theorem y_forL (h : SqL K H a xs) (q : AskF xs.length (fun H => SqL K H a xs) (YA xs) g tb nx rt σ H) : ∃ b, V.ref a = .ref b ∧ (∃ xs, SqL K H b xs) ∧ WF (Itl K b) g tb nx rt σ H := ⟨a, rfl, ⟨xs, h⟩, askF walk_list q⟩
theorem y_forT (h : SqT K H a xs) (q : AskF xs.length (fun H => SqT K H a xs) (YA xs) g tb nx rt σ H) : ∃ b, V.ref a = .ref b ∧ (∃ xs, SqT K H b xs) ∧ WF (Itt K b) g tb nx rt σ H := ⟨a, rfl, ⟨xs, h⟩, askF walk_tup q⟩
theorem y_forR1 {j : Int} (h0 : 0 ≤ j) (h1 : j < 1000000) (q : AskF j.toNat (fun _ => True) (YFn fun i => .int (0 + i)) g tb nx rt σ H) : -(2 ^ 62) ≤ j ∧ j < 2 ^ 62 ∧ WF (Itr 0 j.toNat) g tb nx rt σ H :=
  ⟨by omega, by omega, askF walk_range q⟩
theorem y_forR2 {i j : Int} (h0 : -1000000 < i) (h1 : i < 1000000) (h2 : -1000000 < j) (h3 : j < 1000000) (q : AskF (j - i).toNat (fun _ => True) (YFn fun k => .int (i + k)) g tb nx rt σ H) : (-(2 ^ 62) ≤ i ∧ i < 2 ^ 62 ∧ -(2 ^ 62) ≤ j ∧ j < 2 ^ 62) ∧ WF (Itr i (j - i).toNat) g tb nx rt σ H :=
  ⟨⟨by omega, by omega, by omega, by omega⟩, askF walk_range q⟩
theorem y_forE (h : SqL K H a xs) (q : AskF xs.length (fun H => SqL K H a xs) (YE xs) g tb nx rt σ H) : ∃ b ys, [V.ref a] = [.ref b] ∧ SqL K H b ys ∧ WF (Ite K b) g tb nx rt σ H := ⟨a, xs, rfl, h, askF walk_enum q⟩
theorem y_forET (h : SqT K H a xs) (q : AskF xs.length (fun H => SqT K H a xs) (YE xs) g tb nx rt σ H) : ∃ b ys, [V.ref a] = [.ref b] ∧ SqT K H b ys ∧ WF (IteT K b) g tb nx rt σ H := ⟨a, xs, rfl, h, askF walk_enumT q⟩
theorem y_lcL (h : SqL K H a xs) (q : AskC xs.length (fun H => SqL K H a xs) (YA xs) g tt te vs σ H Q) : ∃ b, V.ref a = .ref b ∧ (∃ xs, SqL K H b xs) ∧ WC (Itl K b) g tt te vs σ H Q := ⟨a, rfl, ⟨xs, h⟩, askC walk_list q⟩
theorem y_lcT (h : SqT K H a xs) (q : AskC xs.length (fun H => SqT K H a xs) (YA xs) g tt te vs σ H Q) : ∃ b, V.ref a = .ref b ∧ (∃ xs, SqT K H b xs) ∧ WC (Itt K b) g tt te vs σ H Q := ⟨a, rfl, ⟨xs, h⟩, askC walk_tup q⟩
theorem y_lcR1 {j : Int} (h0 : 0 ≤ j) (h1 : j < 1000000) (q : AskC j.toNat (fun _ => True) (YFn fun i => .int (0 + i)) g tt te vs σ H Q) : -(2 ^ 62) ≤ j ∧ j < 2 ^ 62 ∧ WC (Itr 0 j.toNat) g tt te vs σ H Q :=
  ⟨by omega, by omega, askC walk_range q⟩
theorem y_lcE (h : SqL K H a xs) (q : AskC xs.length (fun H => SqL K H a xs) (YE xs) g tt te vs σ H Q) : ∃ b ys, [V.ref a] = [.ref b] ∧ SqL K H b ys ∧ WC (Ite K b) g tt te vs σ H Q := ⟨a, xs, rfl, h, askC walk_enum q⟩
theorem y_lcET (h : SqT K H a xs) (q : AskC xs.length (fun H => SqT K H a xs) (YE xs) g tt te vs σ H Q) : ∃ b ys, [V.ref a] = [.ref b] ∧ SqT K H b ys ∧ WC (IteT K b) g tt te vs σ H Q := ⟨a, xs, rfl, h, askC walk_enumT q⟩
end

/-! ### the same rules where the block's own K is told from outside -/
section
variable {X : Cx} {K : PySem.W.Frag}
theorem ix_listK (e : X.K = K := by rfl) : IxR X (rIxL K) := e ▸ ix_list
theorem ix_tupK (e : X.K = K := by rfl) : IxR X (rIxT K) := e ▸ ix_tup
theorem sl_listK (e : X.K = K := by rfl) : SlR X (rSlL K) := e ▸ sl_list
theorem call_lenK (e : X.K = K := by rfl) : CallR X (.builtin "len") (fun xs H Q => ∃ p ys, xs = [.ref p] ∧ (SqL K H p ys ∨ SqT K H p ys) ∧ Q (.int ys.length) H) := e ▸ call_len_seq
theorem call_tupFK (e : X.K = K := by rfl) : CallR X (.type "tuple") (fun xs H Q => ∃ p ys, xs = [.ref p] ∧ SqL K H p ys ∧ ∀ l o, H l = none → o.cls = .type "tuple" → o.dict = none → Q (.ref l) (upd H l (.frz o (.tup ys)))) := e ▸ call_tupF
theorem call_tuple_ofK (e : X.K = K := by rfl) : CallR X (.type "tuple") (fun xs H Q => ∃ p ys, xs = [.ref p] ∧ ((SqL K H p ys ∧ ∀ l, H l = none → Q (.ref l) (upd H l (.tup ys))) ∨ (SqT K H p ys ∧ Q (.ref p) H))) := e ▸ call_tuple_of
theorem call_list_ofK (e : X.K = K := by rfl) : CallR X (.type "list") (fun xs H Q => ∃ p ys, xs = [.ref p] ∧ (SqL K H p ys ∨ SqT K H p ys) ∧ ∀ l, H l = none → Q (.ref l) (upd H l (.lst ys))) := e ▸ call_list_of
theorem mt_countTK (e : X.K = K := by rfl) : MtR X "tuple.count" (rCountT K) := e ▸ mt_countT
theorem op_in_seqK (e : X.K = K := by rfl) : OpR X (compareOp .In) (rIn K false) := e ▸ op_in_seq
theorem op_notIn_seqK (e : X.K = K := by rfl) : OpR X (compareOp .NotIn) (rIn K true) := e ▸ op_notIn_seq
theorem pg_tupK {es : List Expr} {k : Nat} {pos : Pos} {t : TGs} {n : Nat} (e : X.K = K) (hc : X.calm = true) (h : PGs X es t)
    (hn : (assignEach es X.env).length = n := by rfl) (hst : (assignEach es X.env).findIdx? (·.1) = none := by rfl) : PG X (.Tuple es k pos) (gTup K n t) := e ▸ pg_tup hc h hn hst
end

/-! ### comprehensions whose turn gives one value f i, the heap but for what is new as it was -/
theorem cut63 (xs : List V) : cutV xs none (some 63) = xs.take 63 := by
  unfold cutV
  rw [HT.sIx_none, show HT.sIx xs.length xs.length (some 63) = min 63 xs.length from HT.sIx_nat xs.length xs.length 63]
  show List.take (min 63 xs.length - 0) (List.drop 0 xs) = _
  rw [Nat.sub_zero, List.drop_zero]
  rcases Nat.le_total 63 xs.length with h | h
  · rw [Nat.min_eq_left h]
  · rw [Nat.min_eq_right h, List.take_length, List.take_of_length_le h]


section
variable {X : Cx}
theorem get_list : PGet X (rGetL X.K) := by
  intro pins s σ H o i ov iv Q I ro ri h
  obtain ⟨p, xs, k, v, rfl, rfl, hq, he, q⟩ := h
  cases ro
  obtain ⟨t, rfl⟩ := ri
  obtain ⟨its, r, pl, hz⟩ := I.list hq
  obtain ⟨j, h1, h2, h3, h4, h5⟩ := atI_get he
  obtain ⟨w, ew, rw'⟩ := r.get h2
  have hl := r.length
  have hn := line63
  by_cases h0 : 0 ≤ k
  · have hj : k.toNat = j := by
      rw [seqIndex_of h0 h5] at h1
      exact Option.some.inj h1
    exact wpAny_getItem_list pl.isList h0 (by omega) (by rw [hj]; simpa using ew) ⟨v, H, I, rw', q⟩
  · have hj : (k + (its.toArray.size : Int)).toNat = j := by
      rw [seqIndex_neg (by omega) h4] at h1
      rw [List.size_toArray, ← hl]
      exact Option.some.inj h1
    exact wpAny_getItem_list_neg pl.isList (by omega) (by rw [List.size_toArray] <;> omega) (by omega) (by rw [hj]; simpa using ew) ⟨v, H, I, rw', q⟩
end
section
variable {K : PySem.W.Frag} {σ : SS} {H : Hp} {Q : VK} {v : V} {p : Addr} {xs : List V} {i : Int}
theorem x_getL (h : SqL K H p xs) (a : atI xs i = some v) (q : Q v H) : rGetL K (.ref p) (.int i) H Q := ⟨p, xs, i, v, rfl, rfl, h, a, q⟩
theorem x_rep {k : Int} {l : Addr} (h : H l = some (.lst xs)) (h0 : 0 ≤ k) (h1 : k < 1000000) (z : xs.length * k.toNat ≤ sizeLine) (q : ∀ p, H p = none → Q (.ref p) (upd H p (.lst (List.replicate k.toNat xs).flatten))) : rRep (.ref l) (.int k) H Q :=
  ⟨l, k, xs, rfl, rfl, h, by omega, by omega, z, q⟩
theorem x_sum {a : Addr} {ns : List Int} (h : SqL K H a (ns.map V.int)) (q : Q (.int ns.sum) H) : rSum K [.ref a] H Q := ⟨a, ns, rfl, h, q⟩
theorem x_countT {a : Addr} {ys : List V} {y : V} (h : SqT K H a ys) (f : flatV y = true) (fs : ys.all flatV = true) (q : Q (.int ((ys.countP fun z => eqV z y : Nat) : Int)) H) : rCountT K (.ref a) [y] H Q := ⟨a, ys, y, rfl, rfl, h, f, fs, q⟩
end

/-! ### data whose repr is told -/
structure Good (d : PyData) (dep w : Nat) : Prop where
  sh : d.showable = true
  nd : d.hasDict = false
  dp : d.depth ≤ dep
  sl : d.leavesShort 13 = true
  wt : d.weight ≤ w
theorem Good.mono {d : PyData} {a b w v : Nat} (g : Good d a w) (h : a ≤ b) (h2 : w ≤ v) : Good d b v := ⟨g.sh, g.nd, Nat.le_trans g.dp h, g.sl, Nat.le_trans g.wt h2⟩
theorem Good.none : Good .none 0 0 := ⟨rfl, rfl, Nat.le_refl _, rfl, Nat.le_refl _⟩
theorem Good.bool (b : Bool) : Good (.bool b) 0 0 := ⟨rfl, rfl, Nat.le_refl _, rfl, Nat.le_refl _⟩
theorem Good.int {z : Int} (h : z.natAbs < 10 ^ 9) : Good (.int z) 0 31 := by
  have hl : z.natAbs.log2 < 30 := PySem.Flt.log2_lt_of (by decide) (Nat.lt_of_lt_of_le h (by decide))
  refine ⟨?_, rfl, Nat.le_refl _, ?_, ?_⟩
  · simp only [PyData.showable, decide_eq_true_eq]
    omega
  · simp only [PyData.leavesShort, PyData.shown]
    have := int_text_length_le10 (k := 9) (by decide) h
    refine decide_eq_true ?_
    show (Str.ofString (toString z)).length ≤ 13
    rw [PySem.ofString_length]
    omega
  · simp only [PyData.weight]
    split <;> omega
theorem good_all {k w : Nat} : ∀ {ds : List PyData}, (∀ d ∈ ds, Good d k w) → PyData.showableAll ds = true ∧ PyData.hasDictAll ds = false ∧ PyData.depthAll ds ≤ k ∧ PyData.leavesShortAll 13 ds = true ∧ PyData.weightAll ds ≤ ds.length * (w + 1)
  | [], _ => ⟨rfl, rfl, Nat.zero_le _, rfl, Nat.zero_le _⟩
  | d :: ds, h => by
    obtain ⟨a1, a2, a3, a4, a5⟩ := good_all (ds := ds) fun x hx => h x (List.mem_cons_of_mem _ hx)
    have g := h d List.mem_cons_self
    refine ⟨?_, ?_, ?_, ?_, ?_⟩
    · simp only [PyData.showableAll, g.sh, a1, Bool.and_self]
    · simp only [PyData.hasDictAll, g.nd, a2, Bool.or_self]
    · simp only [PyData.depthAll]
      exact Nat.max_le.mpr ⟨g.dp, a3⟩
    · simp only [PyData.leavesShortAll, g.sl, a4, Bool.and_self]
    · simp only [PyData.weightAll, List.length_cons, Nat.add_mul]
      have := g.wt
      omega
theorem Good.list {ds : List PyData} {k w n : Nat} (h : ∀ d ∈ ds, Good d k w) (hn : ds.length ≤ n) : Good (.list ds) (k + 1) (n * (w + 1)) := by
  obtain ⟨a1, a2, a3, a4, a5⟩ := good_all h
  exact ⟨by simpa only [PyData.showable] using a1, by simpa only [PyData.hasDict] using a2, by simp only [PyData.depth]; omega, by simpa only [PyData.leavesShort] using a4, by simp only [PyData.weight]; exact Nat.le_trans a5 (Nat.mul_le_mul_right _ hn)⟩
theorem Good.tuple {ds : List PyData} {k w n : Nat} (h : ∀ d ∈ ds, Good d k w) (hn : ds.length ≤ n) : Good (.tuple ds) (k + 1) (n * (w + 1)) := by
  obtain ⟨a1, a2, a3, a4, a5⟩ := good_all h
  exact ⟨by simpa only [PyData.showable] using a1, by simpa only [PyData.hasDict] using a2, by simp only [PyData.depth]; omega, by simpa only [PyData.leavesShort] using a4, by simp only [PyData.weight]; exact Nat.le_trans a5 (Nat.mul_le_mul_right _ hn)⟩
theorem x_repr {K : PySem.W.Frag} {H : Hp} {Q : VK} {a : Addr} {d : PyData} {k w : Nat} (h : Dp K H (.ref a) d) (g : Good d k w) (hk : k ≤ 60) (hw : w ≤ 2 ^ 20) (q : Q (.str d.shown) H) : rRepr K [.ref a] H Q :=
  ⟨a, d, rfl, h, g.sh, g.nd, Nat.le_trans g.dp hk, PyData.shown_fits (by decide) (by decide) g.sl (Nat.le_trans g.wt hw), q⟩
/- what stands at an address as data is kept -/
theorem Kx.rd {S : List Addr} {H H' : Hp} {a : Addr} {u : HO} (k : Kx S H H') (n : a ∉ S) (h : Rd H a u) : Rd H' a u := by
  rcases h with h | ⟨o, h⟩
  · exact .inl (k _ _ n h)
  · exact .inr ⟨o, k _ _ n h⟩
mutual
theorem dp_keep {K : PySem.W.Frag} {H H' : Hp} (k : Kx [] H H') : ∀ (d : PyData) (v : V), Dp K H v d → Dp K H' v d
  | .none, _, h => by cases h; exact .non
  | .bool b, _, h => by cases h; exact .bl b
  | .int i, _, h => by cases h; exact .int i
  | .str x, _, h => by cases h; exact .str x
  | .list ds, _, h => by
    cases h with
    | lst h1 h2 => exact .lst (k.sqL (by simp) h1) (dp_keepAll k ds _ h2)
  | .tuple ds, _, h => by
    cases h with
    | tup h1 h2 => exact .tup (k.sqT (by simp) h1) (dp_keepAll k ds _ h2)
  | .dict _, _, h => by cases h
theorem dp_keepAll {K : PySem.W.Frag} {H H' : Hp} (k : Kx [] H H') : ∀ (ds : List PyData) (vs : List V), DpAll K H vs ds → DpAll K H' vs ds
  | [], _, h => by cases h; exact .nil
  | d :: ds, _, h => by
    cases h with
    | cons h1 h2 => exact .cons (dp_keep k d _ h1) (dp_keepAll k ds _ h2)
end

section
variable {X : Cx}
/-- sorted(d) of a dict whose keys are ints -/
def rSortedD : List V → Hp → VK → Prop := fun xs H Q => ∃ (a : Addr) (kvs : List (Key × V)) (ks : List Int), xs = [.ref a] ∧ H a = some (.dK kvs) ∧ kvs.map (·.1) = ks.map Sum.inl ∧
    ∀ (ns : List Int) (p : Addr), ns.Perm ks → ns.Pairwise (· ≤ ·) → H p = none → Q (.ref p) (upd H p (.lst (ns.map V.int)))
theorem cr_sortedDI (hcalm : X.calm = true) : CallR X (.builtin "sorted") rSortedD := by
  intro pins s σ H xs us Q I r q
  obtain ⟨a, kvs, ks, ex, hd, hks, q⟩ := q
  subst ex
  obtain ⟨u, eu, rx⟩ := vals1 r
  subst eu
  cases rx
  obtain ⟨z, lo, vs, rel, dd⟩ := dk_of I.hok hd
  obtain ⟨ep, hat⟩ := dd.dictAt
  have hkeys : vs.map (·.1) = ks.map Sum.inl := rel.keys.symm.trans hks
  have hl : vs.length = ks.length := by
    have e := congrArg List.length hkeys
    rw [List.length_map, List.length_map] at e
    exact e
  have h16 : vs.length ≤ sizeLine := by rw [← rel.length]; exact z
  refine Calls.call_function_entry PyProof.Rows.kind_sorted PyProof.Rows.plain_sorted PyProof.Rows.entry_sorted (PyProof.Rows.args_sorted1 _) ?_
  unfold Builtin.«sorted»
  refine wpAny_bind (m := checkCount "sorted" 1 1 _) (wpAny_pure ?_)
  refine wpAny_bind (PySem.W.kdu_collect (A := X.A.in1) (PySem.W.kdl_dict (knd := mixKind X.prog X.w) (kvs := vs) (ep := ep) lo) (I.ok.hd hcalm) hat h16 fun h' tk acc hk hacc => ?_)
  have hal : acc.toList.length = ks.length := by rw [Array.length_toList, hacc.1, hl]
  have hv : Vals (ks.map V.int) acc.toList := vals_of_at (by rw [List.length_map, hal]) fun j x w h1 h2 => by
    obtain ⟨k, y, e1, e2⟩ := hacc.2 j w (by rw [← Array.getElem?_toList]; exact h2)
    have e3 : (vs.map (·.1))[j]? = some k := by rw [List.getElem?_map, e1]; all_goals rfl
    rw [hkeys, List.getElem?_map] at e3
    rw [List.getElem?_map] at h1
    cases e4 : ks[j]? with
    | none => rw [e4] at e3; cases e3
    | some i =>
      rw [e4] at e3 h1
      have e5 : Sum.inl i = k := Option.some.inj e3
      subst e5
      have e6 : V.int i = x := Option.some.inj h1
      subst e6
      exact keyIs_rel (k := .inl i) e2
  have hi := hv.ints
  have I1 : Inv X pins σ H { s with heap := h', toks := tk } := I.kept hk
  have hz : acc.toList.length ≤ sizeLine := by rw [hal, ← hl]; exact h16
  refine wpAny_bind (wpAny_newList ?_ hz)
  have hoL : (h'.push (PyProof.Rows.seqObj "list" acc.toList.toArray 0)).get? h'.objs.size = some (PyProof.Rows.seqObj "list" acc.toList.toArray 0) := Heap.get?_push_size _ rfl
  show wpAny _ _ _ _ _ { s with heap := h'.push (PyProof.Rows.seqObj "list" acc.toList.toArray 0), toks := tk }
  refine wpAny_bind (wpAny_holding (wpAny_call_entry PyProof.Rows.slot_list_sort ⟨_, hoL, rfl⟩ PyProof.Rows.entry_list_sort
    (SrtO.list_sort_ord SrtO.swo_int hoL hz (fun h2 => SrtO.ints_sortable hi h2) fun out h1 h2 => ⟨_, rfl, ?_⟩) (PyProof.Rows.args_list_sort _)))
  obtain ⟨k1, k2, k3⟩ := SrtO.ints_out hi h1 h2
  obtain ⟨e', he'⟩ := PyProof.Rows.sortedHeap_at (vs := acc.toList) (out := out.toArray) hoL
  have hlen : ((out.map SrtO.iv).map V.int).length ≤ sizeLine := by
    rw [List.length_map, k2.length_eq, ← hal]
    exact hz
  refine wpAny_pure ⟨_, rfl, .ref h'.objs.size, upd H h'.objs.size (.lst ((out.map SrtO.iv).map V.int)), I1.laid (t' := tk) (fun b u e => ?_) (Nat.le_refl _)
    (show ObjOk X.prog X.w _ _ _ (.lst ((out.map SrtO.iv).map V.int)) from ⟨hlen, out, e', vals_of_ints k1, he'⟩), rfl, q _ _ k2 k3 (I1.hok.fresh (Nat.le_refl _))⟩
  have hb : b < h'.objs.size := Heap.lt_size e
  rw [PyProof.Rows.sortedHeap_old (Nat.ne_of_lt hb) (by rw [size_push']; exact Nat.lt_succ_of_lt hb)]
  exact Heap.get?_push_of_some _ e
end

section
variable {X : Cx}
theorem sw_trueD {kx vx : Expr} {gs : List Comprehension} {scope : Scope} {pos py : Pos} {y : Str} {l : Nat} {env : Env} (hk : env.scope.kind = .function) (hy : env.scope.names.lookup y = some .local) (hl : (py.line == pos.line) = true)
    (ha : (scope.names.any fun (n, k) => n == y && (k == .local || k == .cell)) = false) : swapsWith (.DictComp kx vx gs scope pos) (some (.Name y py)) l env = pure true := by
  have ky : env.kindOf y = some .local := hy
  have hb : env.blockKind = .function := by unfold Env.blockKind; rw [hk]; rfl
  unfold swapsWith
  simp only [hb, ky, ha, Expr.pos, hl]
  rfl
theorem ps_setDc {i : Nat} {y : Str} {py : Pos} {kx vx tg iter : Expr} {ifs : List Expr} {scope : Scope} {own : List (Str × Nat)} {pos spos : Pos} {wi : TI} {g : TG} {tt : TT} {tk tv : TE} (hc : X.calm = true) (hN : X.N.Nodup) (hy : X.N[i]? = some y) (hyl : X.env.scope.names.lookup y = some .local)
    (hsw : swapsWith (.DictComp kx vx [⟨tg, iter, ifs, 0⟩] scope pos) (some (.Name y py)) spos.line X.env = pure true) (hi : PI X tg iter wi) (ok : BlkOk X.N X.env.scope scope own)
    (hg : ∀ (s : Shared) (H : Hp) (C : Addr) (cl : List (Str × Addr)) (fp : List Addr), PG (X.blk s H scope (compEnvC scope cl C X.env) fp) tg g) (ht : ∀ (s : Shared) (H : Hp) (C : Addr) (cl : List (Str × Addr)) (fp : List Addr), PTs (X.blk s H scope (compEnvC scope cl C X.env) fp) ifs tt)
    (hk : ∀ (s : Shared) (H : Hp) (C : Addr) (cl : List (Str × Addr)) (fp : List Addr), PE (X.blk s H scope (compEnvC scope cl C X.env) fp) kx tk)
    (he : ∀ (s : Shared) (H : Hp) (C : Addr) (cl : List (Str × Addr)) (fp : List Addr), PE (X.blk s H scope (compEnvC scope cl C X.env) fp) vx tv) (hs : ∀ x, foldedSetIterable iter X.env x = pure x := by intro _; rfl) :
    PS X (.Assign [.Name y py] (.DictComp kx vx [⟨tg, iter, ifs, 0⟩] scope pos) spos) (tAsg (tDc wi g tt tk tv (own.map (·.2))) (gName i)) := by
  refine ⟨fun pins s σ H D I h => ?_⟩
  rw [exec_Assign_Name_used _ _ _ _ hsw]
  refine wpAny_bind (wpAny_standAt (wpAny_bind ?_))
  show wpAny _ X.A (do let _ ← comprehension (.DictComp kx vx [⟨tg, iter, ifs, 0⟩] scope pos) scope X.env (firstIterPos [⟨tg, iter, ifs, 0⟩] pos) newDict false (eval iter X.env) (some (assign (.Name y py) X.env))) _ _ s
  have h : tDc wi g tt tk tv (own.map (·.2)) σ H (fun x H1 => gName i x σ H1 D.nx) := h
  refine wpAny_bind (thn (dc_core (Qf := fun _ s' => SP X pins D .next s') hc hN I hi ok hg ht hk he hs h fun L C s' m H' I' q hn f => ?_) fun _ s' hq => wpAny_pure (wpAny_pure hq))
  show wpAny _ _ (assign (.Name y py) X.env (.ref L)) _ _ _
  refine wpAny_assign_Name (store_ok2 (v := V.ref L) I' hN hy (.inl hyl) rfl (fun s2 I2 ⟨a, sb, ha⟩ => ?_) (.inr hyl))
  obtain ⟨f0, f1, f2, f3, f4, f5⟩ := f
  have haC : C ≠ a := by
    rcases ha with z | z
    · rw [z]; exact f1
    · exact fun e => f4 y a z e.symm
  refine ⟨m, hn.sameBut sb haC, fun h3 sb3 => ?_⟩
  exact ⟨_, H', I2.turned (t' := s2.toks) (fun b o hb e => (sb3.2 b hb).trans e) f0 f1 f3 f4 f5, q⟩
end
section
variable {K : PySem.W.Frag} {σ : SS} {H : Hp} {Q : VK} {QB : Bool → Hp → Prop} {nx bk ct : SS → Hp → Prop} {rt : VK} {g : TG} {tb : TS} {tl te tk tv td ty ta : TE} {tA : TA} {tt : TT} {vs : List Nat} {v : V} {a : Addr} {xs ys : List V}
def AskD (n : Nat) (G : Hp → Prop) (Y : Nat → Hp → V → Hp → Prop) (g : TG) (tt : TT) (tk tv : TE) (vs : List Nat) (σ : SS) (H : Hp) (Q : VK) : Prop :=
  ∀ D, H D = none → ∃ Pv : Nat → Hp → Prop, Pv 0 (upd H D (.dK [])) ∧ (∀ i H, i ≤ n → Pv i H → G H) ∧
    (∀ i x H H', i < n → Pv i H → Y i H x H' → g x (wipe σ vs) H' fun σ2 H2 => wipe σ2 vs = wipe σ vs ∧ tt σ2 H2 fun b H3 =>
      if b = true then tk σ2 H3 fun y H4 => tv σ2 H4 fun z H5 => ∃ kvs k, y = kV k ∧ H5 D = some (.dK kvs) ∧ kvs.length < sizeLine ∧ Pv (i + 1) (upd H5 D (.dK (putK kvs k z))) else Pv (i + 1) H3) ∧ ∀ H, Pv n H → Q (.ref D) H
def WD (J : It) (g : TG) (tt : TT) (tk tv : TE) (vs : List Nat) (σ : SS) (H : Hp) (Q : VK) : Prop := ∀ D, H D = none → ∃ W : Nat → Nat → Hp → Prop, (∃ m, W 0 m (upd H D (.dK []))) ∧ ∀ i m H, W i m H →
  (J.stop i H ∧ Q (.ref D) H) ∨ (J.go i H ∧ ∃ Nx : Hp → Prop, (∀ H', Nx H' → ∃ m', m' < m ∧ W (i + 1) m' H') ∧ ∀ x H', J.yld i H x H' → g x (wipe σ vs) H' fun σ2 H2 => wipe σ2 vs = wipe σ vs ∧ tt σ2 H2 fun b H3 =>
    if b = true then tk σ2 H3 fun y H4 => tv σ2 H4 fun z H5 => ∃ kvs k, y = kV k ∧ H5 D = some (.dK kvs) ∧ kvs.length < sizeLine ∧ Nx (upd H5 D (.dK (putK kvs k z))) else Nx H3)
theorem askD {J : It} {n : Nat} {G : Hp → Prop} {Y : Nat → Hp → V → Hp → Prop} (w : Walk J n G Y) (q : AskD n G Y g tt tk tv vs σ H Q) : WD J g tt tk tv vs σ H Q := by
  intro D hD
  obtain ⟨Pv, h0, hG, hs, hd⟩ := q D hD
  refine ⟨fun i m H => m = n - i ∧ i ≤ n ∧ Pv i H, ⟨n, by simp, Nat.zero_le _, h0⟩, ?_⟩
  rintro i m H ⟨rfl, hi, p⟩
  have qG := hG i H hi p
  by_cases hlt : i < n
  · exact .inr ⟨w.goes i H hlt qG, Pv (i + 1), fun H' p' => ⟨n - (i + 1), by omega, rfl, hlt, p'⟩, fun x H' y => hs i x H H' hlt p (w.yields i H x H' hlt qG y)⟩
  · have e : i = n := by omega
    subst e
    exact .inl ⟨w.stops H qG, hd H p⟩
theorem x_dc {wi : TI} (q : wi σ H fun J H1 => WD J g tt tk tv vs σ H1 Q) : tDc wi g tt tk tv vs σ H Q := q
theorem y_dcL (h : SqL K H a xs) (q : AskD xs.length (fun H => SqL K H a xs) (YA xs) g tt tk tv vs σ H Q) : ∃ b, V.ref a = .ref b ∧ (∃ xs, SqL K H b xs) ∧ WD (Itl K b) g tt tk tv vs σ H Q := ⟨a, rfl, ⟨xs, h⟩, askD walk_list q⟩
/-- a while, by a word of the names and the heap, and a measure -/
theorem x_while {c : TT} (q : ∃ W : Nat → SS → Hp → Prop, (∃ m, W m σ H) ∧ ∀ m σ H, W m σ H → c σ H fun b H1 => if b = true then ∃ N : SS → Hp → Prop, (∀ σ' H', N σ' H' → ∃ m', m' < m ∧ W m' σ' H') ∧ tb ⟨N, rt, nx, N⟩ σ H1 else nx σ H1) : tWhile c tb ⟨nx, rt, bk, ct⟩ σ H := q
theorem x_turn {m : Nat} {W : Nat → SS → Hp → Prop} (q : tb ⟨fun σ' H' => ∃ m', m' < m ∧ W m' σ' H', rt, nx, fun σ' H' => ∃ m', m' < m ∧ W m' σ' H'⟩ σ H) : ∃ N : SS → Hp → Prop, (∀ σ' H', N σ' H' → ∃ m', m' < m ∧ W m' σ' H') ∧ tb ⟨N, rt, nx, N⟩ σ H := ⟨_, fun _ _ h => h, q⟩
theorem x_truthL {R : Bool → Prop} (h : SqL K H a xs) (q : R (!xs.isEmpty)) : ∃ k, TruV K (.ref a) H k ∧ R k := ⟨_, .inl ⟨xs, h, rfl⟩, q⟩
theorem x_pop {Q : VK} {y : V} (h : H a = some (.lst xs)) (e : xs[xs.length - 1]? = some y) (q : Q y (upd H a (.lst xs.dropLast))) : rPop (.ref a) [] H Q := ⟨a, xs, y, rfl, rfl, h, e, q⟩
theorem x_din (q : ty σ H fun y H1 => td σ H1 fun x H2 => ∃ a o, x = .ref a ∧ DGet H2 a y o ∧ Q (.bl o.isSome) H2) : tDIn ty td σ H Q := q
theorem x_dnotin (q : ty σ H fun y H1 => td σ H1 fun x H2 => ∃ a o, x = .ref a ∧ DGet H2 a y o ∧ Q (.bl (!o.isSome)) H2) : tDNotIn ty td σ H Q := q
theorem x_dput (q : tv σ H fun v H1 => td σ H1 fun x H2 => ty σ H2 fun y H3 => ∃ a H4, x = .ref a ∧ DPut H3 a y v H4 ∧ nx σ H4) : sDPut td ty tv ⟨nx, rt, bk, ct⟩ σ H := q
theorem x_dget (q : td σ H fun x H1 => ty σ H1 fun y H2 => ∃ a v, x = .ref a ∧ DGet H2 a y (some v) ∧ Q v H2) : tDGet td ty σ H Q := q
theorem x_dgI {kvs : List (Key × V)} {i : Int} {R : Option V → Prop} (h : H a = some (.dK kvs)) (q : R (valV kvs (.inl i))) : ∃ b o, V.ref a = .ref b ∧ DGet H b (.int i) o ∧ R o := ⟨a, _, rfl, DGet.k (k := .inl i) h, q⟩
theorem x_dpI {kvs : List (Key × V)} {i : Int} {R : Hp → Prop} (h : H a = some (.dK kvs)) (l : kvs.length < sizeLine) (q : R (upd H a (.dK (putK kvs (.inl i) v)))) : ∃ b H', V.ref a = .ref b ∧ DPut H b (.int i) v H' ∧ R H' := ⟨a, _, rfl, DPut.k (k := .inl i) h l, q⟩
theorem x_listD {kvs : List (Key × V)} {Q : VK} (h : H a = some (.dK kvs)) (q : ∀ p, H p = none → Q (.ref p) (upd H p (.lst (kvs.map fun kv => kV kv.1)))) : rListD [.ref a] H Q := ⟨a, kvs, rfl, h, q⟩
theorem x_sortedD {kvs : List (Key × V)} {ks : List Int} {Q : VK} (h : H a = some (.dK kvs)) (e : kvs.map (·.1) = ks.map Sum.inl)
    (q : ∀ (ns : List Int) (p : Addr), ns.Perm ks → ns.Pairwise (· ≤ ·) → H p = none → Q (.ref p) (upd H p (.lst (ns.map V.int)))) : rSortedD [.ref a] H Q := ⟨a, kvs, ks, rfl, h, e, q⟩
theorem x_sortedL {ks : List Int} {Q : VK} (h : SqL K H a (ks.map V.int))
    (q : ∀ (ns : List Int) (p : Addr), ns.Perm ks → ns.Pairwise (· ≤ ·) → H p = none → Q (.ref p) (upd H p (.lst (ns.map V.int)))) : rSortedI K [.ref a] H Q := ⟨a, ks, rfl, h, q⟩
theorem x_inL {x : V} (h : SqL K H a xs) (f : flatV x = true) (fs : xs.all flatV = true) (q : Q (.bl (inV x xs)) H) : rIn K false x (.ref a) H Q := ⟨a, xs, rfl, .inl h, f, fs, q⟩
theorem x_notInL {x : V} (h : SqL K H a xs) (f : flatV x = true) (fs : xs.all flatV = true) (q : Q (.bl (!inV x xs)) H) : rIn K true x (.ref a) H Q := ⟨a, xs, rfl, .inl h, f, fs, q⟩
theorem x_inT {x : V} (h : SqT K H a xs) (f : flatV x = true) (fs : xs.all flatV = true) (q : Q (.bl (inV x xs)) H) : rIn K false x (.ref a) H Q := ⟨a, xs, rfl, .inr h, f, fs, q⟩
theorem x_listL {Q : VK} (h : SqL K H a xs) (q : ∀ l, H l = none → Q (.ref l) (upd H l (.lst xs))) : ∃ p ys, [V.ref a] = [.ref p] ∧ (SqL K H p ys ∨ SqT K H p ys) ∧ ∀ l, H l = none → Q (.ref l) (upd H l (.lst ys)) := ⟨a, xs, rfl, .inl h, q⟩
theorem x_listT {Q : VK} (h : SqT K H a xs) (q : ∀ l, H l = none → Q (.ref l) (upd H l (.lst xs))) : ∃ p ys, [V.ref a] = [.ref p] ∧ (SqL K H p ys ∨ SqT K H p ys) ∧ ∀ l, H l = none → Q (.ref l) (upd H l (.lst ys)) := ⟨a, xs, rfl, .inr h, q⟩
/-- t + u: some tuple of both -/
theorem x_cat {b : Addr} {Q : VK} (h : SqT K H a xs) (h2 : SqT K H b ys) (z : xs.length + ys.length ≤ sizeLine) (q : ∀ (p : Addr) (H' : Hp), SqT K H' p (xs ++ ys) → Kx [] H H' → Q (.ref p) H') : rCatA K (.ref a) (.ref b) H Q := by
  refine ⟨a, b, xs, ys, rfl, rfl, h, h2, z, fun e => ?_, fun _ e => ?_, fun _ _ p hp => ?_⟩
  · subst e
    exact q b H h2 (Kx.refl _ _)
  · subst e
    exact q a H (by rwa [List.append_nil]) (Kx.refl _ _)
  · exact q p _ (SqT.of upd_same) ((Kx.refl _ _).new hp)
theorem in_int {n : Int} : ∀ ns : List Int, inV (.int n) (ns.map V.int) = decide (n ∈ ns)
  | [] => rfl
  | m :: r => by
    have ih := in_int (n := n) r
    unfold inV at ih ⊢
    rw [List.map_cons, List.any_cons, ih]
    by_cases e : m = n
    · subst e
      simp [eqV]
    · have e2 : ¬ n = m := fun z => e z.symm
      simp [eqV, e, e2]
theorem flat_ints : ∀ ns : List Int, (ns.map V.int).all flatV = true
  | [] => rfl
  | _ :: r => flat_ints r
theorem pt_truth' {X : Cx} {a : Expr} {t : TE} (ha : PE X a t) (he : ∀ whole, isTrue a X.env whole = (do let v ← whole; standAt a.pos; holding [v] (truthy v)) := by intro _; rfl) :
    PT X a (fun σ H QB => t σ H fun x H' => ∃ k, TruV X.K x H' k ∧ QB k H') := pt_truth ha he
end
structure Lkw (P : Program) (w : World) (K : PySem.W.Frag) (mg : Str → Option Value) (base : Heap) (x : Str) (k : Nat) (ps ks : List Str) (gV : List V → List V) (sp : Sp) : Prop where
  ex : ∃ (f : Addr) (fd : FuncData) (g : List Value → List Value), FnOk P w K mg base CX0 k f fd ps sp ∧ mg x = some (.ref f) ∧ PySem.W.keepIn K (.ref f) = true ∧ KB K fd ps ks g gV
theorem pe_lkw {X : Cx} {k : Nat} {ps ks : List Str} {sp : Sp} {x : Str} {p pos : Pos} {tk : TA} {kws : List Keyword} {gV : List V → List V} (L : Lkw X.prog X.w X.K X.mg X.base x k ps ks gV sp) (hr : Room k X.A) (hg : Gl X x) (hkw : PK X kws tk)
    (hall : (backToKw pos (keywordEach kws X.env)).all (·.1.isSome) = true := by rfl) (hks : (backToKw pos (keywordEach kws X.env)).filterMap (·.1) = ks := by rfl)
    (hdb : (x == ("__debug__" : Str)) = false := by decide)
    (hpl : ((backTo pos (starEach [] X.env)).any (·.1) || (backToKw pos (keywordEach kws X.env)).any (·.1.isNone)) = false := by rfl) :
    PE X (.Call (.Name x p) [] kws pos) (tCallKw sp gV tk) := by
  obtain ⟨f, fd, g, F, hm, hk, hb⟩ := L.ex
  exact pe_kw0 F hr hg hm hk hb hkw hall hks hdb hpl
theorem x_kw {σ : SS} {H : Hp} {Q : VK} {sp : Sp} {gV : List V → List V} {tk : TA} (q : tk σ H fun zs H1 => sp (gV zs) H1 Q E0) : tCallKw sp gV tk σ H Q := q
theorem op_catAK {X : Cx} {K : PySem.W.Frag} (e : X.K = K := by rfl) : OpR X (binaryOp .Add) (rCatA K) := e ▸ op_catA
theorem op_isN1K : True := trivial

/-! ### max(ints, default=d) -/
section
variable {prog : Program} {w : World} {A : Around} {E : Value → Shared → Prop} {R : Result → Shared → Prop} {I : Addr} {fp wr : List Addr} {G : Array GenState → Array GenState → Prop} {n : Nat} {P : Nat → Value → Prop} {St : Nat → Shared → Prop}
theorem maxkw_turns (kw : List (Str × Value)) (W : WalksS prog w A.in1 I fp wr G n P St) (bt : Nat → Nat → Bool) (hcmp : CmpOf prog w A.in1 .Gt P bt) (S : Addr) (hSf : S ∉ fp) :
    ∀ (k j : Nat) (s : Shared) (vb : Value) (c : Nat), n - (j + 1) = k → j + 1 ≤ n → St (j + 1) s → P (argBest bt j) vb → s.heap.get? S = some { cls := .type "list", dict := none, data := .seq #[vb, vb] c, slots := #[] } →
      (∀ v s', P (argBest bt (n - 1)) v → Moved (S :: wr) G s s' → R (.ok (.ret v)) s') → codeAny (model prog w) A (.builtin "max.loop" ⟨[.ref I, .none, .ref S], kw⟩) R s := by
  have nm : (toString "max" ++ toString ".loop" : String) = "max.loop" := by decide
  have w1 : S ∉ wr := fun h => hSf (W.sub _ h)
  have w2 : ∀ b ∈ wr, b ∈ S :: wr := fun b hb => List.mem_cons_of_mem _ hb
  have w3 : ∀ {b : Addr}, b ∉ S :: wr → S ≠ b := fun hb h => hb (h ▸ List.mem_cons_self)
  intro k
  induction k with
  | zero =>
    intro j s vb c hk hj hst hPb hS hR
    obtain rfl : j + 1 = n := by omega
    refine codeAny_builtin PySem.F.entry_max_loop ?_
    rw [Around.under_plainId PySem.F.plain_max_loop _]; show wpAny _ A.in1 (seqItems? (.ref S) >>= _) _ _ s
    refine wpAny_bind (wpAny_seqItems hS rfl ?_); show wpAny _ A.in1 (tryCatch (pyNext (.ref I)) _ >>= _) _ _ s
    refine wpAny_bind (wpAny_tryCatch (W.done s _ _ hst fun s' hm => ?_))
    have hS' := hm.heap S _ w1 hS
    show wpAny _ A.in1 (updateSeq S (fun _ => (#[] : Array Value)) >>= _) _ _ _
    refine wpAny_bind (wpAny_updateSeq hS' rfl (wpAny_bind (wpAny_letGo (wpAny_pure (hR vb _ hPb ?_)))))
    exact (hm.mono w2).then_heap (tk := s'.toks) (Nat.le_refl _) fun b o hb e => (Heap.get?_update_other _ _ (w3 hb)).trans e
  | succ k ih =>
    intro j s vb c hk hj hst hPb hS hR
    have hlt : j + 1 < n := by omega
    refine codeAny_builtin PySem.F.entry_max_loop ?_
    rw [Around.under_plainId PySem.F.plain_max_loop _]; show wpAny _ A.in1 (seqItems? (.ref S) >>= _) _ _ s
    refine wpAny_bind (wpAny_seqItems hS rfl ?_); show wpAny _ A.in1 (tryCatch (pyNext (.ref I)) _ >>= _) _ _ s
    refine wpAny_bind (wpAny_tryCatch (W.item (j + 1) s _ _ hlt hst fun v s' hP hst' hm => ?_))
    have hS' := hm.heap S _ w1 hS
    show wpAny _ A.in1 (tryCatch (holding [v, v] (richCompare .Gt v vb >>= _)) _ >>= _) _ _ _
    refine wpAny_bind (wpAny_tryCatch (wpAny_holding (wpAny_bind (hcmp (j + 1) (argBest bt j) v vb _ _ _ hP hPb ?_)))); refine wpAny_bind (wpAny_holding (wpAny_truthy_bool ?_))
    refine wpAny_bind (wpAny_letGo (wpAny_pure ?_))
    cases hb : bt (j + 1) (argBest bt j) with
    | true =>
      simp only [if_true]
      refine wpAny_bind (wpAny_updateSeq hS' rfl (wpAny_bind (wpAny_letGo ?_))); rw [nm]
      have far : ∀ {b : Addr}, b ∉ fp → True := fun _ => trivial
      refine wpAny_pure ⟨plainId_quiet PySem.F.plain_max_loop _, ih (j + 1) _ v _ (by omega) hlt (W.frame _ s' _ s'.toks hst' (Nat.le_refl _) fun b hbf o e => (Heap.get?_update_other _ _ (fun h : S = b => hSf (h ▸ hbf))).trans e) (by simp only [argBest, hb, if_true]; exact hP) (Heap.get?_update_self _ hS' rfl) fun v' s'' hP' hm'' => hR v' s'' hP' (Moved.trans W.gtrans ((hm.mono w2).then_heap (Nat.le_refl _) fun b o hb e => (Heap.get?_update_other _ _ (w3 hb)).trans e) hm'')⟩
    | false =>
      simp only [Bool.false_eq_true, if_false]
      refine wpAny_bind (wpAny_letGo ?_); rw [nm]
      exact wpAny_pure ⟨plainId_quiet PySem.F.plain_max_loop _, ih (j + 1) _ vb c (by omega) hlt hst' (by simp only [argBest, hb, Bool.false_eq_true, if_false]; exact hPb) hS' fun v' s'' hP' hm'' => hR v' s'' hP' (Moved.trans W.gtrans (hm.mono w2) hm'')⟩
/-- the first turn, none or one -/
theorem maxkw_first {d : Value} (W : WalksS prog w A.in1 I fp wr G n P St) (bt : Nat → Nat → Bool) (hcmp : CmpOf prog w A.in1 .Gt P bt) (S : Addr) (hSf : S ∉ fp) {s : Shared} {c : Nat} (hst : St 0 s) (hS : s.heap.get? S = some { cls := .type "list", dict := none, data := .seq #[] c, slots := #[] })
    (h0 : n = 0 → ∀ s', Moved (S :: wr) G s s' → R (.ok (.ret d)) s') (h1 : 0 < n → ∀ v s', P (argBest bt (n - 1)) v → Moved (S :: wr) G s s' → R (.ok (.ret v)) s') :
    codeAny (model prog w) A (.builtin "max.loop" ⟨[.ref I, .none, .ref S], [("default", d)]⟩) R s := by
  have nm : (toString "max" ++ toString ".loop" : String) = "max.loop" := by decide
  have w1 : S ∉ wr := fun h => hSf (W.sub _ h)
  have w2 : ∀ b ∈ wr, b ∈ S :: wr := fun b hb => List.mem_cons_of_mem _ hb
  have w3 : ∀ {b : Addr}, b ∉ S :: wr → S ≠ b := fun hb h => hb (h ▸ List.mem_cons_self)
  refine codeAny_builtin PySem.F.entry_max_loop ?_
  rw [Around.under_plainId PySem.F.plain_max_loop _]; show wpAny _ A.in1 (seqItems? (.ref S) >>= _) _ _ s
  refine wpAny_bind (wpAny_seqItems hS rfl ?_); show wpAny _ A.in1 (tryCatch (pyNext (.ref I)) _ >>= _) _ _ s
  by_cases hn : 0 < n
  · refine wpAny_bind (wpAny_tryCatch (W.item 0 s _ _ hn hst fun v s' hP hst' hm => ?_))
    have hS' := hm.heap S _ w1 hS
    show wpAny _ A.in1 (updateSeq S (fun _ => #[v, v]) >>= _) _ _ _
    refine wpAny_bind (wpAny_updateSeq hS' rfl ?_); rw [nm]
    refine wpAny_pure ⟨plainId_quiet PySem.F.plain_max_loop _, maxkw_turns _ W bt hcmp S hSf _ 0 _ v _ rfl hn (W.frame _ s' _ s'.toks hst' (Nat.le_refl _) fun b hbf o e => (Heap.get?_update_other _ _ (fun h : S = b => hSf (h ▸ hbf))).trans e) hP (Heap.get?_update_self _ hS' rfl) fun v' s'' hP' hm'' => h1 hn v' s'' hP' ?_⟩
    exact Moved.trans W.gtrans ((hm.mono w2).then_heap (Nat.le_refl _) fun b o hb e => (Heap.get?_update_other _ _ (w3 hb)).trans e) hm''
  · obtain rfl : n = 0 := by omega
    refine wpAny_bind (wpAny_tryCatch (W.done s _ _ hst fun s' hm => ?_))
    refine wpAny_bind (wpAny_rule ?_)
    exact wpAny_pure (h0 rfl s' (hm.mono w2))
theorem maxd_args (a v : Value) : argsOk "max" ⟨[a], [(Str.ofString "default", v)]⟩ := by unfold argsOk; kernel_rfl
theorem max_dflt {l : Addr} {its : List Value} {ns : List Int} {d : Value} {s : Shared} {Q : Value → Shared → Prop} (hh : A.handled = none) (hl : s.heap.IsList l its.toArray) (hi : IntsAre its ns)
    (h0 : ns = [] → ∀ h' tk, (∀ b o, s.heap.get? b = some o → h'.get? b = some o) → Q d { s with heap := h', toks := tk })
    (h1 : ∀ h' tk m t', (∀ b o, s.heap.get? b = some o → h'.get? b = some o) → m ∈ ns → (∀ a, a ∈ ns → a ≤ m) → Q (.int m t') { s with heap := h', toks := tk }) :
    wpAny (model prog w) A (call (.builtin "max") [.ref l] [(Str.ofString "default", d)]) Q E s := by
  obtain ⟨xs, e⟩ := hi.allInts.items
  have hn : numsOf (intItems xs).toList = ns := e ▸ hi.numsOf
  rw [nums_intItems] at hn
  subst hn
  rw [e] at hl
  have nm : (toString "max" ++ toString ".loop" : String) = "max.loop" := by decide
  refine kmb_tree PySem.F.kind_max PySem.F.plain_max PySem.F.entry_max (maxd_args _ _) ?_
  show wpAny _ A.in1 (Builtin.Builtins.bindParams "max" ["key", "default"] 0 ⟨[], [(Str.ofString "default", d)]⟩ >>= _) _ _ s
  refine wpAny_bind (wpAny_of_eq (show Builtin.Builtins.bindParams "max" ["key", "default"] 0 ⟨[], [(Str.ofString "default", d)]⟩ = pure [none, some d] from rfl) ?_)
  refine wpAny_bind (wpAny_pure (wpAny_bind ?_))
  refine PySem.iter_intList hl fun s2 e2 st hfp hlI => ?_
  subst e2
  refine wpAny_bind (wpAny_newObj_type ?_); rw [nm]
  have W := Walks.list (prog := prog) (w := w) (A := A.in1) hh s.heap.objs.size l hlI (intItems xs)
  have hsz : (s.heap.push { cls := .type "list_iterator", data := .fields #[.ref l, .int 0 0] }).objs.size = s.heap.objs.size + 1 := Heap.size_push ..
  have hSf : (s.heap.push { cls := .type "list_iterator", data := .fields #[.ref l, .int 0 0] }).objs.size ∉ [s.heap.objs.size, l] := fun hm => Nat.lt_irrefl _ (hfp _ hm)
  have hlen : (intItems xs).size = xs.size := by simp [intItems]
  have off : ∀ {b : Addr} {o : Obj}, s.heap.get? b = some o → b ∉ [(s.heap.push { cls := .type "list_iterator", data := .fields #[.ref l, .int 0 0] }).objs.size, s.heap.objs.size] := fun {b o} q hm => by
    have hlt : b < s.heap.objs.size := Heap.lt_size q
    rw [hsz] at hm
    rcases List.mem_cons.mp hm with z | z
    · exact absurd hlt (by rw [z]; exact Nat.not_lt.mpr (Nat.le_succ _))
    · exact absurd hlt (by rw [List.mem_singleton.mp z]; exact Nat.lt_irrefl _)
  refine wpAny_pure ⟨plainId_quiet PySem.F.plain_max_loop _, maxkw_first W.toS _ (CmpOf.ints_gt (numAt xs) (fun _ _ => intItems_at)) _ hSf (W.toS.frame 0 _ _ s.toks st (Nat.le_refl _) fun b _ o q => Heap.get?_push_of_some _ q) (Heap.get?_push_size _ rfl) (fun hz s' hm => ?_) (fun hz v s' hP hm => ?_)⟩
  · rw [Moved.eq_with hm]
    exact h0 (by rw [hlen] at hz; rw [Array.eq_empty_of_size_eq_zero hz]; rfl) s'.heap s'.toks fun b o q => hm.heap b o (off q) (Heap.get?_push_of_some _ (Heap.get?_push_of_some _ q))
  · rw [Moved.eq_with hm]
    have hne : 0 < xs.size := by rwa [hlen] at hz
    have hP : (intItems xs)[argBest (fun i j => decide (numAt xs i > numAt xs j)) (xs.size - 1)]? = some v := by simpa [intItems] using hP
    obtain ⟨t, rfl⟩ := intItems_at hP
    obtain ⟨g1, g2⟩ := argBest_gt (numAt xs) (xs.size - 1)
    refine h1 s'.heap s'.toks _ t (fun b o q => hm.heap b o (off q) (Heap.get?_push_of_some _ (Heap.get?_push_of_some _ q))) ?_ fun a ha => ?_
    · rw [numAt_eq]
      exact PySem.getD_mem (by rw [List.length_map, Array.length_toList]; omega)
    · obtain ⟨j, hj, rfl⟩ := mem_getD ha
      rw [List.length_map, Array.length_toList] at hj
      exact numAt_eq xs j ▸ g2 j (by omega)
end
section
variable {X : Cx}
def rMaxD (K : PySem.W.Frag) : List V → List V → Hp → VK → Prop := fun xs zs H Q => ∃ (a : Addr) (ns : List Int) (d : Int), xs = [.ref a] ∧ zs = [.int d] ∧ SqL K H a (ns.map V.int) ∧ (ns = [] → Q (.int d) H) ∧ ∀ m, m ∈ ns → (∀ b, b ∈ ns → b ≤ m) → Q (.int m) H
theorem cr_maxD (hc : X.calm = true) : CallRK X (.builtin "max") [Str.ofString "default"] (rMaxD X.K) := by
  intro pins s σ H xs zs us ws Q I r rz h
  obtain ⟨a, ns, d, rfl, rfl, hs, q0, q1⟩ := h
  obtain ⟨its, rv, hl, _⟩ := I.list hs
  obtain ⟨u, rfl, ru⟩ := vals1 rz
  rw [Vals.ref1 r]
  exact max_dflt (I.ok.hd hc) hl.isList rv.ints (fun e h' tk hk => ⟨.int d, H, I.kept hk, ru, q0 e⟩) fun h' tk m t' hk h1 h2 => ⟨.int m, H, I.kept hk, ⟨_, rfl⟩, q1 m h1 h2⟩
end

/-! ### own classes -/
/-- a method, by its promise (self first) -/
structure Lm (P : Program) (w : World) (K : PySem.W.Frag) (mg : Str → Option Value) (base : Heap) (C : Addr) (m : Str) (k : Nat) (ps : List Str) (sp : Sp) : Prop where
  ex : ∃ (f : Addr) (fd : FuncData), FnOk P w K mg base CX0 k f fd ps sp ∧ Meth K C m f ∧ Binds K fd ps []
/-- a class that is made, by its __init__'s promise -/
structure Ln (P : Program) (w : World) (K : PySem.W.Frag) (mg : Str → Option Value) (base : Heap) (C : Addr) (x : Str) (k : Nat) (ps : List Str) (sp : Sp) : Prop where
  ex : ∃ (f : Addr) (fd : FuncData), FnOk P w K mg base CX0 k f fd ps sp ∧ Mk K C f ∧ mg x = some (.ref C) ∧ Binds K fd ps []
section
variable {X : Cx} {k : Nat} {C : Addr} {m x : Str} {ps : List Str} {sp : Sp} {o e : Expr} {es : List Expr} {apos p pos : Pos} {ta : TE} {t : TA}
theorem pe_lm {pl : Sem Bool} (L : Lm X.prog X.w X.K X.mg X.base C m k ps sp) (c : Cls X.K C) (hr : Room k X.A) (ho : PE X o ta) (ha : PA X (e :: es) t)
    (hst : starEach (e :: es) X.env = (false, eval e X.env) :: starEach es X.env := by rfl) (hpl : (backTo pos (starEach es X.env)).any (·.1) = false := by rfl)
    (ht : eval (.Call (.Attribute o m apos) (e :: es) [] pos) X.env = (do let ov ← eval o X.env; standAt apos.atName; let (f, first) ← holding [ov] (getMethod ov m pl); callWith pos f first (backTo pos (starEach (e :: es) X.env)) (backToKw pos (keywordEach [] X.env))) := by rfl) :
    PE X (.Call (.Attribute o m apos) (e :: es) [] pos) (tMeth C m sp [] E0 ta t) := by
  obtain ⟨f, fd, F, hm, hb⟩ := L.ex
  exact pe_meth (pl := pl) ho c hm F hr hb .nil pass0 ha hst hpl ht
theorem pe_lm0 {pl : Sem Bool} (L : Lm X.prog X.w X.K X.mg X.base C m k ps sp) (c : Cls X.K C) (hr : Room k X.A) (ho : PE X o ta)
    (ht : eval (.Call (.Attribute o m apos) [] [] pos) X.env = (do let ov ← eval o X.env; standAt apos.atName; let (f, first) ← holding [ov] (getMethod ov m pl); callWith pos f first (backTo pos (starEach [] X.env)) (backToKw pos (keywordEach [] X.env))) := by rfl) :
    PE X (.Call (.Attribute o m apos) [] [] pos) (tMeth C m sp [] E0 ta tNil) := by
  obtain ⟨f, fd, F, hm, hb⟩ := L.ex
  exact pe_meth0 (pl := pl) ho c hm F hr hb .nil pass0 ht
theorem pe_ln (L : Ln X.prog X.w X.K X.mg X.base C x k ps sp) (hr : Room (k + 1) X.A) (hg : Gl X x) (ha : PA X (e :: es) t) (hdb : (x == ("__debug__" : Str)) = false := by decide)
    (he : starEach (e :: es) X.env = (false, eval e X.env) :: starEach es X.env := by rfl) (hpl : (backTo pos (starEach es X.env)).any (·.1) = false := by rfl) : PE X (.Call (.Name x p) (e :: es) [] pos) (tMake C sp [] E0 t) := by
  obtain ⟨f, fd, F, hm, hg2, hb⟩ := L.ex
  exact pe_make hm F hr hg hg2 hb .nil pass0 ha hdb he hpl
end
section
variable {K : PySem.W.Frag} {σ : SS} {H : Hp} {Q : VK} {nx bk ct : SS → Hp → Prop} {rt : VK} {C a dx : Addr} {fs : List (Str × V)} {f m : Str} {v : V} {ta te : TE} {t tk : TA} {sp : Sp}
theorem x_meth (q : ta σ H fun x H1 => ∃ a dx fs, x = .ref a ∧ H1 a = some (.ins C dx fs) ∧ fs.lookup m = none ∧ t σ H1 fun vs H2 => sp (x :: (vs ++ [])) H2 Q E0) : tMeth C m sp [] E0 ta t σ H Q := q
theorem x_insM {R : Prop} (h : H a = some (.ins C dx fs)) (l : fs.lookup m = none) (q : R) : ∃ a' dx' fs', V.ref a = .ref a' ∧ H a' = some (.ins C dx' fs') ∧ List.lookup m fs' = none ∧ R := ⟨a, dx, fs, rfl, h, l, q⟩
theorem x_fld (q : ta σ H fun x H1 => ∃ a C dx fs v, x = .ref a ∧ H1 a = some (.ins C dx fs) ∧ Cls K C ∧ NoAttr K C f ∧ fs.lookup f = some v ∧ Q v H1) : tFld K ta f σ H Q := q
theorem x_insF {R : V → Prop} (h : H a = some (.ins C dx fs)) (c : Cls K C) (n : NoAttr K C f) (l : fs.lookup f = some v) (q : R v) : ∃ a' C' dx' fs' v', V.ref a = .ref a' ∧ H a' = some (.ins C' dx' fs') ∧ Cls K C' ∧ NoAttr K C' f ∧ List.lookup f fs' = some v' ∧ R v' :=
  ⟨a, C, dx, fs, v, rfl, h, c, n, l, q⟩
theorem x_sfld (q : te σ H fun y H1 => ta σ H1 fun x H2 => ∃ a C dx fs, x = .ref a ∧ H2 a = some (.ins C dx fs) ∧ Cls K C ∧ NoAttr K C f ∧ fs.length < 1000 ∧ nx σ (upd H2 a (.ins C dx (putF f y fs)))) : sFld K ta te f ⟨nx, rt, bk, ct⟩ σ H := q
theorem x_make (q : t σ H fun vs H1 => ∀ x dx, H1 x = none → H1 dx = none → dx ≠ x → sp (.ref x :: (vs ++ [])) (upd (upd H1 dx (.own x)) x (.ins C dx [])) (fun v H2 => v = .non ∧ Q (.ref x) H2) E0) : tMake C sp [] E0 t σ H Q := q
theorem x_ckw {r : List V → List V → Hp → VK → Prop} (q : t σ H fun vs H1 => tk σ H1 fun zs H2 => r vs zs H2 Q) : tCKw r t tk σ H Q := q
theorem x_maxD {ns : List Int} {d : Int} (h : SqL K H a (ns.map V.int)) (q0 : ns = [] → Q (.int d) H) (q1 : ∀ m, m ∈ ns → (∀ b, b ∈ ns → b ≤ m) → Q (.int m) H) : rMaxD K [.ref a] [.int d] H Q := ⟨a, ns, d, rfl, rfl, h, q0, q1⟩
/-- a range with a step -/
theorem x_iR3 {R : It → Hp → Prop} (q : t σ H fun vs H1 => ∃ (i j c : Int) (n : Nat), vs = [.int i, .int j, .int c] ∧ RgC i j c n ∧ R (Itc i c n) H1) : iRng3 t σ H R := q
theorem y_forDown {g : TG} {tb : TS} {i : Int} (h0 : -1 ≤ i) (h1 : i < 1000000) (q : AskF (i + 1).toNat (fun _ => True) (YFn fun k => .int (i + (k : Nat) * (-1))) g tb nx rt σ H) :
    ∃ (i' j c : Int) (n : Nat), [V.int i, V.int (-1), V.int (-1)] = [.int i', .int j, .int c] ∧ RgC i' j c n ∧ WF (Itc i' c n) g tb nx rt σ H := by
  refine ⟨i, -1, -1, (i + 1).toNat, rfl, ?_, askF walk_rangeC q⟩
  have := RgC.neg (i := i) (j := -1) (by omega) (by omega) (by decide) (by decide)
  rwa [show (i - -1) = i + 1 by omega] at this
end
theorem iteP {c : Bool} {A B : Prop} (h : c = true) (q : A) : if c = true then A else B := by rw [if_pos h]; exact q
theorem iteN {c : Bool} {A B : Prop} (h : c = false) (q : B) : if c = true then A else B := by rw [h]; exact q
section
variable {K : PySem.W.Frag} {σ : SS} {H : Hp} {Q : VK} {x y : V} {ta tb tc : TE} {r r' : R2} {QB : Bool → Hp → Prop}
theorem x_chain (q : ta σ H fun x H1 => tb σ H1 fun y H2 => r x y H2 fun z H3 => ∃ k, z = .bl k ∧ (if k = true then tc σ H3 fun w' H4 => r' y w' H4 Q else Q (.bl false) H3)) : tChain r r' ta tb tc σ H Q := q
theorem x_isi {n : String} {t : Value} {b : Bool} (ty : TyX K H x t) (k : PySem.W.kitOne K t (.type n) = some b) (q : Q (.bl b) H) : rIsi K [x, .ty n] H Q := ⟨x, .ty n, t, .type n, b, rfl, .ty n, ty, k, q⟩
theorem x_isiII {i : Int} (q : Q (.bl true) H) : rIsi K [.int i, .ty "int"] H Q := x_isi (.base (.int i)) (kit_ty (by decide +kernel)) q
theorem x_isiIB {i : Int} (q : Q (.bl false) H) : rIsi K [.int i, .ty "bool"] H Q := x_isi (.base (.int i)) (kit_ty (by decide +kernel)) q
end
section
variable {K : PySem.W.Frag} {σ : SS} {H : Hp} {Q : VK} {QS : SS → Hp → Prop} {nx bk ct : SS → Hp → Prop} {rt : VK} {s1 s2 : TS} {ta tb : TE} {tA : TA} {a b : Addr} {xs : List V} {ds : List PyData}
theorem x_par3 {i j l : Nat} (q : tA σ H fun vs H1 => ∃ u v w, vs = [u, v, w] ∧ nx (((σ.set i (some u)).set j (some v)).set l (some w)) H1) : tPar3 i j l tA ⟨nx, rt, bk, ct⟩ σ H := q
theorem x_three {R : V → V → V → Prop} {x y z : V} (q : R x y z) : ∃ u v w, [x, y, z] = [u, v, w] ∧ R u v w := ⟨x, y, z, rfl, q⟩
theorem x_orT (q : ta σ H fun x H1 => ∃ k, TruV K x H1 k ∧ if k = true then Q x H1 else tb σ H1 Q) : tOrT K ta tb σ H Q := q
theorem x_truN {R : Bool → Prop} (q : R false) : ∃ k, TruV K .non H k ∧ R k := ⟨false, rfl, q⟩
theorem x_truT {R : Bool → Prop} (h : SqT K H a xs) (q : R (!xs.isEmpty)) : ∃ k, TruV K (.ref a) H k ∧ R k := ⟨_, .inr (.inl ⟨xs, h, rfl⟩), q⟩
theorem x_glst {m : Nat} {u : TGs} (h : SqL K H a xs) (l : xs.length = m) (q : u xs σ H QS) : gLst K m u (.ref a) σ H QS := ⟨a, xs, rfl, h, l, q⟩
/-- a part of a block that may end in more than one way: what comes behind it, once -/
theorem x_seqG (P : SS → Hp → Prop) (q : ∀ G : SS → Hp → Prop, (∀ σ H, P σ H → G σ H) → s1 ⟨G, rt, bk, ct⟩ σ H) (r : ∀ σ H, P σ H → s2 ⟨nx, rt, bk, ct⟩ σ H) : tSeq s1 s2 ⟨nx, rt, bk, ct⟩ σ H := q _ r
theorem eqv_nil (ds : List PyData) : PyData.eqv (.list ds) (.list []) = ds.isEmpty := by
  cases ds <;> rfl
theorem x_neNilD (h : SqL K H a xs) (hd : DpAll K H xs ds) (sh : SeqAt.shaped (.list ds) = true) (hb : SqL K H b []) (q : Q (.bl (!ds.isEmpty)) H) : rNeD K (.ref a) (.ref b) H Q := ⟨.list ds, .list [], .lst h hd, .lst hb .nil, sh, by decide, by rw [eqv_nil]; exact q⟩
theorem x_eqNilD (h : SqL K H a xs) (hd : DpAll K H xs ds) (sh : SeqAt.shaped (.list ds) = true) (hb : SqL K H b []) (q : Q (.bl ds.isEmpty) H) : rEqD K (.ref a) (.ref b) H Q := ⟨.list ds, .list [], .lst h hd, .lst hb .nil, sh, by decide, by rw [eqv_nil]; exact q⟩
theorem x_catL {ys : List V} (h : H a = some (.lst xs)) (h2 : H b = some (.lst ys)) (z : xs.length + ys.length ≤ sizeLine) (q : ∀ p, H p = none → Q (.ref p) (upd H p (.lst (xs ++ ys)))) : rCat (.ref a) (.ref b) H Q := ⟨a, b, xs, ys, rfl, rfl, h, h2, z, q⟩
end

/-! ### the rules that speak of X.K, with K told from outside -/
section
variable {X : Cx} {K : PySem.W.Frag}
theorem op_eqDK (hu : X.A.units + 64 < cLine) (e : X.K = K := by rfl) : OpR X (compareOp .Eq) (rEqD K) := e ▸ op_eqD hu
theorem op_neDK (hu : X.A.units + 64 < cLine) (e : X.K = K := by rfl) : OpR X (compareOp .NotEq) (rNeD K) := e ▸ op_neD hu
end
section
variable {X : Cx} {K : PySem.W.Frag} {o e : Expr} {es : List Expr} {to : TE} {t : TA} {name : Str} {apos cpos : Pos} {T id : String} {r : V → List V → Hp → VK → Prop}
theorem pe_bmK (pa : PlainAttrs T) (slot : Slot T name id) (hty : typeOf (.builtin id) = pure (.type "method_descriptor")) (hm : MtR X id r) (ho : PE X o to) (ha : PA X (e :: es) t) (eK : X.K = K := by rfl)
    (hbase : attributeBase o name X.env (eval o X.env) = eval o X.env := by rfl)
    (hfew : ((backTo cpos (starEach (e :: es) X.env)).all (fun x => !x.1) && (backToKw cpos (keywordEach [] X.env)).all (fun x => x.1.isSome)
      && decide ((e :: es).length + ([] : List Keyword).length + (if ([] : List Keyword).isEmpty then 0 else 1) < 30)) = true := by rfl)
    (hline : (apos.endLine == cpos.line) = true := by rfl) (hs : starEach (e :: es) X.env = (false, eval e X.env) :: starEach es X.env := by rfl) (hplain : (backTo cpos (starEach es X.env)).any (·.1) = false := by rfl) :
    PE X (.Call (.Attribute o name apos) (e :: es) [] cpos) (tBM K T r to t) := eK ▸ pe_bm pa slot hty hm ho ha hbase hfew hline hs hplain
theorem pe_bm0K (pa : PlainAttrs T) (slot : Slot T name id) (hty : typeOf (.builtin id) = pure (.type "method_descriptor")) (hm : MtR X id r) (ho : PE X o to) (eK : X.K = K := by rfl)
    (hbase : attributeBase o name X.env (eval o X.env) = eval o X.env := by rfl) (hline : (apos.endLine == cpos.line) = true := by rfl) : PE X (.Call (.Attribute o name apos) [] [] cpos) (tBM0 K T r to) := eK ▸ pe_bm0 pa slot hty hm ho hbase hline
end
/-! ### all that is no list is kept -/
def Kt (H H' : Hp) : Prop := ∀ b o, H b = some o → (∀ xs, o ≠ .lst xs) → H' b = some o
theorem Kt.refl (H : Hp) : Kt H H := fun _ _ h _ => h
theorem Kt.trans {H H1 H2 : Hp} (a : Kt H H1) (b : Kt H1 H2) : Kt H H2 := fun c o h n => b c o (a c o h n) n
theorem Kt.of {S : List Addr} {H H' : Hp} (k : Kx S H H') (h : ∀ q ∈ S, ∃ xs, H q = some (.lst xs)) : Kt H H' := fun b o e n => by
  refine k b o (fun z => ?_) e
  obtain ⟨xs, hq⟩ := h b z
  rw [e] at hq
  exact n xs (Option.some.inj hq)
theorem Kt.of0 {H H' : Hp} (k : Kx [] H H') : Kt H H' := fun b o e _ => k b o (by simp) e
theorem Kt.of1 {H H' : Hp} {p : Addr} (k : Kx [p] H H') {xs : List V} (h : H p = some (.lst xs)) : Kt H H' := Kt.of k fun q hq => by rw [List.mem_singleton.mp hq]; exact ⟨xs, h⟩
theorem Kt.wr {H H' : Hp} {q : Addr} {o : HO} (k : Kt H H') {xs : List V} (h : H' q = some (.lst xs)) : Kt H (upd H' q o) := fun b u e n => by
  have e2 := k b u e n
  by_cases hb : b = q
  · subst hb
    rw [h] at e2
    exact absurd (Option.some.inj e2).symm (n xs)
  · rw [upd_ne hb]
    exact e2
theorem Kt.new {H H' : Hp} {q : Addr} {o : HO} (k : Kt H H') (h : H' q = none) : Kt H (upd H' q o) := fun b u e n => lk_ne (k b u e n) h
theorem Kt.sqT {K : PySem.W.Frag} {H H' : Hp} {a : Addr} {xs : List V} (k : Kt H H') (h : SqT K H a xs) : SqT K H' a xs := by
  rcases h with (h | ⟨o, h⟩) | h
  · exact .inl (.inl (k _ _ h (by intro ys z; cases z)))
  · exact .inl (.inr ⟨o, k _ _ h (by intro ys z; cases z)⟩)
  · exact .inr h
theorem Kx.cmb {S : List Addr} {H H1 H2 : Hp} {Z : Addr} (a : Kx S H H1) (b : Kx [Z] H1 H2) (n : H Z = none) : Kx S H H2 := fun q o hq h =>
  b q o (fun z => by rw [List.mem_singleton.mp z, n] at h; cases h) (a q o hq h)
/-! ### numbers -/
def oV : Option Nat → V
  | none => .non
  | some n => .int (n : Int)
def oD : Option Nat → PyData
  | none => .none
  | some n => .int (n : Int)
theorem dp_o {K : PySem.W.Frag} {H : Hp} : ∀ o : Option Nat, Dp K H (oV o) (oD o)
  | none => .non
  | some n => .int n
theorem dp_os {K : PySem.W.Frag} {H : Hp} : ∀ l : List (Option Nat), DpAll K H (l.map oV) (l.map oD)
  | [] => .nil
  | o :: r => .cons (dp_o o) (dp_os r)
theorem good_os {l : List (Option Nat)} (h : ∀ o ∈ l, ∀ n, o = some n → n < 10 ^ 9) (hl : l.length ≤ 40) : Good (.tuple (l.map oD)) 1 (40 * 32) := by
  refine Good.tuple (k := 0) (w := 31) (n := 40) ?_ (by rw [List.length_map]; exact hl)
  intro d hd
  obtain ⟨o, ho, rfl⟩ := List.mem_map.mp hd
  cases o with
  | none => exact Good.none.mono (Nat.le_refl _) (by decide)
  | some n =>
    have := h _ ho n rfl
    exact Good.int (by omega)
abbrev natV (l : List Nat) : List V := l.map fun (n : Nat) => V.int (n : Int)
theorem natV_get {l : List Nat} {i n : Nat} (h : l[i]? = some n) : (natV l)[i]? = some (V.int (n : Int)) := by
  unfold natV
  rw [List.getElem?_map, h]
  rfl
theorem natV_at {l : List Nat} {i n : Nat} (h : l[i]? = some n) : atI (natV l) (i : Int) = some (.int (n : Int)) := atI_nat (natV_get h)
theorem natV_int (l : List Nat) : natV l = (l.map fun (n : Nat) => (n : Int)).map V.int := by
  unfold natV
  rw [List.map_map]
  rfl
theorem natV_len (l : List Nat) : (natV l).length = l.length := List.length_map ..
theorem cast_back {N : Nat} : ∀ {zs : List Int}, (∀ z ∈ zs, z ∈ (List.range N).map fun (i : Nat) => (i : Int)) → natV (zs.map Int.toNat) = zs.map V.int
  | [], _ => rfl
  | z :: r, h => by
    obtain ⟨m, _, e⟩ := List.mem_map.mp (h z List.mem_cons_self)
    have ih := cast_back (zs := r) fun y hy => h y (List.mem_cons_of_mem _ hy)
    unfold natV at ih ⊢
    rw [List.map_cons, List.map_cons, List.map_cons, ih, ← e]
    rfl
theorem perm_nat {zs : List Int} {N : Nat} (h : zs.Perm ((List.range N).map fun (i : Nat) => (i : Int))) : ∃ ns : List Nat, zs.map V.int = natV ns ∧ ns.Perm (List.range N) := by
  refine ⟨zs.map Int.toNat, (cast_back fun z hz => h.mem_iff.mp hz).symm, ?_⟩
  have e := h.map Int.toNat
  rw [List.map_map] at e
  have e2 : (List.range N).map (Int.toNat ∘ fun (i : Nat) => (i : Int)) = List.range N := by
    rw [show (Int.toNat ∘ fun (i : Nat) => (i : Int)) = id from funext fun n => Int.toNat_natCast n, List.map_id]
  rwa [e2] at e
theorem rg_nat (N : Nat) : rgV 0 (N : Int) = natV (List.range N) := by
  unfold rgV natV
  rw [show ((N : Int) - 0).toNat = N by omega]
  refine List.map_congr_left fun i _ => ?_
  show V.int (0 + (i : Int)) = V.int i
  rw [Int.zero_add]
theorem erase_nat : ∀ (zs : List Nat) (i : Nat), (natV zs).eraseIdx i = natV (zs.eraseIdx i)
  | [], _ => rfl
  | _ :: _, 0 => rfl
  | z :: r, i + 1 => congrArg (V.int (z : Int) :: ·) (erase_nat r i)
theorem at_i {zs : List Int} {w : Int} (h0 : 0 ≤ w) (h1 : w < zs.length) : ∃ z ∈ zs, zs[w.toNat]? = some z ∧ atI (zs.map V.int) w = some (.int z) := by
  obtain ⟨i, rfl⟩ : ∃ i : Nat, w = i := ⟨w.toNat, by omega⟩
  have hi : i < zs.length := by omega
  have e1 := List.getElem?_eq_getElem hi
  refine ⟨zs[i], List.getElem_mem hi, by simpa using e1, atI_nat ?_⟩
  rw [List.getElem?_map, e1]
  rfl
theorem ix_n {n j : Nat} (hj : j < n) : ixN n (j : Int) = some j := by
  unfold ixN
  rw [if_pos (by omega), if_pos (by omega), Int.toNat_natCast]
theorem erase_perm0 {z : Nat} : ∀ {zs : List Nat} {i : Nat}, zs[i]? = some z → (z :: zs.eraseIdx i).Perm zs
  | [], _, h => by cases h
  | y :: r, 0, h => by
    cases Option.some.inj h
    exact .refl _
  | y :: r, i + 1, h => (List.Perm.swap y z _).trans ((erase_perm0 (zs := r) (i := i) h).cons y)
theorem erase_perm {zs : List Nat} {i : Nat} {z : Nat} (h : zs[i]? = some z) (as : List Nat) : (as ++ [z] ++ zs.eraseIdx i).Perm (as ++ zs) := by
  rw [List.append_assoc]
  exact List.Perm.append_left as (erase_perm0 h)
section
variable {K : PySem.W.Frag} {σ : SS} {H : Hp} {Q : VK} {te : TE} {a : Addr} {xs : List V} {y : V} {i : Nat} {j : Int}
theorem x_revL (q : te σ H fun x H1 => ∃ a xs, x = .ref a ∧ SqL K H1 a xs ∧ ∀ p, H1 p = none → Q (.ref p) (upd H1 p (.lst xs.reverse))) : tRevL K te σ H Q := q
theorem x_revR {R : Addr → List V → Prop} (h : SqL K H a xs) (q : ∀ p, H p = none → R p xs) : ∃ a' ys, V.ref a = .ref a' ∧ SqL K H a' ys ∧ ∀ p, H p = none → R p ys := ⟨a, xs, rfl, h, q⟩
theorem x_popAt (h : H a = some (.lst xs)) (e : j = (i : Int)) (b : i < 1000000) (s : xs[i]? = some y) (q : Q y (upd H a (.lst (xs.eraseIdx i)))) : rPopAt (.ref a) [.int j] H Q := by
  subst e
  have hi := (List.getElem?_eq_some_iff.mp s).1
  exact ⟨a, xs, i, i, y, rfl, rfl, h, by omega, by omega, seqIndex_of (by omega) (by omega), s, q⟩
theorem dp_nats : ∀ l : List Nat, DpAll K H (natV l) (l.map fun (n : Nat) => PyData.int (n : Int))
  | [] => .nil
  | n :: r => .cons (.int n) (dp_nats r)
end
theorem shaped_int2 (p s : Int) : SeqAt.shaped (.tuple [.int p, .int s]) = true := by
  unfold SeqAt.shaped
  simp [PyData.canLay0, PyData.canLayAll0, PyData.depth, PyData.depthAll]
theorem dpAll_i {K : PySem.W.Frag} {H : Hp} : ∀ {vs : List V} {ds : List PyData}, vs.length = ds.length → (∀ (i : Nat) (d : PyData), ds[i]? = some d → ∃ v, vs[i]? = some v ∧ Dp K H v d) → DpAll K H vs ds
  | [], [], _, _ => .nil
  | [], _ :: _, h, _ => by cases h
  | _ :: _, [], h, _ => by cases h
  | v :: vs, d :: ds, h, q => by
    obtain ⟨v', e, hd⟩ := q 0 d rfl
    cases Option.some.inj e
    exact .cons hd (dpAll_i (Nat.succ.inj h) fun i d' hi => q (i + 1) d' hi)

theorem in_nat {n : Nat} (ns : List Nat) : inV (.int (n : Int)) (natV ns) = decide (n ∈ ns) := by
  rw [natV_int, in_int]
  congr 1
  rw [List.mem_map]
  refine propext ⟨?_, fun h => ⟨n, h, rfl⟩⟩
  rintro ⟨m, hm, e⟩
  rwa [← Int.ofNat.inj e]
theorem flat_nats (ns : List Nat) : (natV ns).all flatV = true := by rw [natV_int]; exact flat_ints _
theorem x_neNilN {K : PySem.W.Frag} {H : Hp} {Q : VK} {a b : Addr} {l : List Nat} (h : SqL K H a (natV l)) (hb : SqL K H b []) (q : Q (.bl (!l.isEmpty)) H) : rNeD K (.ref a) (.ref b) H Q := by
  rw [natV_int] at h
  refine x_neNil h hb ?_
  cases l with
  | nil => exact q
  | cons _ _ => exact q
theorem set_range {α : Type} {n j : Nat} {f g : Nat → α} (hj : j < n) (h1 : ∀ i, i ≠ j → g i = f i) : ((List.range n).map f).set j (g j) = (List.range n).map g := by
  refine List.ext_getElem? fun i => ?_
  by_cases e : i = j
  · subst e
    rw [List.getElem?_set_self (by rw [List.length_map, List.length_range]; exact hj), List.getElem?_map, List.getElem?_range hj]
    rfl
  · rw [List.getElem?_set_ne (Ne.symm e), List.getElem?_map, List.getElem?_map]
    cases h : (List.range n)[i]? with
    | none => rfl
    | some k =>
      obtain ⟨h2, h3⟩ := List.getElem?_eq_some_iff.mp h
      rw [List.getElem_range] at h3
      show some (f k) = some (g k)
      rw [h1 k (by omega)]

open PySem PySem.Spec PySem.Calls PyProof.Rows L2
/-! ### min(ints, default=d) -/
section
variable {prog : Program} {w : World} {A : Around} {E : Value → Shared → Prop} {R : Result → Shared → Prop} {I : Addr} {fp wr : List Addr} {G : Array GenState → Array GenState → Prop} {n : Nat} {P : Nat → Value → Prop} {St : Nat → Shared → Prop}
theorem minkw_turns (kw : List (Str × Value)) (W : WalksS prog w A.in1 I fp wr G n P St) (bt : Nat → Nat → Bool) (hcmp : CmpOf prog w A.in1 .Lt P bt) (S : Addr) (hSf : S ∉ fp) :
    ∀ (k j : Nat) (s : Shared) (vb : Value) (c : Nat), n - (j + 1) = k → j + 1 ≤ n → St (j + 1) s → P (argBest bt j) vb → s.heap.get? S = some { cls := .type "list", dict := none, data := .seq #[vb, vb] c, slots := #[] } →
      (∀ v s', P (argBest bt (n - 1)) v → Moved (S :: wr) G s s' → R (.ok (.ret v)) s') → codeAny (model prog w) A (.builtin "min.loop" ⟨[.ref I, .none, .ref S], kw⟩) R s := by
  have nm : (toString "min" ++ toString ".loop" : String) = "min.loop" := by decide
  have w1 : S ∉ wr := fun h => hSf (W.sub _ h)
  have w2 : ∀ b ∈ wr, b ∈ S :: wr := fun b hb => List.mem_cons_of_mem _ hb
  have w3 : ∀ {b : Addr}, b ∉ S :: wr → S ≠ b := fun hb h => hb (h ▸ List.mem_cons_self)
  intro k
  induction k with
  | zero =>
    intro j s vb c hk hj hst hPb hS hR
    obtain rfl : j + 1 = n := by omega
    refine codeAny_builtin PySem.F.entry_min_loop ?_
    rw [Around.under_plainId PySem.F.plain_min_loop _]; show wpAny _ A.in1 (seqItems? (.ref S) >>= _) _ _ s
    refine wpAny_bind (wpAny_seqItems hS rfl ?_); show wpAny _ A.in1 (tryCatch (pyNext (.ref I)) _ >>= _) _ _ s
    refine wpAny_bind (wpAny_tryCatch (W.done s _ _ hst fun s' hm => ?_))
    have hS' := hm.heap S _ w1 hS
    show wpAny _ A.in1 (updateSeq S (fun _ => (#[] : Array Value)) >>= _) _ _ _
    refine wpAny_bind (wpAny_updateSeq hS' rfl (wpAny_bind (wpAny_letGo (wpAny_pure (hR vb _ hPb ?_)))))
    exact (hm.mono w2).then_heap (tk := s'.toks) (Nat.le_refl _) fun b o hb e => (Heap.get?_update_other _ _ (w3 hb)).trans e
  | succ k ih =>
    intro j s vb c hk hj hst hPb hS hR
    have hlt : j + 1 < n := by omega
    refine codeAny_builtin PySem.F.entry_min_loop ?_
    rw [Around.under_plainId PySem.F.plain_min_loop _]; show wpAny _ A.in1 (seqItems? (.ref S) >>= _) _ _ s
    refine wpAny_bind (wpAny_seqItems hS rfl ?_); show wpAny _ A.in1 (tryCatch (pyNext (.ref I)) _ >>= _) _ _ s
    refine wpAny_bind (wpAny_tryCatch (W.item (j + 1) s _ _ hlt hst fun v s' hP hst' hm => ?_))
    have hS' := hm.heap S _ w1 hS
    show wpAny _ A.in1 (tryCatch (holding [v, v] (richCompare .Lt v vb >>= _)) _ >>= _) _ _ _
    refine wpAny_bind (wpAny_tryCatch (wpAny_holding (wpAny_bind (hcmp (j + 1) (argBest bt j) v vb _ _ _ hP hPb ?_)))); refine wpAny_bind (wpAny_holding (wpAny_truthy_bool ?_))
    refine wpAny_bind (wpAny_letGo (wpAny_pure ?_))
    cases hb : bt (j + 1) (argBest bt j) with
    | true =>
      simp only [if_true]
      refine wpAny_bind (wpAny_updateSeq hS' rfl (wpAny_bind (wpAny_letGo ?_))); rw [nm]
      have far : ∀ {b : Addr}, b ∉ fp → True := fun _ => trivial
      refine wpAny_pure ⟨plainId_quiet PySem.F.plain_min_loop _, ih (j + 1) _ v _ (by omega) hlt (W.frame _ s' _ s'.toks hst' (Nat.le_refl _) fun b hbf o e => (Heap.get?_update_other _ _ (fun h : S = b => hSf (h ▸ hbf))).trans e) (by simp only [argBest, hb, if_true]; exact hP) (Heap.get?_update_self _ hS' rfl) fun v' s'' hP' hm'' => hR v' s'' hP' (Moved.trans W.gtrans ((hm.mono w2).then_heap (Nat.le_refl _) fun b o hb e => (Heap.get?_update_other _ _ (w3 hb)).trans e) hm'')⟩
    | false =>
      simp only [Bool.false_eq_true, if_false]
      refine wpAny_bind (wpAny_letGo ?_); rw [nm]
      exact wpAny_pure ⟨plainId_quiet PySem.F.plain_min_loop _, ih (j + 1) _ vb c (by omega) hlt hst' (by simp only [argBest, hb, Bool.false_eq_true, if_false]; exact hPb) hS' fun v' s'' hP' hm'' => hR v' s'' hP' (Moved.trans W.gtrans (hm.mono w2) hm'')⟩
/-- the first turn, none or one -/
theorem minkw_first {d : Value} (W : WalksS prog w A.in1 I fp wr G n P St) (bt : Nat → Nat → Bool) (hcmp : CmpOf prog w A.in1 .Lt P bt) (S : Addr) (hSf : S ∉ fp) {s : Shared} {c : Nat} (hst : St 0 s) (hS : s.heap.get? S = some { cls := .type "list", dict := none, data := .seq #[] c, slots := #[] })
    (h0 : n = 0 → ∀ s', Moved (S :: wr) G s s' → R (.ok (.ret d)) s') (h1 : 0 < n → ∀ v s', P (argBest bt (n - 1)) v → Moved (S :: wr) G s s' → R (.ok (.ret v)) s') :
    codeAny (model prog w) A (.builtin "min.loop" ⟨[.ref I, .none, .ref S], [("default", d)]⟩) R s := by
  have nm : (toString "min" ++ toString ".loop" : String) = "min.loop" := by decide
  have w1 : S ∉ wr := fun h => hSf (W.sub _ h)
  have w2 : ∀ b ∈ wr, b ∈ S :: wr := fun b hb => List.mem_cons_of_mem _ hb
  have w3 : ∀ {b : Addr}, b ∉ S :: wr → S ≠ b := fun hb h => hb (h ▸ List.mem_cons_self)
  refine codeAny_builtin PySem.F.entry_min_loop ?_
  rw [Around.under_plainId PySem.F.plain_min_loop _]; show wpAny _ A.in1 (seqItems? (.ref S) >>= _) _ _ s
  refine wpAny_bind (wpAny_seqItems hS rfl ?_); show wpAny _ A.in1 (tryCatch (pyNext (.ref I)) _ >>= _) _ _ s
  by_cases hn : 0 < n
  · refine wpAny_bind (wpAny_tryCatch (W.item 0 s _ _ hn hst fun v s' hP hst' hm => ?_))
    have hS' := hm.heap S _ w1 hS
    show wpAny _ A.in1 (updateSeq S (fun _ => #[v, v]) >>= _) _ _ _
    refine wpAny_bind (wpAny_updateSeq hS' rfl ?_); rw [nm]
    refine wpAny_pure ⟨plainId_quiet PySem.F.plain_min_loop _, minkw_turns _ W bt hcmp S hSf _ 0 _ v _ rfl hn (W.frame _ s' _ s'.toks hst' (Nat.le_refl _) fun b hbf o e => (Heap.get?_update_other _ _ (fun h : S = b => hSf (h ▸ hbf))).trans e) hP (Heap.get?_update_self _ hS' rfl) fun v' s'' hP' hm'' => h1 hn v' s'' hP' ?_⟩
    exact Moved.trans W.gtrans ((hm.mono w2).then_heap (Nat.le_refl _) fun b o hb e => (Heap.get?_update_other _ _ (w3 hb)).trans e) hm''
  · obtain rfl : n = 0 := by omega
    refine wpAny_bind (wpAny_tryCatch (W.done s _ _ hst fun s' hm => ?_))
    refine wpAny_bind (wpAny_rule ?_)
    exact wpAny_pure (h0 rfl s' (hm.mono w2))
theorem mind_args (a v : Value) : argsOk "min" ⟨[a], [(Str.ofString "default", v)]⟩ := by unfold argsOk; kernel_rfl
theorem min_dflt {l : Addr} {its : List Value} {ns : List Int} {d : Value} {s : Shared} {Q : Value → Shared → Prop} (hh : A.handled = none) (hl : s.heap.IsList l its.toArray) (hi : IntsAre its ns)
    (h0 : ns = [] → ∀ h' tk, (∀ b o, s.heap.get? b = some o → h'.get? b = some o) → Q d { s with heap := h', toks := tk })
    (h1 : ∀ h' tk m t', (∀ b o, s.heap.get? b = some o → h'.get? b = some o) → m ∈ ns → (∀ a, a ∈ ns → m ≤ a) → Q (.int m t') { s with heap := h', toks := tk }) :
    wpAny (model prog w) A (call (.builtin "min") [.ref l] [(Str.ofString "default", d)]) Q E s := by
  obtain ⟨xs, e⟩ := hi.allInts.items
  have hn : numsOf (intItems xs).toList = ns := e ▸ hi.numsOf
  rw [nums_intItems] at hn
  subst hn
  rw [e] at hl
  have nm : (toString "min" ++ toString ".loop" : String) = "min.loop" := by decide
  refine kmb_tree PySem.F.kind_min PySem.F.plain_min PySem.F.entry_min (mind_args _ _) ?_
  show wpAny _ A.in1 (Builtin.Builtins.bindParams "min" ["key", "default"] 0 ⟨[], [(Str.ofString "default", d)]⟩ >>= _) _ _ s
  refine wpAny_bind (wpAny_of_eq (show Builtin.Builtins.bindParams "min" ["key", "default"] 0 ⟨[], [(Str.ofString "default", d)]⟩ = pure [none, some d] from rfl) ?_)
  refine wpAny_bind (wpAny_pure (wpAny_bind ?_))
  refine PySem.iter_intList hl fun s2 e2 st hfp hlI => ?_
  subst e2
  refine wpAny_bind (wpAny_newObj_type ?_); rw [nm]
  have W := Walks.list (prog := prog) (w := w) (A := A.in1) hh s.heap.objs.size l hlI (intItems xs)
  have hsz : (s.heap.push { cls := .type "list_iterator", data := .fields #[.ref l, .int 0 0] }).objs.size = s.heap.objs.size + 1 := Heap.size_push ..
  have hSf : (s.heap.push { cls := .type "list_iterator", data := .fields #[.ref l, .int 0 0] }).objs.size ∉ [s.heap.objs.size, l] := fun hm => Nat.lt_irrefl _ (hfp _ hm)
  have hlen : (intItems xs).size = xs.size := by simp [intItems]
  have off : ∀ {b : Addr} {o : Obj}, s.heap.get? b = some o → b ∉ [(s.heap.push { cls := .type "list_iterator", data := .fields #[.ref l, .int 0 0] }).objs.size, s.heap.objs.size] := fun {b o} q hm => by
    have hlt : b < s.heap.objs.size := Heap.lt_size q
    rw [hsz] at hm
    rcases List.mem_cons.mp hm with z | z
    · exact absurd hlt (by rw [z]; exact Nat.not_lt.mpr (Nat.le_succ _))
    · exact absurd hlt (by rw [List.mem_singleton.mp z]; exact Nat.lt_irrefl _)
  refine wpAny_pure ⟨plainId_quiet PySem.F.plain_min_loop _, minkw_first W.toS _ (CmpOf.ints_lt (numAt xs) (fun _ _ => intItems_at)) _ hSf (W.toS.frame 0 _ _ s.toks st (Nat.le_refl _) fun b _ o q => Heap.get?_push_of_some _ q) (Heap.get?_push_size _ rfl) (fun hz s' hm => ?_) (fun hz v s' hP hm => ?_)⟩
  · rw [Moved.eq_with hm]
    exact h0 (by rw [hlen] at hz; rw [Array.eq_empty_of_size_eq_zero hz]; rfl) s'.heap s'.toks fun b o q => hm.heap b o (off q) (Heap.get?_push_of_some _ (Heap.get?_push_of_some _ q))
  · rw [Moved.eq_with hm]
    have hne : 0 < xs.size := by rwa [hlen] at hz
    have hP : (intItems xs)[argBest (fun i j => decide (numAt xs i < numAt xs j)) (xs.size - 1)]? = some v := by simpa [intItems] using hP
    obtain ⟨t, rfl⟩ := intItems_at hP
    obtain ⟨g1, g2⟩ := argBest_lt (numAt xs) (xs.size - 1)
    refine h1 s'.heap s'.toks _ t (fun b o q => hm.heap b o (off q) (Heap.get?_push_of_some _ (Heap.get?_push_of_some _ q))) ?_ fun a ha => ?_
    · rw [numAt_eq]
      exact PySem.getD_mem (by rw [List.length_map, Array.length_toList]; omega)
    · obtain ⟨j, hj, rfl⟩ := mem_getD ha
      rw [List.length_map, Array.length_toList] at hj
      exact numAt_eq xs j ▸ g2 j (by omega)
end
section
variable {X : Cx}
def rMinD (K : PySem.W.Frag) : List V → List V → Hp → VK → Prop := fun xs zs H Q => ∃ (a : Addr) (ns : List Int) (d : V), xs = [.ref a] ∧ zs = [d] ∧ SqL K H a (ns.map V.int) ∧ (ns = [] → Q d H) ∧ ∀ m, m ∈ ns → (∀ b, b ∈ ns → m ≤ b) → Q (.int m) H
theorem cr_minD (hc : X.calm = true) : CallRK X (.builtin "min") [Str.ofString "default"] (rMinD X.K) := by
  intro pins s σ H xs zs us ws Q I r rz h
  obtain ⟨a, ns, d, rfl, rfl, hs, q0, q1⟩ := h
  obtain ⟨its, rv, hl, _⟩ := I.list hs
  obtain ⟨u, rfl, ru⟩ := vals1 rz
  rw [Vals.ref1 r]
  exact min_dflt (I.ok.hd hc) hl.isList rv.ints (fun e h' tk hk => ⟨d, H, I.kept hk, ru, q0 e⟩) fun h' tk m t' hk h1 h2 => ⟨.int m, H, I.kept hk, ⟨_, rfl⟩, q1 m h1 h2⟩
end

theorem cr_minDK {X : Cx} {K : PySem.W.Frag} (hc : X.calm = true) (e : X.K = K := by rfl) : CallRK X (.builtin "min") [Str.ofString "default"] (rMinD K) := e ▸ cr_minD hc
theorem x_minD {K : PySem.W.Frag} {H : Hp} {Q : VK} {a : Addr} {ns : List Int} {d : V} (h : SqL K H a (ns.map V.int)) (q0 : ns = [] → Q d H) (q1 : ∀ m, m ∈ ns → (∀ b, b ∈ ns → m ≤ b) → Q (.int m) H) : rMinD K [.ref a] [d] H Q := ⟨a, ns, d, rfl, rfl, h, q0, q1⟩
/-! ### math.lcm -/
section
variable {X : Cx}
def rLcm : List V → Hp → VK → Prop := fun vs H Q => ∃ a b : Int, vs = [.int a, .int b] ∧ a.natAbs < 2 ^ 10000 ∧ b.natAbs < 2 ^ 10000 ∧ (Nat.lcm a.natAbs b.natAbs) < 2 ^ 20000 ∧ Q (.int ((Nat.lcm a.natAbs b.natAbs : Nat) : Int)) H
theorem log_lt {n k : Nat} (h : n < 2 ^ k) (hk : 0 < k) : n.log2 < k := by
  by_cases h0 : n = 0
  · subst h0
    rw [Nat.log2_zero]
    exact hk
  · exact (Nat.log2_lt h0).mpr h
theorem max_lt2 {a b k : Nat} (ha : a < 2 ^ k) (hb : b < 2 ^ k) : max a b < 2 ^ k := Nat.max_lt.mpr ⟨ha, hb⟩
theorem cr_lcm : CallR X (.builtin "math.lcm") rLcm := by
  intro pins s σ H vs us Q I r h
  obtain ⟨a, b, rfl, ha, hb, hl, q⟩ := h
  obtain ⟨t, u, rfl⟩ := Vals.int2 r
  have e1 : Nat.lcm 1 a.natAbs = a.natAbs := Nat.lcm_one_left _
  have h1 : (max 1 a.natAbs).log2 < 10000 := log_lt (max_lt2 (Nat.one_lt_two_pow (by decide)) ha) (by decide)
  have h2 : (max a.natAbs b.natAbs).log2 < 10000 := log_lt (max_lt2 ha hb) (by decide)
  have h3 : (Nat.lcm a.natAbs b.natAbs).log2 < 20000 := log_lt hl (by decide)
  have h4 : (((((Nat.lcm 1 a.natAbs).lcm b.natAbs : Nat) : Int)).natAbs).log2 < bitsLine := by
    rw [e1, Int.natAbs_natCast]
    exact Nat.lt_of_lt_of_le h3 (by decide)
  refine call_function_meets PySem.W.MGF.kind_lcm PySem.W.MGF.plain_lcm PySem.W.MGF.entry_lcm (PySem.W.MGF.args_lcm _ _) (PySem.W.mg_run_lcm a t b u (by omega) (by omega) h4).meets ?_
  rw [e1]
  exact ⟨.int _, H, I.tok _, ⟨_, rfl⟩, q⟩
end
/-! ### a comprehension in a comprehension -/
def relabel' (scope sc : Scope) : Scope := { scope with names := scope.names.map fun (n, k) => if k == NameKind.free && sc.kind == .function && sc.names.lookup n == some .cell then (n, NameKind.cell) else (n, k) }
theorem relabel_eq (scope : Scope) (env : Env) : relabel scope env = relabel' scope env.scope := rfl
theorem blkOk_byN {N : List Str} {scope0 scope : Scope} {env0 : Env} {own : List (Str × Nat)} (h : blkC N (relabel' scope0 env0.scope) scope own = true) : BlkOk N (relabel scope0 env0) scope own := blkOk_by h
section
variable {X : Cx} {K : PySem.W.Frag} {tg e : Expr} {tl : TE}
theorem pi_listK (h : PE X e tl) (eK : X.K = K := by rfl) : PI X tg e (iList K tl) := eK ▸ pi_list h
theorem pi_tupK (h : PE X e tl) (eK : X.K = K := by rfl) : PI X tg e (iTup K tl) := eK ▸ pi_tup h
end

/-! ### calls by position and by name -/
structure Lkx (P : Program) (w : World) (K : PySem.W.Frag) (mg : Str → Option Value) (base : Heap) (x : Str) (k : Nat) (ps ks : List Str) (gV : List V → List V → List V) (sp : Sp) : Prop where
  ex : ∃ (f : Addr) (fd : FuncData) (g : List Value → List Value → List Value), FnOk P w K mg base CX0 k f fd ps sp ∧ mg x = some (.ref f) ∧ PySem.W.keepIn K (.ref f) = true ∧ KBinds K fd ps ks g gV
section
variable {X : Cx} {k : Nat} {x : Str} {ps ks : List Str} {sp : Sp} {e : Expr} {es : List Expr} {p pos : Pos} {t tk : TA} {kws : List Keyword} {gV : List V → List V → List V}
theorem pe_lkx (L : Lkx X.prog X.w X.K X.mg X.base x k ps ks gV sp) (hr : Room k X.A) (hg : Gl X x) (ha : PA X (e :: es) t) (hkw : PK X kws tk)
    (hall : (backToKw pos (keywordEach kws X.env)).all (·.1.isSome) = true := by rfl) (hks : (backToKw pos (keywordEach kws X.env)).filterMap (·.1) = ks := by rfl)
    (hdb : (x == ("__debug__" : Str)) = false := by decide) (he : starEach (e :: es) X.env = (false, eval e X.env) :: starEach es X.env := by rfl)
    (hpl : ((backTo pos (starEach (e :: es) X.env)).any (·.1) || (backToKw pos (keywordEach kws X.env)).any (·.1.isNone)) = false := by rfl) :
    PE X (.Call (.Name x p) (e :: es) kws pos) (tCallK sp gV E0 t tk) := by
  obtain ⟨f, fd, g, F, hm, hk, hb⟩ := L.ex
  exact pe_callK F hr hg hm hk hb pass0 ha hkw hall hks hdb he hpl
end
theorem x_kwx {σ : SS} {H : Hp} {Q : VK} {sp : Sp} {gV : List V → List V → List V} {t tk : TA} (q : t σ H fun vs H1 => tk σ H1 fun zs H2 => sp (gV vs zs) H2 Q E0) : tCallK sp gV E0 t tk σ H Q := q
/-- n by position, then m by name in their order -/
def gApp (n m : Nat) {α : Type} (us ws : List α) : List α := if us.length = n ∧ ws.length = m then us ++ ws else []
/-- n by name, the other way round -/
def gRev (n : Nat) {α : Type} (ws : List α) : List α := if ws.length = n then ws.reverse else []
theorem vals_app {vs zs : List V} {us ws : List Value} (r : Vals vs us) (q : Vals zs ws) : Vals (vs ++ zs) (us ++ ws) := by
  induction r with
  | nil => exact q
  | cons h _ ih => exact .cons h ih
theorem vals_rev {vs : List V} {us : List Value} (r : Vals vs us) : Vals vs.reverse us.reverse := by
  induction r with
  | nil => exact .nil
  | cons h _ ih =>
    rw [List.reverse_cons, List.reverse_cons]
    exact vals_app ih (.cons h .nil)
theorem gApp_rel {n m : Nat} {vs zs : List V} {us ws : List Value} (r : Vals vs us) (q : Vals zs ws) : Vals (gApp n m vs zs) (gApp n m us ws) := by
  unfold gApp
  rw [r.length, q.length]
  split
  · exact vals_app r q
  · exact .nil
theorem gRev_rel {n : Nat} {zs : List V} {ws : List Value} (q : Vals zs ws) : Vals (gRev n zs) (gRev n ws) := by
  unfold gRev
  rw [q.length]
  split
  · exact vals_rev q
  · exact .nil
theorem gApp_to {n m : Nat} {α : Type} {us ws : List α} (h : (gApp n m us ws).length = n + m) (h0 : 0 < n + m) : us.length = n ∧ ws.length = m := by
  unfold gApp at h
  split at h
  · assumption
  · rw [List.length_nil] at h; omega
theorem gRev_to {n : Nat} {α : Type} {ws : List α} (h : (gRev n ws).length = n) (h0 : 0 < n) : ws.length = n := by
  unfold gRev at h
  split at h
  · assumption
  · rw [List.length_nil] at h; omega
theorem len1 {α : Type} {l : List α} (h : l.length = 1) : ∃ a, l = [a] := by
  match l, h with
  | [a], _ => exact ⟨a, rfl⟩
theorem len2 {α : Type} {l : List α} (h : l.length = 2) : ∃ a b, l = [a, b] := by
  match l, h with
  | [a, b], _ => exact ⟨a, b, rfl⟩
theorem len3 {α : Type} {l : List α} (h : l.length = 3) : ∃ a b c, l = [a, b, c] := by
  match l, h with
  | [a, b, c], _ => exact ⟨a, b, c, rfl⟩
theorem len4 {α : Type} {l : List α} (h : l.length = 4) : ∃ a b c d, l = [a, b, c, d] := by
  match l, h with
  | [a, b, c, d], _ => exact ⟨a, b, c, d, rfl⟩
theorem x_rg2 {σ : SS} {H : Hp} {ta tb : TE} {QR : Int → Int → Hp → Prop} (q : ta σ H fun x H1 => tb σ H1 fun y H2 => ∃ n m, x = .int n ∧ y = .int m ∧ QR n m H2) : tRg2 ta tb σ H QR := q
theorem x_int2 {i j : Int} {R : Int → Int → Prop} (q : R i j) : ∃ n m, V.int i = .int n ∧ V.int j = .int m ∧ R n m := ⟨i, j, rfl, rfl, q⟩
theorem x_isIf {c : TT} {s1 s2 s3 : TS} {D : Ends} {σ : SS} {H : Hp} (q : tSeq (tIfS c s1 s2) s3 D σ H) : tSeq (tIfS c s1 s2) s3 D σ H := q

/-! ### own exception classes over any built-in base, whose __init__ stores -/
structure ExB (K : PySem.W.Frag) (C : Addr) (bmB : List Value) (newId : String) : Prop where
  inn : PySem.W.excInitIn K C bmB newId = true
  ov : PySem.W.excOver K C bmB = true
  hd : PySem.W.hasDictIn K C = true
  sa : PySem.W.findIn K (.ref C) "__setattr__" = some (some (.builtin "object.__setattr__"))
  exC : PySem.W.subIn K (.ref C) (.type "BaseException") = some true
  tyC : PySem.W.typeIn K (.ref C) = some (.type "type")
  kC : PySem.W.keepIn K (.ref C) = true
/-- the three bases' facts -/
structure ExF (B newId initId : String) (bmB : List Value) : Prop where
  so : StoreFacts B bmB "object.__setattr__" "object"
  ba : ExcBaseFacts B newId initId bmB
section
variable {X : Cx} {pins : List (Addr × Obj)} {σ : L2.St} {H : Hp} {s : Shared} {a C : Addr} {f : Str} {y : V} {u : Value} {Q : Unit → Shared → Prop} {E : Value → Shared → Prop} {A : Around} {B newId initId : String} {bmB : List Value}
/-- self.f = y, the first store into a new exception -/
theorem stB_new (FB : ExF B newId initId bmB) (T : ExB X.K C bmB newId) (I : Inv X pins σ H s) (e : H a = some (exo a C none)) (hno : PySem.W.takerIn X.K C f = some none) (ry : RelV y u)
    (h : ∀ dx s', H dx = none → dx ≠ a → Inv X pins σ (upd (upd H dx (exd dx [(f, y)])) a (exo a C (some dx))) s' → Q () s') : wpAny (model X.prog X.w) A (setAttr (.ref a) f u) Q E s := by
  obtain ⟨t1, ho⟩ := exo_at I.hok e
  obtain ⟨cd, hc, hdct⟩ := PySem.W.any_some T.hd
  obtain ⟨hp, g, d, t, os⟩ := s
  have lt : a < hp.objs.size := Heap.lt_size ho
  refine PySem.W.set_plain I.kIn (ox := { cls := .ref C, dict := none, data := .fields #[.ref t1, .none, .none, .none, .bool false, .none] }) (od := none) ⟨ho, rfl, rfl, trivial⟩ T.sa ?_
  refine PySem.W.osa_openX (od := none) FB.so I.kIn ⟨ho, rfl, rfl, trivial⟩ T.ov hno fun b => ?_
  refine wpAny_bind (wpAny_pure (wpAny_bind (PySem.W.instanceDict_exc ho (PySem.W.looks_clsIn I.kIn hc) hdct ?_)))
  show wpAny _ _ (Builtin.ObjectAttr.storeInDict hp.objs.size (.str f _) f u) _ _ _
  have hne : a ≠ hp.objs.size := Nat.ne_of_lt lt
  refine PySem.HandSPX.store_in_new ⟨_, #[], _, (Heap.get?_update_ne _ _ _ _ hne.symm).trans (Heap.get?_push_at rfl rfl), rfl, fun e he => absurd he (by simp), fun _ => rfl⟩ fun h' tk' hn' hs => ?_
  have ha1 : (hp.push (PySem.W.dictOf [] 0)).get? a = some { cls := .ref C, dict := none, data := .fields #[.ref t1, .none, .none, .none, .bool false, .none] } := Heap.get?_push_of_some _ ho
  have kp : ∀ b o, b ≠ a → hp.get? b = some o → h'.get? b = some o := fun b o hb q =>
    (hs.2 b (Nat.ne_of_lt (Heap.lt_size q))).trans ((Heap.get?_update_ne _ _ _ _ hb).trans (Heap.get?_push_of_some _ q))
  have hx : h'.get? a = some { cls := .ref C, dict := some hp.objs.size, data := .fields #[.ref t1, .none, .none, .none, .bool false, .none] } := (hs.2 a hne).trans (Heap.get?_update_self _ ha1 rfl)
  have nx : H hp.objs.size = none := I.hok.fresh (Nat.le_refl _)
  have nb : ∀ {b : Addr} {o : Obj}, hp.get? b = some o → b ≠ hp.objs.size := fun q => Nat.ne_of_lt (Heap.lt_size q)
  have na : ∀ {b : Addr}, H b = none → b ≠ a := fun n z => by rw [z, e] at n; cases n
  have two : ∀ {b : Addr} {o : HO}, H b = some o → (exo a C none ≠ o) → upd (upd H hp.objs.size (exd hp.objs.size [(f, y)])) a (exo a C (some hp.objs.size)) b = some o := fun {b o} q n => by
    rw [upd_ne (at_ne e q n), upd_ne (ne_of_none q nx)]
    exact q
  refine h hp.objs.size ⟨h', g, d, tk', os⟩ nx hne.symm (I.un (t' := tk') ⟨fun b o q n _ _ => kp b o (na n) q, fun b o q n _ _ => ⟨o.slots, kp b o (na n) q⟩, fun b o q n _ => by rw [upd_ne (na n), upd_ne (nb q)]; exact n, fun b o q _ => ?_, fun b xs q => two q exo_tup, fun b o v q => two q exo_frz, fun b ps q => ⟨#[], by rw [two q exo_tbl]; simp⟩⟩ fun b o q => ?_)
  · by_cases hb : b = a
    · exact ⟨_, by rw [hb]; exact hx⟩
    · exact ⟨o, kp b o hb q⟩
  · by_cases hb : b = a
    · subst hb
      rw [upd_same] at q
      cases q
      exact exo_ok hx
    · rw [upd_ne hb] at q
      by_cases hd : b = hp.objs.size
      · subst hd
        rw [upd_same] at q
        cases q
        exact exd_ok hn' (relO_put (fs := []) ry fun _ => True.intro)
      · rw [upd_ne hd] at q
        refine (I.hok b o q).stay (fun c v hc z => kp c v ?_ z) (fun c hc => two hc exo_own) fun c xs hc => two hc exo_tup
        rcases hc with hc | hc
        · rw [hc]; exact hb
        · exact at_ne e hc exo_own
end
section
variable {X : Cx} {o e : Expr} {es : List Expr} {to te : TE} {ta : TA} {f : Str} {p p' p1 p2 pos : Pos} {B newId initId : String} {bmB : List Value}
/-- self.f = e -/
def tStB (K : PySem.W.Frag) (bmB : List Value) (newId : String) (f : Str) (to te : TE) : TS := fun D σ H => te σ H fun y H1 => to σ H1 fun x H2 => ∃ a C : Addr, x = .ref a ∧ ExB K C bmB newId ∧ PySem.W.takerIn K C f = some none ∧ H2 a = some (exo a C none) ∧
  ∀ dx, H2 dx = none → dx ≠ a → D.nx σ (upd (upd H2 dx (exd dx [(f, y)])) a (exo a C (some dx)))
theorem ps_stB (FB : ExF B newId initId bmB) (ho : PE X o to) (he : PE X e te) (hs : swapsWith e (some (.Attribute o f p')) pos.line X.env = pure false := by rfl) : PS X (.Assign [.Attribute o f p'] e pos) (tStB X.K bmB newId f to te) := by
  refine ⟨fun pins s σ H D I h => ?_⟩
  refine plainObj_wpAny_Assign_Attribute (thn (he.run pins s σ H _ I h) fun v s1 hv => ?_) hs
  obtain ⟨y, H1, I1, r1, q1⟩ := hv
  refine thn (ho.run pins s1 σ H1 _ I1 q1) fun u s2 hu => ?_
  obtain ⟨x, H2, I2, r2, a, C, rfl, T, hno, ea, q⟩ := hu
  obtain rfl : u = Value.ref a := r2
  exact stB_new FB T I2 ea hno r1 fun dx s' n ne J => ⟨σ, _, J, q dx n ne⟩
/-- C(e, ..): by the promise of its __init__ -/
def tMkB (C : Addr) (sp : Sp) (ta : TA) : L2.St → Hp → XK → Prop := fun σ H Q => ta σ H fun vs H1 => vs.length ≤ 1000 ∧ ∀ a, H1 a = none → sp (.ref a :: vs) (upd H1 a (exo a C none))
  (fun v H2 => v = .non ∧ ∃ (d : Addr) (fs : List (Str × V)), H2 a = some (exo a C (some d)) ∧ H2 d = some (exd d fs) ∧ H1 d = none ∧ Q (.ref C) (some d) (upd (del H2 a) d (.xd fs))) (fun _ _ _ => False)
theorem pmk_B {x : Str} {C fI : Addr} {k : Nat} {fd : FuncData} {ps : List Str} {sp : Sp} (FB : ExF B newId initId bmB) (T : ExB X.K C bmB newId) (iC : PySem.W.findIn X.K (.ref C) "__init__" = some (some (.ref fI))) (tI : PySem.W.typeIn X.K (.ref fI) = some (.type "function"))
    (F1 : FnOk X.prog X.w X.K X.mg X.base CX0 k fI fd ps sp) (hr : Room (k + 1) X.A) (hb : Binds X.K fd ps []) (hg : Gl X x) (hm : X.mg x = some (.ref C)) (ha : PA X (e :: es) ta)
    (hdb : (x == ("__debug__" : Str)) = false := by decide) (he : starEach (e :: es) X.env = (false, eval e X.env) :: starEach es X.env := by rfl) (hpl : (backTo pos (starEach es X.env)).any (·.1) = false := by rfl) :
    PMk X (.Call (.Name x p) (e :: es) [] pos) (tMkB C sp ta) := by
  intro pins s σ H Q I h
  refine wpAny_Call_Name_kw (ld_glob I hg hm ?_ hdb)
  refine PySem.W.callWith_K (h₀ := X.base) I.ok.mod.kin T.kC (thn (ha.run pos pins s σ H _ I h) fun us s1 hu => ?_) he hpl
  obtain ⟨vs, H1, I1, r1, hz, q1⟩ := hu
  refine ⟨I1.kIn, ?_⟩
  show wpAny _ _ (call (.ref C) us) _ _ _
  obtain ⟨nm, N, qn, bs, bm, hdct, sn, sub, ab, col, dd, k0, k1, k2, k3, k5, hC, hT⟩ := PySem.W.excInit_of I1.kIn T.inn
  obtain ⟨hp, g, dr, tk, os⟩ := s1
  have up1 : hp.objs.size ≤ hp.objs.size + 1 := Nat.le_succ _
  have hq := q1 (hp.objs.size + 1) (I1.hok.fresh up1)
  have keep2 : ∀ b o, hp.get? b = some o → ((hp.push (PySem.W.kdv_tup us)).push (PySem.HandSPX.excO C hp.objs.size)).get? b = some o := fun b o q => Heap.get?_push_of_some _ (Heap.get?_push_of_some _ q)
  have at2 : ((hp.push (PySem.W.kdv_tup us)).push (PySem.HandSPX.excO C hp.objs.size)).get? (hp.objs.size + 1) = some (PySem.HandSPX.excO C hp.objs.size) := by heap_get
  have I2 : Inv X pins σ (upd H1 (hp.objs.size + 1) (exo (hp.objs.size + 1) C none)) ⟨(hp.push (PySem.W.kdv_tup us)).push (PySem.HandSPX.excO C hp.objs.size), g, dr, tk, os⟩ :=
    I1.laid (t' := tk) (a := hp.objs.size + 1) (o := exo (hp.objs.size + 1) C none) keep2 up1 (exo_ok at2)
  have r2 : Vals (V.ref (hp.objs.size + 1) :: vs) (Value.ref (hp.objs.size + 1) :: us) := .cons rfl r1
  have hl : (Value.ref (hp.objs.size + 1) :: us).length = ps.length := r2.length ▸ F1.len _ _ _ _ hq
  have hb' := hb ⟨(hp.push (PySem.W.kdv_tup us)).push (PySem.HandSPX.excO C hp.objs.size), g, dr, tk, os⟩ (Value.ref (hp.objs.size + 1) :: us) I2.kIn (by simpa using hl)
  simp only [List.append_nil] at hb'
  have hus : us.length ≤ sizeLine := by
    rw [← Paired.length r1, sizeLine_eq]
    omega
  refine wpAny_call (PySem.HandSPX.call_own FB.ba hT hC (PySem.W.looks_findIn I1.kIn iC) (fun self => PySem.W.bind_fn I1.kIn self tI) hus (codeAny_mono (F1.run _ X.stack _ _ ⟨Value.ref (hp.objs.size + 1) :: us, []⟩ _ _ _ (fun _ _ _ => False) (hr.make C us []) (I2.env0.make C us []) hb' r2 hq) fun r s' hq' => ?_))
  match r, hq' with
  | .ok (.ret u), hq' =>
    obtain ⟨v, H2, os2, bare2, un2, hok2, rv, rfl, d, fs, ea, ed, hd1, q2⟩ := hq'
    obtain ⟨h2, g2, d2, t2, os'⟩ := s'
    exact ⟨rv, mk_end (raises_own T.exC T.tyC) I1 up1 keep2 un2 hok2 os2 bare2 ea ed hd1 q2⟩
  | .ok .next, hq' => exact hq'.elim
  | .ok .brk, hq' => exact hq'.elim
  | .ok .cont, hq' => exact hq'.elim
  | .error e, hq' => exact hq'.elim
end

abbrev bmVE : List Value := [.type "ValueError", .type "Exception", .type "BaseException", .type "object"]
abbrev bmLE : List Value := [.type "LookupError", .type "Exception", .type "BaseException", .type "object"]
theorem exF_VE : ExF "ValueError" "ValueError.__new__" "ValueError.__init__" bmVE := ⟨PySem.F.store_ValueError, PySem.F.excBase_ValueError⟩
theorem exF_LE : ExF "LookupError" "LookupError.__new__" "LookupError.__init__" bmLE := ⟨PySem.F.store_LookupError, PySem.F.excBase_LookupError⟩
/-! ### calls that may raise -/
section
variable {X : Cx} {k : Nat} {ps ks : List Str} {sp : Sp} {x : Str} {p pos : Pos} {e : Expr} {es : List Expr} {t tk : TA} {kws : List Keyword} {W : WX}
theorem runE {pins : List (Addr × Obj)} {σ : L2.St} {H : Hp} {s : Shared} {Q : VK} {f : Addr} {fd : FuncData} {us : List Value} {kw : List (Str × Value)} {vs : List V} {ws : List Value}
    (F : FnOk X.prog X.w X.K X.mg X.base (L2.CX X.prog X.w) k f fd ps sp) (hr : Room k X.A) (hb : BindsTo s fd ⟨us, kw⟩ (ps.zip ws)) (I : Inv X pins σ H s) (r : Vals vs ws) (tk : Takes X W) (h : sp vs H Q (WE W σ)) :
    wpAny (model X.prog X.w) X.A (call (.ref f) us kw) (EP X pins σ Q) X.xe s := by
  refine wpAny_call (codeAny_mono (F.run X.A X.stack s H ⟨us, kw⟩ ws vs Q (WE W σ) hr I.env0 hb r h) fun r s' hq => ?_)
  match r, hq with
  | .ok (.ret u), hq => exact I.after hq
  | .ok .next, hq => exact hq.elim
  | .ok .brk, hq => exact hq.elim
  | .ok .cont, hq => exact hq.elim
  | .error e, hq => exact passAt tk σ pins H s e s' I hq
/-- a callee that may raise -/
structure LoX (P : Program) (w : World) (K : PySem.W.Frag) (mg : Str → Option Value) (base : Heap) (x : Str) (k : Nat) (ps : List Str) (sp : Sp) : Prop where
  ex : ∃ (f : Addr) (fd : FuncData), FnOk P w K mg base (L2.CX P w) k f fd ps sp ∧ mg x = some (.ref f) ∧ PySem.W.keepIn K (.ref f) = true ∧ Binds K fd ps []
structure LkxX (P : Program) (w : World) (K : PySem.W.Frag) (mg : Str → Option Value) (base : Heap) (x : Str) (k : Nat) (ps ks : List Str) (gV : List V → List V → List V) (sp : Sp) : Prop where
  ex : ∃ (f : Addr) (fd : FuncData) (g : List Value → List Value → List Value), FnOk P w K mg base (L2.CX P w) k f fd ps sp ∧ mg x = some (.ref f) ∧ PySem.W.keepIn K (.ref f) = true ∧ KBinds K fd ps ks g gV
structure LkwX (P : Program) (w : World) (K : PySem.W.Frag) (mg : Str → Option Value) (base : Heap) (x : Str) (k : Nat) (ps ks : List Str) (gV : List V → List V) (sp : Sp) : Prop where
  ex : ∃ (f : Addr) (fd : FuncData) (g : List Value → List Value), FnOk P w K mg base (L2.CX P w) k f fd ps sp ∧ mg x = some (.ref f) ∧ PySem.W.keepIn K (.ref f) = true ∧ KB K fd ps ks g gV
def tCallW (sp : Sp) (W : WX) (t : TA) : TE := fun σ H Q => t σ H fun vs H1 => sp vs H1 Q (WE W σ)
def tCallKW (sp : Sp) (gV : List V → List V → List V) (W : WX) (t tk : TA) : TE := fun σ H Q => t σ H fun vs H1 => tk σ H1 fun zs H2 => sp (gV vs zs) H2 Q (WE W σ)
def tCallNW (sp : Sp) (gV : List V → List V) (W : WX) (tk : TA) : TE := fun σ H Q => tk σ H fun zs H1 => sp (gV zs) H1 Q (WE W σ)
theorem pe_loX (L : LoX X.prog X.w X.K X.mg X.base x k ps sp) (tw : Takes X W) (hr : Room k X.A) (hg : Gl X x) (ha : PA X (e :: es) t)
    (hdb : (x == ("__debug__" : Str)) = false := by decide) (he : starEach (e :: es) X.env = (false, eval e X.env) :: starEach es X.env := by rfl) (hpl : (backTo pos (starEach es X.env)).any (·.1) = false := by rfl) :
    PE X (.Call (.Name x p) (e :: es) [] pos) (tCallW sp W t) := by
  obtain ⟨f, fd, F, hm, hk, hb⟩ := L.ex
  refine ⟨fun pins s σ H Q I h => ?_⟩
  refine wpAny_Call_Name_kw (ld_glob I hg hm ?_ hdb)
  refine PySem.W.callWith_K (h₀ := X.base) I.ok.mod.kin hk (thn (ha.run pos pins s σ H _ I h) fun us s1 hu => ?_) he hpl
  obtain ⟨vs, H1, I1, r, q⟩ := hu
  have hb1 := hb s1 us I1.kIn (by have := r.length ▸ F.len _ _ _ _ q; simpa using this)
  simp only [List.append_nil] at hb1
  exact ⟨I1.kIn, runE F hr hb1 I1 r tw q⟩
theorem pe_lkxX {gV : List V → List V → List V} (L : LkxX X.prog X.w X.K X.mg X.base x k ps ks gV sp) (tw : Takes X W) (hr : Room k X.A) (hg : Gl X x) (ha : PA X (e :: es) t) (hkw : PK X kws tk)
    (hall : (backToKw pos (keywordEach kws X.env)).all (·.1.isSome) = true := by rfl) (hks : (backToKw pos (keywordEach kws X.env)).filterMap (·.1) = ks := by rfl)
    (hdb : (x == ("__debug__" : Str)) = false := by decide) (he : starEach (e :: es) X.env = (false, eval e X.env) :: starEach es X.env := by rfl)
    (hpl : ((backTo pos (starEach (e :: es) X.env)).any (·.1) || (backToKw pos (keywordEach kws X.env)).any (·.1.isNone)) = false := by rfl) :
    PE X (.Call (.Name x p) (e :: es) kws pos) (tCallKW sp gV W t tk) := by
  obtain ⟨f, fd, g, F, hm, hk, hb⟩ := L.ex
  refine ⟨fun pins s σ H Q I h => ?_⟩
  refine wpAny_Call_Name_kw (ld_glob I hg hm ?_ hdb)
  refine PySem.W.callWith_KW (h₀ := X.base) I.ok.mod.kin hk hall (thn (ha.run pos pins s σ H _ I h) fun us s1 hu => ?_) hpl he
  obtain ⟨vs, H1, I1, r, q⟩ := hu
  refine thn (hkw.run pos pins s1 σ H1 _ I1 q) fun ws s2 hw => ?_
  obtain ⟨zs, H2, I2, rz, q2⟩ := hw
  refine ⟨I2.kIn, ?_⟩
  rw [hks]
  have r2 := hb.rel r rz
  exact runE F hr (hb.to s2 us ws I2.kIn (r2.length ▸ F.len _ _ _ _ q2)) I2 r2 tw q2
theorem pe_lkwX {gV : List V → List V} (L : LkwX X.prog X.w X.K X.mg X.base x k ps ks gV sp) (tw : Takes X W) (hr : Room k X.A) (hg : Gl X x) (hkw : PK X kws tk)
    (hall : (backToKw pos (keywordEach kws X.env)).all (·.1.isSome) = true := by rfl) (hks : (backToKw pos (keywordEach kws X.env)).filterMap (·.1) = ks := by rfl)
    (hdb : (x == ("__debug__" : Str)) = false := by decide)
    (hpl : ((backTo pos (starEach [] X.env)).any (·.1) || (backToKw pos (keywordEach kws X.env)).any (·.1.isNone)) = false := by rfl) :
    PE X (.Call (.Name x p) [] kws pos) (tCallNW sp gV W tk) := by
  obtain ⟨f, fd, g, F, hm, hk, hb⟩ := L.ex
  refine ⟨fun pins s σ H Q I h => ?_⟩
  refine wpAny_Call_Name_kw (ld_glob I hg hm ?_ hdb)
  refine PySem.W.callWith_KW0 (h₀ := X.base) I.ok.mod.kin hk hall ?_ hpl
  refine thn (hkw.run pos pins s σ H _ I h) fun ws s2 hw => ?_
  obtain ⟨zs, H2, I2, rz, q2⟩ := hw
  refine ⟨I2.kIn, ?_⟩
  rw [hks]
  have r2 := hb.rel rz
  exact runE F hr (hb.to s2 ws I2.kIn (r2.length ▸ F.len _ _ _ _ q2)) I2 r2 tw q2
end
theorem x_cW {σ : SS} {H : Hp} {Q : VK} {sp : Sp} {W : WX} {t : TA} (q : t σ H fun vs H1 => sp vs H1 Q (WE W σ)) : tCallW sp W t σ H Q := q
theorem x_cKW {σ : SS} {H : Hp} {Q : VK} {sp : Sp} {W : WX} {gV : List V → List V → List V} {t tk : TA} (q : t σ H fun vs H1 => tk σ H1 fun zs H2 => sp (gV vs zs) H2 Q (WE W σ)) : tCallKW sp gV W t tk σ H Q := q
theorem x_cNW {σ : SS} {H : Hp} {Q : VK} {sp : Sp} {W : WX} {gV : List V → List V} {tk : TA} (q : tk σ H fun zs H1 => sp (gV zs) H1 Q (WE W σ)) : tCallNW sp gV W tk σ H Q := q
/-! ### a caught exception as an object of the heap -/
def exk (a : Addr) (cls : Value) (d : Option Addr) : HO := .ext fun h => ∃ (oe : Obj) (vs : Array Value), h.get? a = some oe ∧ Zc cls d oe ∧ oe.data = .fields vs
theorem exk_ok {P : Program} {w : World} {H : Hp} {h : Heap} {a : Addr} {cls : Value} {d : Option Addr} {oe : Obj} {vs : Array Value} (e : h.get? a = some oe) (z : Zc cls d oe) (dt : oe.data = .fields vs) : ObjOk P w H h a (exk a cls d) :=
  ⟨⟨oe, vs, e, z, dt⟩, ⟨oe, e⟩, fun h1 h2 y k => by
    obtain ⟨oe, vs, e, z, dt⟩ := y
    exact ⟨oe, vs, k _ e, z, dt⟩⟩
theorem exk_at {P : Program} {w : World} {H : Hp} {h : Heap} {a : Addr} {cls : Value} {d : Option Addr} (hok : HOk P w H h) (e : H a = some (exk a cls d)) : ∃ (oe : Obj) (vs : Array Value), h.get? a = some oe ∧ Zc cls d oe ∧ oe.data = .fields vs := by
  have x : ObjOk P w H h a (.ext fun h => ∃ (oe : Obj) (vs : Array Value), h.get? a = some oe ∧ Zc cls d oe ∧ oe.data = .fields vs) := hok a _ e
  exact x.1
section
variable {X : Cx} {pins : List (Addr × Obj)} {σ : L2.St} {H : Hp} {s : Shared}
/-- what stands in the heap beside ours is taken among ours -/
theorem Inv.track {a : Addr} {oe : Obj} {vs : Array Value} {cls : Value} {d : Option Addr} (I : Inv X pins σ H s) (e : s.heap.get? a = some oe) (z : Zc cls d oe) (dt : oe.data = .fields vs) (hn : H a = none) (nL : a ≠ X.env.locals) (n0 : X.s_0.heap.get? a = none)
    (np : ∀ p ∈ X.pn ++ pins, p.1 ≠ a) : Inv X pins σ (upd H a (exk a cls d)) s := by
  refine ⟨I.ok, I.os, I.bare, ⟨I.base.keep, I.base.slot, fun b o q n x => ?_, I.base.there, fun b xs q => ?_, fun b o xs q => ?_, fun b ps q => ?_⟩, I.loc, I.cell, ?_, fun x c q => ?_, fun p hp => ?_, ?_, I.len⟩
  · rw [upd_ne (fun y => by rw [y, n0] at q; cases q)]
    exact I.base.free b o q n x
  · have := I.base.tups b xs q
    rw [upd_ne (ne_of_none this hn)]
    exact this
  · have := I.base.frzs b o xs q
    rw [upd_ne (ne_of_none this hn)]
    exact this
  · obtain ⟨more, h⟩ := I.base.tbls b ps q
    exact ⟨more, by rw [upd_ne (ne_of_none h hn)]; exact h⟩
  · rw [upd_ne nL.symm]
    exact I.free
  · obtain ⟨v, hc⟩ := I.cell x c q
    have : c ≠ a := fun y => by
      obtain ⟨o, h1, h2⟩ := hc
      rw [y, e] at h1
      cases h1
      rw [dt] at h2
      cases h2
    rw [upd_ne this]
    exact I.freeC x c q
  · obtain ⟨h1, h2, h3⟩ := I.pin p hp
    exact ⟨h1, by rw [upd_ne (np p hp)]; exact h2, h3⟩
  · exact HOk.laidN I.hok (fun _ _ q => q) hn (exk_ok e z dt)
end

/-! ### try: body, except c as n: suite; behind it the exception stands among ours -/
/-- the clause takes it; behind a suite that runs through, the exception at a is kept -/
def wKp (K : PySem.W.Frag) (c : Value) (i : Nat) (ts : Addr → Value → Option Addr → TS) (D : Ends) : WX := fun cls d σ H =>
  PySem.W.exmOne K cls c = some true ∧ ∀ a, H a = none → ts a cls d { nx := fun σ' H' => D.nx (σ'.set i none) (upd H' a (exk a cls d)), rt := D.rt, bk := fun σ' H' => D.bk (σ'.set i none) H', ct := fun σ' H' => D.ct (σ'.set i none) H' } (σ.set i (some (.ref a))) H
section
variable {X : Cx} {x n : Str} {c : Value} {i : Nat} {body suite : List Stmt} {b₀ : Stmt} {np pos pos' : Pos} {tb : WX → TS} {ts : Addr → Value → Option Addr → TS}
theorem ps_try_kp (hs : X.stack = X.env :: X.outer) (hf : X.env.frame = some X.env.locals) (hx : X.ex = []) (hN : X.N.Nodup) (hi : X.N[i]? = some n) (hln : X.env.kindOf n = some .local) (hc : Names X x c)
    (hb : ∀ (W : WX) (pn : List (Addr × Obj)) (xe : Value → Shared → Prop), Takes (X.tr pn xe) W → PassesOwn (model X.prog X.w) X.A X.env xe → PSs (X.tr pn xe) body (tb W))
    (hsu : ∀ (a : Addr) (oe : Obj) (cls : Value) (d : Option Addr) (pn : List (Addr × Obj)), Zc cls d oe → (∃ vs, oe.data = .fields vs) → PSs (X.suite a ((a, oe) :: pn)) (b₀ :: suite) (ts a cls d)) :
    PS X (.Try body [.ExceptHandler (some (.Name x np)) (some n) (b₀ :: suite) pos'] [] [] pos) (fun D σ H => tb (wKp X.K c i ts D) D σ H) := by
  refine ⟨fun pins s σ H D I h => ?_⟩
  have okX := I.ok
  have frm : X.A.frames = some (X.env :: X.outer) := hs ▸ okX.frames
  refine wpAny_Try_except (wpAny_mono ((hb (wKp X.K c i ts D) (X.pn ++ pins)
    (fun v t => wpAny (model X.prog X.w) X.A (noteFrame v X.env) (fun _ t1 => wpAny (model X.prog X.w) X.A (setFlight v none)
      (fun _ t2 => wpAny (model X.prog X.w) X.A (handleBy v X.env [.ExceptHandler (some (.Name x np)) (some n) (b₀ :: suite) pos']) (SP X pins D) X.xe t2) X.xe t1) X.xe t)
    (fun v t air => ?air) PassesOwn.looking).run [] s σ H D (I.toTry _) h) (fun fl t q => ?thru) fun _ _ z => z)
  case thru =>
    cases fl with
    | next =>
      obtain ⟨σ1, H1, J, q⟩ := q
      exact wpAny_execs_nil ⟨σ1, H1, J.ofTry okX, q⟩
    | ret v =>
      obtain ⟨v1, σ1, H1, J, r, q⟩ := q
      exact ⟨v1, σ1, H1, J.ofTry okX, r, q⟩
    | brk =>
      obtain ⟨σ1, H1, J, q⟩ := q
      exact ⟨σ1, H1, J.ofTry okX, q⟩
    | cont =>
      obtain ⟨σ1, H1, J, q⟩ := q
      exact ⟨σ1, H1, J.ofTry okX, q⟩
  case air =>
    obtain ⟨a, B, sI, pins1, σ1, H1, cls, d, rfl, J0, nb, up, sky, na, os, ag, hm, hyes⟩ := air
    have J : Inv X pins σ1 H1 sI := J0.ofTry okX
    have sky1 : Sky B (X.env :: X.outer) a (Zc cls d) X.env.locals t.heap := hs ▸ sky
    refine Sky.land Zc.steady frm hf sky1 fun h3 fl3 up3 => ?_
    have J3 : Inv X pins σ1 H1 { t with heap := h3 } := J.landed nb fl3.1 (up.trans up3) os ag
    obtain ⟨oe3, vs3, he3, hz3, hd3⟩ := fl3.there
    have off : ∀ {hh : Heap} {o : Obj} {vs : Array Value}, hh.FunFrames B (X.env :: X.outer) → hh.get? a = some o → o.data = .fields vs → a ∉ frs (X.env :: X.outer) := fun ff e1 e2 hm => by
      obtain ⟨_, o', e3, nf⟩ := ff.mem hm
      rw [e1] at e3
      cases e3
      exact nf _ e2
    have offS := off fl3.2.2.1 he3 hd3
    have nL : a ≠ X.env.locals := fun y => offS (List.mem_filterMap.mpr ⟨X.env, List.mem_cons_self, by rw [hf, y]⟩)
    have nF : a ∉ X.fs := fun hm => by
      obtain ⟨e1, m1, m2⟩ := List.mem_filterMap.mp hm
      exact offS (List.mem_filterMap.mpr ⟨e1, List.mem_cons_of_mem _ m1, m2⟩)
    -- it is new since the entry
    have newI : sI.heap.get? a = none := by
      cases q : sI.heap.get? a with
      | none => rfl
      | some o =>
        have := nb a o q (hs ▸ offS)
        rw [fl3.2.1] at this
        cases this
    have new0 : X.s_0.heap.get? a = none := by
      cases q : X.s_0.heap.get? a with
      | none => rfl
      | some o =>
        obtain ⟨o', q'⟩ := J.base.there a o q (by rw [hx]; simp)
        rw [newI] at q'
        cases q'
    have newP : ∀ p ∈ X.pn ++ pins, p.1 ≠ a := fun p hp y => by
      have := (J.pin p hp).1
      rw [y, newI] at this
      cases this
    have S3 := J3.suite he3 hd3 na nL nF
    refine wpAny_handleBy_cons (codeAny_handlers_test ?_) (by intro q; cases q)
    have look : PySem.W.Looks (model X.prog X.w) h3 (typeOf (.ref a)) cls := fun _ _ _ _ k q => wpAny_typeOf_ref (k _ _ he3) (hz3.1 ▸ q)
    have LM := PySem.W.exm_one (M := model X.prog X.w) J3.kIn look hm
    have name : ∀ {Q : Value → Shared → Prop} {E : Value → Shared → Prop}, Q c { t with heap := h3 } → wpAny (model X.prog X.w) (X.A.mark (some (.ref a))) (eval (.Name x np) X.env) Q E { t with heap := h3 } := fun q => by
      obtain ⟨g1, g2, g3 | ⟨g3, g4, g5⟩⟩ := hc
      · exact ld_glob (X := X.suite a ((a, oe3) :: (X.pn ++ pins))) S3 g1 g3 q g2
      · exact ld_blt (X := X.suite a ((a, oe3) :: (X.pn ++ pins))) S3 g1 g3 g4 q g5 g2
    refine name (LM.here (codeAny_handlers_suite_as (HandSPX.lands_againZ fl3 fun h4 fl4 up4 => ?_)))
    have J4 : Inv X pins σ1 H1 { t with heap := h4 } := J.landed nb fl4.1 ((up.trans up3).trans up4) os ag
    obtain ⟨oe4, vs4, he4, hz4, hd4⟩ := fl4.there
    have S4 := J4.suite he4 hd4 na nL nF
    refine store_ok (X := X.suite a ((a, oe4) :: (X.pn ++ pins))) (v := .ref a) S4 hN hi (.inl hln) rfl (fun s5 S5 => ?_) (.inr hln)
    refine wpAny_mono ((hsu a oe4 cls d (X.pn ++ pins) hz4 ⟨_, hd4⟩).run [] s5 _ H1 _ S5 (hyes a na)) (fun fl s6 q => ?_) (fun _ _ z => z.elim)
    have leave : ∀ {σ6 : L2.St} {H6 : Hp} {Q : Shared → Prop}, Inv (X.suite a ((a, oe4) :: (X.pn ++ pins))) [] σ6 H6 s6 → (∀ s7, Inv (X.suite a ((a, oe4) :: (X.pn ++ pins))) [] (σ6.set i none) H6 s7 → Q s7) →
        wpAny (model X.prog X.w) X.A (do bindName X.env n .none; unbindBehindTheSuite X.env n pos') (fun _ s7 => Q s7) X.xe s6 := fun S6 g => gone_ok (X := X.suite a ((a, oe4) :: (X.pn ++ pins))) S6 hN hi hln g
    cases fl with
    | next =>
      obtain ⟨σ6, H6, S6, q6⟩ := q
      refine leave S6 fun s7 S7 => ⟨_, _, ?_, q6⟩
      obtain ⟨p1, p2, p3, _⟩ := S7.pin (a, oe4) (List.mem_append_left _ List.mem_cons_self)
      exact Inv.track (S7.unsuite okX) p1 hz4 hd4 p2 nL new0 newP
    | brk =>
      obtain ⟨σ6, H6, S6, q6⟩ := q
      exact leave S6 fun s7 S7 => ⟨_, _, S7.unsuite okX, q6⟩
    | cont =>
      obtain ⟨σ6, H6, S6, q6⟩ := q
      exact leave S6 fun s7 S7 => ⟨_, _, S7.unsuite okX, q6⟩
    | ret u =>
      obtain ⟨v6, σ6, H6, S6, r6, q6⟩ := q
      exact leave S6 fun s7 S7 => ⟨_, _, _, S7.unsuite okX, r6, q6⟩
end
/-! ### what is asked of a kept exception -/
section
variable {X : Cx}
theorem dict_there {pins : List (Addr × Obj)} {σ : L2.St} {H : Hp} {s : Shared} {dd : Addr} {fs : List (Str × V)} (I : Inv X pins σ H s) (e : H dd = some (.xd fs)) : ∃ (od : Obj) (mA : Str → Option Value), s.heap.Ns1 dd mA ∧ (∀ f, RelO (fs.lookup f) (mA f)) ∧ s.heap.get? dd = some od := by
  have hx : ObjOk X.prog X.w H s.heap dd (.xd fs) := I.hok dd _ e
  obtain ⟨mA, hns, hr⟩ := hx
  obtain ⟨od, ho, _⟩ := lookIn_ns hns
  exact ⟨od, mA, hns, hr, ho⟩
/-- e.f of a kept exception -/
def tXk (K : PySem.W.Frag) (f : Str) (te : TE) : TE := fun σ H Q => te σ H fun x H1 => ∃ (a C dd : Addr) (fs : List (Str × V)) (v : V), x = .ref a ∧ XfC K C ∧ PySem.W.findIn K (.ref C) f = some none ∧ H1 a = some (exk a (.ref C) (some dd)) ∧ H1 dd = some (.xd fs) ∧ fs.lookup f = some v ∧ Q v H1
theorem pe_xk {e : Expr} {te : TE} {pos : Pos} {f : Str} (he : PE X e te) (hb : attributeBase e f X.env (eval e X.env) = eval e X.env := by rfl) : PE X (.Attribute e f pos) (tXk X.K f te) := by
  refine ⟨fun pins s σ H Q I h => ?_⟩
  refine attr_of hb (thn (he.run pins s σ H _ I h) fun u s1 hu => ?_)
  obtain ⟨x, H1, I1, rx, a, C, dd, fs, v, rfl, T, hno, ea, ed, l, q⟩ := hu
  obtain rfl : u = Value.ref a := rx
  obtain ⟨oe, vs, h1, h2, h3⟩ := exk_at I1.hok ea
  have hx : ObjOk X.prog X.w H1 s1.heap dd (.xd fs) := I1.hok dd _ ed
  obtain ⟨mA, hns, hr⟩ := hx
  obtain ⟨od, ho, hl⟩ := lookIn_ns hns
  obtain ⟨u, hu, ru⟩ := RelO.some_of (v := v) (o := mA f) (by rw [← l]; exact hr f)
  have J : PySem.W.InstAt s1.heap a oe C (some od) := ⟨h1, h2.1, by unfold PySem.W.notCls; rw [h3] <;> rfl, by rw [h2.2]; exact ho⟩
  exact HandSPX.exc_get I1.kIn J T.ga T.gg T.exC (PySem.W.findObj_own T.hdC hno rfl (by rw [hl, hu])) (handed_of ru) ⟨v, H1, I1.tok _, ru, q⟩
theorem x_xk {K : PySem.W.Frag} {σ : SS} {H : Hp} {Q : VK} {f : Str} {te : TE} (q : te σ H fun x H1 => ∃ (a C dd : Addr) (fs : List (Str × V)) (v : V), x = .ref a ∧ XfC K C ∧ PySem.W.findIn K (.ref C) f = some none ∧ H1 a = some (exk a (.ref C) (some dd)) ∧ H1 dd = some (.xd fs) ∧ fs.lookup f = some v ∧ Q v H1) : tXk K f te σ H Q := q
/-- isinstance(e, c), e a kept exception, c a class or a tuple of classes -/
def rIsK (K : PySem.W.Frag) : List V → Hp → VK → Prop := fun xs H Q => ∃ (a D dd : Addr) (fs : List (Str × V)) (c : V) (b : Bool), xs = [.ref a, c] ∧ ExcC K D ∧ H a = some (exk a (.ref D) (some dd)) ∧ H dd = some (.xd fs) ∧
  ((∃ cv, (∀ u, RelV c u → u = cv) ∧ PySem.W.kitOne K (.ref D) cv = some b) ∨ ∃ (t : Addr) (cs : List V) (cvs : List Value), c = .ref t ∧ SqT K H t cs ∧ (∀ us, Vals cs us → us = cvs) ∧ PySem.W.kitAny K (.ref D) cvs = some b) ∧ Q (.bl b) H
theorem call_isK : CallR X (.builtin "isinstance") (rIsK X.K) := by
  intro pins s σ H xs us Q I r h
  obtain ⟨a, D, dd, fs, c, b, rfl, C, ea, ed, hcls, q⟩ := h
  obtain ⟨u, w', rfl, ru, rw'⟩ := vals2 r
  obtain rfl : u = Value.ref a := ru
  obtain ⟨oe, vs, h1, h2, h3⟩ := exk_at I.hok ea
  obtain ⟨od, mA, _, _, ho⟩ := dict_there I ed
  have J : PySem.W.InstAt s.heap a oe D (some od) := ⟨h1, h2.1, by unfold PySem.W.notCls; rw [h3] <;> rfl, by rw [h2.2]; exact ho⟩
  have hcl : (PySem.W.clsIn X.K D).isSome = true := by
    obtain ⟨cd, hc, _⟩ := PySem.W.any_some C.hd
    rw [hc]; rfl
  rcases hcls with ⟨cv, hcv, e⟩ | ⟨t, cs, cvs, rfl, et, hcs, e⟩
  · have := hcv _ rw'
    subst this
    exact PySem.W.kia_one (PySem.W.kitx_exc hcl C.hg C.hk C.hs C.ha C.hn C.ht C.hm) I.kIn J e (fun z => nomatch z) fun tk => ⟨.bl b, H, I.kept (t' := tk) fun _ _ z => z, rfl, q⟩
  · obtain ⟨its, rv, ⟨o, ho2, hc2, n, hd2⟩, _⟩ := I.tuple et
    have := hcs _ rv
    subst this
    obtain rfl : w' = Value.ref t := rw'
    obtain ⟨cl, di, da, sl⟩ := o
    replace hc2 : cl = _ := hc2
    replace hd2 : da = _ := hd2
    subst hc2 hd2
    exact PySem.W.kia_tup (PySem.W.kitx_exc hcl C.hg C.hk C.hs C.ha C.hn C.ht C.hm) I.kIn J ho2 e (fun z => nomatch z) fun tk => ⟨.bl b, H, I.kept (t' := tk) fun _ _ z => z, rfl, q⟩
theorem x_isK1 {K : PySem.W.Frag} {H : Hp} {Q : VK} {a D dd : Addr} {fs : List (Str × V)} {c : V} {cv : Value} {b : Bool} (C : ExcC K D) (ea : H a = some (exk a (.ref D) (some dd))) (ed : H dd = some (.xd fs)) (hc : ∀ u, RelV c u → u = cv) (e : PySem.W.kitOne K (.ref D) cv = some b) (q : Q (.bl b) H) : rIsK K [.ref a, c] H Q :=
  ⟨a, D, dd, fs, c, b, rfl, C, ea, ed, .inl ⟨cv, hc, e⟩, q⟩
theorem x_isKT {K : PySem.W.Frag} {H : Hp} {Q : VK} {a D dd t : Addr} {fs : List (Str × V)} {cs : List V} {cvs : List Value} {b : Bool} (C : ExcC K D) (ea : H a = some (exk a (.ref D) (some dd))) (ed : H dd = some (.xd fs)) (et : SqT K H t cs) (hc : ∀ us, Vals cs us → us = cvs) (e : PySem.W.kitAny K (.ref D) cvs = some b) (q : Q (.bl b) H) : rIsK K [.ref a, .ref t] H Q :=
  ⟨a, D, dd, fs, .ref t, b, rfl, C, ea, ed, .inr ⟨t, cs, cvs, rfl, et, hc, e⟩, q⟩
end

/-! ### an own exception class, called -/
structure LxB (P : Program) (w : World) (K : PySem.W.Frag) (mg : Str → Option Value) (base : Heap) (x : Str) (C : Addr) (k : Nat) (ps : List Str) (sp : Sp) (bmB : List Value) (newId : String) : Prop where
  fb : ∃ B initId, ExF B newId initId bmB
  t : ExB K C bmB newId
  ex : ∃ (fI : Addr) (fd : FuncData), FnOk P w K mg base CX0 k fI fd ps sp ∧ PySem.W.findIn K (.ref C) "__init__" = some (some (.ref fI)) ∧ PySem.W.typeIn K (.ref fI) = some (.type "function") ∧ Binds K fd ps []
  hm : mg x = some (.ref C)
section
variable {X : Cx} {e : Expr} {es : List Expr} {ta : TA} {p pos : Pos} {newId : String} {bmB : List Value}
theorem pmk_lx {x : Str} {C : Addr} {k : Nat} {ps : List Str} {sp : Sp} (L : LxB X.prog X.w X.K X.mg X.base x C k ps sp bmB newId) (hr : Room (k + 1) X.A) (hg : Gl X x) (ha : PA X (e :: es) ta)
    (hdb : (x == ("__debug__" : Str)) = false := by decide) (he : starEach (e :: es) X.env = (false, eval e X.env) :: starEach es X.env := by rfl) (hpl : (backTo pos (starEach es X.env)).any (·.1) = false := by rfl) :
    PMk X (.Call (.Name x p) (e :: es) [] pos) (tMkB C sp ta) := by
  obtain ⟨B, initId, FB⟩ := L.fb
  obtain ⟨fI, fd, F1, iC, tI, hb⟩ := L.ex
  exact pmk_B FB L.t iC tI F1 hr hb hg L.hm ha hdb he hpl
/-- an __init__ that keeps one thing -/
def spI1 (C : Addr) (f : Str) : Sp := fun vs H Q _ => ∃ (a : Addr) (v : V), vs = [.ref a, v] ∧ H a = some (exo a C none) ∧ ∀ dx, H dx = none → dx ≠ a → Q .non (upd (upd H dx (exd dx [(f, v)])) a (exo a C (some dx)))
theorem x_mk {C : Addr} {sp : Sp} {ta : TA} {σ : L2.St} {H : Hp} {Q : XK} (q : ta σ H fun vs H1 => vs.length ≤ 1000 ∧ ∀ a, H1 a = none → sp (.ref a :: vs) (upd H1 a (exo a C none))
  (fun v H2 => v = .non ∧ ∃ (d : Addr) (fs : List (Str × V)), H2 a = some (exo a C (some d)) ∧ H2 d = some (exd d fs) ∧ H1 d = none ∧ Q (.ref C) (some d) (upd (del H2 a) d (.xd fs))) (fun _ _ _ => False)) : tMkB C sp ta σ H Q := q
theorem x_mkE {C : Addr} {f : Str} {v : V} {H1 : Hp} {Q : XK} (q : ∀ d H', H1 d = none → H' d = some (.xd [(f, v)]) → Kx [] H1 H' → Q (.ref C) (some d) H') : [v].length ≤ 1000 ∧ ∀ a, H1 a = none → spI1 C f (.ref a :: [v]) (upd H1 a (exo a C none))
  (fun u H2 => u = .non ∧ ∃ (d : Addr) (fs : List (Str × V)), H2 a = some (exo a C (some d)) ∧ H2 d = some (exd d fs) ∧ H1 d = none ∧ Q (.ref C) (some d) (upd (del H2 a) d (.xd fs))) (fun _ _ _ => False) := by
  refine ⟨by simp, fun a ha => ⟨a, v, rfl, upd_same, fun dx hd hne => ⟨rfl, dx, _, upd_same, (upd_ne hne).trans upd_same, ?_, q dx _ ?_ upd_same fun b o _ hb => ?_⟩⟩⟩
  · rw [upd_ne hne] at hd
    exact hd
  · rw [upd_ne hne] at hd
    exact hd
  · have h1 : b ≠ a := fun z => by rw [z, ha] at hb; cases hb
    rw [upd_ne hne] at hd
    have h2 : b ≠ dx := fun z => by rw [z, hd] at hb; cases hb
    rw [upd_ne h2]
    show (del _ a) b = _
    unfold del
    simp only [h1, if_false]
    rw [upd_ne h1, upd_ne h2, upd_ne h1]
    exact hb
end
/-! ### what stands for no integer -/
def isI : PyData → Bool
  | .int _ => true
  | _ => false
def isIB : PyData → Bool
  | .int _ => true
  | .bool _ => true
  | _ => false
def isB : PyData → Bool
  | .bool _ => true
  | _ => false
section
variable {K : PySem.W.Frag} {H : Hp} {Q : VK} {v : V} {d : PyData}
theorem tyL {a : Addr} {xs : List V} (h : SqL K H a xs) : TyX K H (.ref a) (.type "list") := by
  rcases h with (h | ⟨o, h⟩) | h
  · exact .base (.lst h)
  · exact .base (.frz h)
  · obtain ⟨o, its, n, e, c, _⟩ := h
    exact .kList e c
theorem tyT {a : Addr} {xs : List V} (h : SqT K H a xs) : TyX K H (.ref a) (.type "tuple") := by
  rcases h with (h | ⟨o, h⟩) | h
  · exact .base (.tup h)
  · exact .fTuple h
  · obtain ⟨o, its, n, e, c, _⟩ := h
    exact .kTuple e c
theorem x_isiDI (h : Dp K H v d) (q : Q (.bl (isIB d)) H) : rIsi K [v, .ty "int"] H Q := by
  cases h with
  | non => exact x_isi (b := false) (.base .non) (kit_ty (by decide +kernel)) q
  | bl b => exact x_isi (b := true) (.base (.bl b)) (kit_ty (by decide +kernel)) q
  | int i => exact x_isi (b := true) (.base (.int i)) (kit_ty (by decide +kernel)) q
  | str x => exact x_isi (b := false) (.base (.str x)) (kit_ty (by decide +kernel)) q
  | lst h _ => exact x_isi (b := false) (tyL h) (kit_ty (by decide +kernel)) q
  | tup h _ => exact x_isi (b := false) (tyT h) (kit_ty (by decide +kernel)) q
theorem x_isiDB (h : Dp K H v d) (q : Q (.bl (isB d)) H) : rIsi K [v, .ty "bool"] H Q := by
  cases h with
  | non => exact x_isi (b := false) (.base .non) (kit_ty (by decide +kernel)) q
  | bl b => exact x_isi (b := true) (.base (.bl b)) (kit_ty (by decide +kernel)) q
  | int i => exact x_isi (b := false) (.base (.int i)) (kit_ty (by decide +kernel)) q
  | str x => exact x_isi (b := false) (.base (.str x)) (kit_ty (by decide +kernel)) q
  | lst h _ => exact x_isi (b := false) (tyL h) (kit_ty (by decide +kernel)) q
  | tup h _ => exact x_isi (b := false) (tyT h) (kit_ty (by decide +kernel)) q
end
theorem dpK {K : PySem.W.Frag} {H H' : Hp} {v : V} {d : PyData} (k : Kx [] H H') (h : Dp K H v d) : Dp K H' v d :=
  match dp_keepAll k [d] [v] (.cons h .nil) with
  | .cons h _ => h
/-! ### repr of data of every kind -/
def boolT (b : Bool) : Str := if b then "True" else "False"
def shD : PyData → Str
  | .none => "None"
  | .bool b => boolT b
  | .int i => toString i
  | .str x => reprText x
  | d => d.shown
def ShOk : PyData → Prop
  | .none => True
  | .bool _ => True
  | .int i => i.natAbs.log2 < 1920
  | .str x => (reprText x).length ≤ sizeLine
  | d => d.showable = true ∧ d.hasDict = false ∧ d.depth ≤ 60 ∧ d.shown.length ≤ sizeLine
def rReprD (K : PySem.W.Frag) : List V → Hp → VK → Prop := fun xs H Q => ∃ v d, xs = [v] ∧ Dp K H v d ∧ ShOk d ∧ Q (.str (shD d)) H
theorem x_reprD {K : PySem.W.Frag} {H : Hp} {Q : VK} {v : V} {d : PyData} (h : Dp K H v d) (o : ShOk d) (q : Q (.str (shD d)) H) : rReprD K [v] H Q := ⟨v, d, rfl, h, o, q⟩
section
variable {X : Cx}
theorem call_reprD (hgd : X.A.guards = some []) (hu : X.A.units + 64 < cLine) : CallR X (.builtin "repr") (rReprD X.K) := by
  intro pins s σ H xs us Q I r h
  obtain ⟨v, d, rfl, hd, ho, q⟩ := h
  obtain ⟨u, rfl, ru⟩ := vals1 r
  have big : ∀ {a : Addr}, u = .ref a → Dp X.K H (.ref a) d → d.showable = true → d.hasDict = false → d.depth ≤ 60 → d.shown.length ≤ sizeLine → Q (.str d.shown) H → wpAny (model X.prog X.w) X.A (call (.builtin "repr") [u] []) (EP X pins σ Q) X.xe s := fun {a} e hd h1 h2 h3 h4 q => by
    subst e
    obtain ⟨as, hr⟩ := Dp.reads I d _ (.ref a) hd rfl
    exact repr_of_reads' (Q := EP X pins σ Q) (E := X.xe) hr h1 (PyData.noDict_hsm h2) hgd (by omega) (fun _ _ e => e) (fun h' u tk hk => ⟨.str d.shown, H, I.kept hk, ⟨u, rfl⟩, q⟩) h4
  cases hd with
  | non =>
    cases (show u = Value.none from ru)
    exact PySem.P.repr_of_none ⟨.str "None", H, I.tok _, ⟨_, rfl⟩, q⟩
  | bl b =>
    cases (show u = Value.bool b from ru)
    exact PySem.P.repr_of_bool ⟨.str (boolT b), H, I.tok _, ⟨_, rfl⟩, q⟩
  | int i =>
    obtain ⟨t, e⟩ := (show ∃ t, u = Value.int i t from ru)
    cases e
    exact PySem.P.repr_of_int ho ⟨.str (toString i), H, I.tok _, ⟨_, rfl⟩, q⟩
  | str x =>
    obtain ⟨t, e⟩ := (show ∃ t, u = Value.str x t from ru)
    cases e
    exact PySem.P.repr_of_str ⟨.str (reprText x), H, I.tok _, ⟨_, rfl⟩, q⟩ ho
  | lst h1 h2 =>
    obtain ⟨o1, o2, o3, o4⟩ := ho
    exact big ru (.lst h1 h2) o1 o2 o3 o4 q
  | tup h1 h2 =>
    obtain ⟨o1, o2, o3, o4⟩ := ho
    exact big ru (.tup h1 h2) o1 o2 o3 o4 q
end
theorem vals_refs : ∀ (cs : List Addr) (us : List Value), Vals (cs.map V.ref) us → us = cs.map Value.ref
  | [], _, .nil => rfl
  | c :: cs, _, .cons r t => by
    have h := vals_refs cs _ t
    rw [h, List.map_cons]
    exact congrArg (· :: _) r
theorem eqv_nats (ns : List Nat) : PyData.eqv (.tuple (ns.map fun (n : Nat) => PyData.int (n : Int))) (.tuple (ns.map fun (n : Nat) => PyData.int (n : Int))) = true := by
  show PyData.eqvAll _ _ = true
  induction ns with
  | nil => rfl
  | cons a r ih =>
    rw [List.map_cons]
    show (PyData.eqv (.int (a : Int)) (.int (a : Int)) && PyData.eqvAll _ _) = true
    rw [ih]
    simp [PyData.eqv]
theorem shaped_nats (ns : List Nat) : SeqAt.shaped (.tuple (ns.map fun (n : Nat) => PyData.int (n : Int))) = true := by
  have e : (ns.map fun (n : Nat) => PyData.int (n : Int)) = (ns.map fun (n : Nat) => (n : Int)).map PyData.int := by rw [List.map_map]; rfl
  rw [e]
  have := shaped_ints (ns.map fun (n : Nat) => (n : Int))
  unfold SeqAt.shaped at this ⊢
  simpa [PyData.canLay0, PyData.depth] using this
theorem x_neTN {K : PySem.W.Frag} {H : Hp} {Q : VK} {a b : Addr} {ns : List Nat} (h : SqT K H a (natV ns)) (h2 : SqT K H b (natV ns)) (q : Q (.bl false) H) : rNeD K (.ref a) (.ref b) H Q :=
  ⟨_, _, .tup h (dp_nats _), .tup h2 (dp_nats _), shaped_nats _, shaped_nats _, by rw [eqv_nats]; exact q⟩
theorem rgV_nat (n : Nat) : rgV 0 (n : Int) = natV (List.range n) := by
  unfold rgV natV
  rw [Int.sub_zero, Int.toNat_natCast]
  refine List.map_congr_left fun i _ => ?_
  rw [Int.zero_add]

open LamX (TabB Tabs TabS ExtN)
/-! ### the law's end, with tables of code objects (a law in which lambdas stand) -/
/-- what the abstract heap may know at the entry -/
def OnlyT (ts : List Addr) (H : Hp) : Prop := ∀ b, H b = none ∨ (b ∈ ts ∧ H b = some (.tbl #[])) ∨ ∃ o xs, H b = some (.frz o (.lst xs))
section
variable {P : Program} {w : World} {K : PySem.W.Frag} {mg mb : Str → Option Value} {k : Nat} {fa a : Addr} {cs : List (Addr × Addr)} {fd : FuncData} {x : Str} {sp : Sp} {s₁ : Shared} {vs : List Value} {ns : List Int}
/-- the run itself, from such a heap -/
theorem lawGT_core {H : Hp} (KX : K.In s₁.heap) (hns : s₁.heap.Ns mainGlobals mg) (hb : s₁.heap.Ns builtinsNs mb) (hbb : ∀ x : Str, x ≠ "__name__" → mb x = bootBuiltins x) (hlim : s₁.heap.NoLimit) (hg : s₁.gens = #[])
    (hT : ∀ p ∈ cs, s₁.heap.get? p.2 = some { cls := .none, data := .fields #[] }) (nT : ∀ p ∈ cs, K.lookup p.2 = none) (C : ∀ p ∈ cs, PySem.W.CodeHd s₁.heap p.1 p.2)
    (hbm : ∃ (bm : Addr) (ob : Obj), mg "__builtins__" = some (.ref bm) ∧ bm ≠ builtinsNs ∧ s₁.heap.get? bm = some ob ∧ ob.cls = .type "module" ∧ ob.dict = some builtinsNs ∧ ob.data = .plain)
    (ha : s₁.heap.get? a = some { cls := .type "list", data := .seq vs.toArray }) (hr : Room k callerA)
    (F : ∀ base : Heap, K.In base → base.Ns mainGlobals mg → (∀ p ∈ cs, TabB base mg p.1 p.2) → FnG P w K mg base k fa fd [x] sp) (hbind : ∀ (s : Shared) (u : Value), BindsTo s fd ⟨[u], []⟩ [(x, u)])
    (hS : sp [.ref a] H (fun v _ => v = .bl true) E0) (hO : OnlyT (cs.map (·.2)) H) (hH : ∀ p ∈ cs, H p.2 = some (.tbl #[])) (hok : HOk P w H s₁.heap) (hA : ∀ b, H b ≠ none → b = a ∨ b ∈ cs.map (·.2)) (hK : H a ≠ none → K.lookup a = none) :
    codeAny (model P w) callerA (.call (.ref fa) ⟨[.ref a], []⟩) (fun r s' => r = .ok (.ret (.bool true)) ∧ OldK s₁.heap s'.heap ∧ s'.os = s₁.os ∧ AllBare s'.gens) s₁ := by
  have tabAt : ∀ {b : Addr}, b ∈ cs.map (·.2) → s₁.heap.get? b = some { cls := .none, data := .fields #[] } := by
    intro b hb
    obtain ⟨p, hp, rfl⟩ := List.mem_map.mp hb
    exact hT p hp
  -- what is neither the script nor an empty table is not among ours
  have other : ∀ {b : Addr} {o : Obj}, s₁.heap.get? b = some o → (∀ us m, o.data ≠ .seq us m) → o.data ≠ .fields #[] → H b = none := by
    intro b o e n1 n2
    match q : H b with
    | none => rfl
    | some u =>
      rcases hA b (by rw [q]; simp) with rfl | hb
      · rw [ha] at e
        rw [← Option.some.inj e] at n1
        exact absurd rfl (n1 _ _)
      · rw [tabAt hb] at e
        rw [← Option.some.inj e] at n2
        exact absurd rfl n2
  have plain : ∀ {b : Addr} {o : Obj} {d : Data}, s₁.heap.get? b = some o → o.data = d → (∀ us m, d ≠ .seq us m) → d ≠ .fields #[] → (hidT s₁.heap H).get? b = some o := fun e ed n1 n2 => hidT_get e (other e (by rw [ed]; exact n1) (by rw [ed]; exact n2))
  have ns' : ∀ {b : Addr} {m : Str → Option Value}, s₁.heap.Ns b m → (hidT s₁.heap H).Ns b m := by
    rintro b m ⟨o, es, ep, e, d, r⟩
    exact ⟨o, es, ep, plain e d (fun _ _ z => nomatch z) (fun z => nomatch z), d, r⟩
  have inK : K.In (hidT s₁.heap H) := by
    intro b o e
    refine hidT_get (KX b o e) ?_
    match q : H b with
    | none => rfl
    | some u =>
      rcases hA b (by rw [q]; simp) with rfl | hb
      · rw [hK (by rw [q]; simp)] at e
        cases e
      · obtain ⟨p, hp, rfl⟩ := List.mem_map.mp hb
        rw [nT p hp] at e
        cases e
  have md : Mod K mg (hidT s₁.heap H) := by
    obtain ⟨mc, h1, h2⟩ := hlim
    exact ⟨inK, ns' hns, ⟨mb, ns' hb, hbb⟩, ⟨mc, ns' h1, h2⟩⟩
  have tabs : ∀ p ∈ cs, TabB (hidT s₁.heap H) mg p.1 p.2 := by
    intro p hp
    obtain ⟨og, esg, epg, eg, dg, rg⟩ := hns
    have atP := hT p hp
    constructor
    · obtain ⟨o, us, file, tf, flags, tg, inF, text, tt, e1, r1, r2, r3, r4, r5, r6, r7, r8, hne⟩ := C p hp
      have r2' : o.data = .fields us := r2
      exact ⟨o, us, file, tf, flags, tg, inF, text, tt, plain e1 r2' (fun _ _ z => nomatch z) (fun z => by cases z; simp at r3), r1, r2, r3, r4, r5, r6, r7, r8, hne⟩
    · obtain ⟨bm, ob, b1, b2, b3, b4, b5, b6⟩ := hbm
      refine ⟨bm, ob, b1, b2, ?_, ?_, plain b3 b6 (fun _ _ z => nomatch z) (fun z => nomatch z), b4, b5, b6⟩
      · rintro rfl
        rw [eg] at b3
        rw [← Option.some.inj b3, dg] at b6
        cases b6
      · rintro rfl
        rw [atP] at b3
        rw [← Option.some.inj b3] at b6
        cases b6
    · intro z
      rw [← z, eg] at atP
      rw [Option.some.inj atP] at dg
      cases dg
  have e0 : Env0 P w K mg (hidT s₁.heap H) callerA [] s₁ H := by
    refine ⟨rfl, md, fun b o e => of_hidT e, ?_, trivial, ?_, hok, .of_eq hg⟩
    · exact Nat.le_of_eq (hidT_size _ _)
    · exact fun b hb => absurd (show b ∈ ([] : List Addr) from hb) (by simp)
  have run := (F _ inK (ns' hns) tabs).run callerA [] s₁ H ⟨[.ref a], []⟩ [.ref a] [.ref a] _ _ rfl hr e0 (hbind s₁ (.ref a)) (.cons rfl .nil) hS
  refine codeAny_mono run fun r s' h => ?_
  match r, h with
  | .error e, h => exact False.elim h
  | .ok .next, h => exact False.elim h
  | .ok .brk, h => exact False.elim h
  | .ok .cont, h => exact False.elim h
  | .ok (.ret u), h =>
    obtain ⟨v, H', os, bare, un, hok', r', q⟩ := h
    replace q : v = .bl true := q
    subst q
    obtain rfl : u = Value.bool true := r'
    have same : ∀ b o, b ∉ cs.map (·.2) → s₁.heap.get? b = some o → s'.heap.get? b = some o := by
      intro b o nb e
      match q : H b with
      | none => exact un.keep b o e q (fun z => absurd (show b ∈ ([] : List Addr) from z) (by simp)) (by simp)
      | some u =>
        rcases hO b with z | ⟨z, _⟩ | ⟨ob, xs, z⟩
        · rw [q] at z
          cases z
        · exact absurd z nb
        · obtain ⟨e1, _⟩ := hok b _ z
          obtain ⟨e2, _⟩ := hok' b _ (un.frzs b ob _ z)
          rw [e] at e1
          rw [Option.some.inj e1]
          exact e2
    have more : ∀ p ∈ cs, ∃ us : Array Value, s'.heap.get? p.2 = some { cls := .none, data := .fields us } := by
      intro p hp
      obtain ⟨us, z⟩ := un.tbls p.2 #[] (hH p hp)
      exact ⟨_, hok' p.2 _ z⟩
    refine ⟨rfl, ⟨fun b o e => ?_, fun b o e => ?_⟩, os, bare⟩
    · by_cases nb : b ∈ cs.map (·.2)
      · obtain ⟨p, hp, rfl⟩ := List.mem_map.mp nb
        obtain ⟨us, hm⟩ := more p hp
        rw [hT p hp] at e
        rw [← Option.some.inj e]
        exact .inr (.inl ⟨((C p hp).tab (hT p hp)).isCodeTable, rfl, #[], us, rfl, by rw [Array.empty_append]; exact hm⟩)
      · exact .inl (same b o nb e)
    · by_cases nb : b ∈ cs.map (·.2)
      · obtain ⟨p, hp, rfl⟩ := List.mem_map.mp nb
        obtain ⟨us, hm⟩ := more p hp
        exact ⟨_, hm⟩
      · exact ⟨o, same b o nb e⟩
theorem lawGT (KX : K.In s₁.heap) (hns : s₁.heap.Ns mainGlobals mg) (hb : s₁.heap.Ns builtinsNs mb) (hbb : ∀ x : Str, x ≠ "__name__" → mb x = bootBuiltins x) (hlim : s₁.heap.NoLimit) (hg : s₁.gens = #[])
    (hT : ∀ p ∈ cs, s₁.heap.get? p.2 = some { cls := .none, data := .fields #[] }) (nT : ∀ p ∈ cs, K.lookup p.2 = none) (C : ∀ p ∈ cs, PySem.W.CodeHd s₁.heap p.1 p.2)
    (hbm : ∃ (bm : Addr) (ob : Obj), mg "__builtins__" = some (.ref bm) ∧ bm ≠ builtinsNs ∧ s₁.heap.get? bm = some ob ∧ ob.cls = .type "module" ∧ ob.dict = some builtinsNs ∧ ob.data = .plain)
    (ha : s₁.heap.get? a = some { cls := .type "list", data := .seq vs.toArray }) (hi : IntsAre vs ns) (hl : ns.length ≤ sizeLine) (hr : Room k callerA)
    (F : ∀ base : Heap, K.In base → base.Ns mainGlobals mg → (∀ p ∈ cs, TabB base mg p.1 p.2) → FnG P w K mg base k fa fd [x] sp) (hbind : ∀ (s : Shared) (u : Value), BindsTo s fd ⟨[u], []⟩ [(x, u)])
    (hsp : ∀ H : Hp, OnlyT (cs.map (·.2)) H → (∀ p ∈ cs, H p.2 = some (.tbl #[])) → SqL K H a (ns.map V.int) → sp [.ref a] H (fun v _ => v = .bl true) E0) :
    codeAny (model P w) callerA (.call (.ref fa) ⟨[.ref a], []⟩) (fun r s' => r = .ok (.ret (.bool true)) ∧ OldK s₁.heap s'.heap ∧ s'.os = s₁.os ∧ AllBare s'.gens) s₁ := by
  have rv := vals_ints hi
  have lenV := hi.length
  have tabAt : ∀ {b : Addr}, b ∈ cs.map (·.2) → s₁.heap.get? b = some { cls := .none, data := .fields #[] } := by
    intro b hb
    obtain ⟨p, hp, rfl⟩ := List.mem_map.mp hb
    exact hT p hp
  have inT : ∀ {p : Addr × Addr}, p ∈ cs → p.2 ∈ cs.map (·.2) := fun hp => List.mem_map_of_mem hp
  have aT : a ∉ cs.map (·.2) := by
    intro z
    have e := tabAt z
    rw [ha] at e
    cases congrArg Obj.data (Option.some.inj e)
  let Ht : Hp := fun b => if b ∈ cs.map (·.2) then some (.tbl #[]) else none
  have ht1 : ∀ {b : Addr}, b ∈ cs.map (·.2) → Ht b = some (.tbl #[]) := fun h => if_pos h
  have ht2 : ∀ {b : Addr}, b ∉ cs.map (·.2) → Ht b = none := fun h => if_neg h
  match hk : K.lookup a with
  | some o =>
    have e := KX a o hk
    rw [ha] at e
    have eo := Option.some.inj e
    subst eo
    have hO : OnlyT (cs.map (·.2)) Ht := fun b => by
      by_cases h : b ∈ cs.map (·.2)
      · exact .inr (.inl ⟨h, ht1 h⟩)
      · exact .inl (ht2 h)
    refine lawGT_core KX hns hb hbb hlim hg hT nT C hbm ha hr F hbind (hsp Ht hO (fun p hp => ht1 (inT hp)) (.inr ⟨_, vs.toArray, _, hk, rfl, rfl, rfl, ?_, by simpa using rv⟩)) hO (fun p hp => ht1 (inT hp)) (fun b u z => ?_) (fun b z => ?_) fun z => absurd (ht2 aT) z
    · rw [List.size_toArray, lenV]
      exact hl
    · by_cases h : b ∈ cs.map (·.2)
      · rw [ht1 h] at z
        rw [← Option.some.inj z]
        exact tabAt h
      · rw [ht2 h] at z
        cases z
    · by_cases h : b ∈ cs.map (·.2)
      · exact .inr h
      · exact absurd (ht2 h) z
  | none =>
    let Hs : Hp := fun b => if b = a then some (.frz { cls := .type "list", data := .seq vs.toArray } (.lst (ns.map V.int))) else Ht b
    have hs1 : Hs a = some (.frz { cls := .type "list", data := .seq vs.toArray } (.lst (ns.map V.int))) := if_pos rfl
    have hs2 : ∀ {b}, b ≠ a → Hs b = Ht b := fun h => if_neg h
    have hsT : ∀ p ∈ cs, Hs p.2 = some (.tbl #[]) := fun p hp => (hs2 fun z => aT (z ▸ inT hp)).trans (ht1 (inT hp))
    have hO : OnlyT (cs.map (·.2)) Hs := fun b => by
      by_cases h : b = a
      · exact .inr (.inr ⟨_, _, h ▸ hs1⟩)
      · by_cases h2 : b ∈ cs.map (·.2)
        · exact .inr (.inl ⟨h2, (hs2 h).trans (ht1 h2)⟩)
        · exact .inl ((hs2 h).trans (ht2 h2))
    refine lawGT_core KX hns hb hbb hlim hg hT nT C hbm ha hr F hbind (hsp Hs hO hsT (.inl (.inr ⟨{ cls := .type "list", data := .seq vs.toArray }, hs1⟩))) hO hsT (fun b u z => ?_) (fun b z => ?_) fun _ => hk
    · by_cases h : b = a
      · subst h
        rw [hs1] at z
        rw [← Option.some.inj z]
        exact ⟨ha, by rw [List.length_map]; exact hl, vs, _, rv, ha⟩
      · rw [hs2 h] at z
        by_cases h2 : b ∈ cs.map (·.2)
        · rw [ht1 h2] at z
          rw [← Option.some.inj z]
          exact tabAt h2
        · rw [ht2 h2] at z
          cases z
    · by_cases h : b = a
      · exact .inl h
      · by_cases h2 : b ∈ cs.map (·.2)
        · exact .inr h2
        · exact absurd ((hs2 h).trans (ht2 h2)) z
end
/-- the goal that k_head leaves, from the promise of a law in which lambdas stand: cs, the code objects and their tables -/
theorem walkGT {l : PySem.W.OpenLaw} {n k : Nat} {q : Program} {loose : List Str} {XP : (Str → Option Value) → Heap → Prop} {YP : World → Heap → Prop} {d : DefRec} {K : Params → PySem.W.Frag} {x : Str}
    (hn : l.most = some n) (hn2 : n ≤ sizeLine) (hdf : d.params.defaults = []) (hr : Room k callerA) (hY : ∀ (w : World) (h : Heap), YP w h → (K w.params).In h)
    (F : ∀ (w : World) (mg : Str → Option Value) (fa : Addr) (h : Heap), YP w h → (K w.params).In h → h.Ns mainGlobals mg → mg d.name = some (.ref fa) →
      ∃ (fd : FuncData) (cs : List (Addr × Addr)) (sp : Sp), (∀ p ∈ cs, h.get? p.2 = some { cls := .none, data := .fields #[] }) ∧ (∀ p ∈ cs, (K w.params).lookup p.2 = none) ∧ (∀ p ∈ cs, PySem.W.CodeHd h p.1 p.2) ∧ (∀ (s : Shared) (u : Value), BindsTo s fd ⟨[u], []⟩ [(x, u)]) ∧
        (∀ (H : Hp) (a : Addr) (ns : List Int), ns.length ≤ n → OnlyT (cs.map (·.2)) H → (∀ p ∈ cs, H p.2 = some (.tbl #[])) → SqL (K w.params) H a (ns.map V.int) → sp [.ref a] H (fun v _ => v = .bl true) E0) ∧
        ∀ base : Heap, (K w.params).In base → base.Ns mainGlobals mg → (∀ p ∈ cs, TabB base mg p.1 p.2) → FnG l.prog w (K w.params) mg base k fa fd [x] sp) :
    PySem.W.WalkO q loose XP YP l.row.toRowW d [] (fun f vs => PySem.call f vs) := by
  refine Att.attach_callB hn hdf ?_
  intro w s₀ s₁ mg mb fa o pm cd doc a vs ns G Y ho hd hcd hmg hobj hints hlen hbits hg
  obtain ⟨fd, cs, sp, hT, nT, C, hb, hsp, hF⟩ := F w mg fa _ Y (hY w _ Y) G.T.g hmg
  exact lawGT (hY w _ Y) G.T.g G.T.b G.T.builtins G.T.nolimit hg hT nT C G.T.bmain hobj hints (Nat.le_trans hlen hn2) hr hF hb fun H hO hH hS => hsp H a ns hlen hO hH hS

open LamX (TabB Tabs TabS ExtN CodeO LamS lamEnv lamCx lam_start2 lam_make2 lamS_by)
/-! ### a def whose code object's place is told -/
structure FunC (K : PySem.W.Frag) (x qual : Str) (st : Stmt) (f : Addr) (fd : FuncData) (cdv : Value) : Prop where
  ex : ∃ (oc : Value) (od : Option Addr) (kV doc pm : Value) (an : Option Addr) (ct : Value) (osl : Array (Option Value)),
    fd = PySem.W.fnOf x qual (defArgs st) (defBody st) (defScope st) .none kV doc pm an cdv ct ∧ K.lookup f = some ⟨oc, od, .func fd, osl⟩
  cd : PySem.W.codeIn K cdv qual = true
  kp : PySem.W.keepIn K (.ref f) = true
section
variable {P : Program} {w : World} {K : PySem.W.Frag} {mg : Str → Option Value} {base : Heap}
theorem funC_mk {x qual : Str} {st : Stmt} {f : Addr} {oc : Value} {od an : Option Addr} {osl : Array (Option Value)} {kV doc pm cdv ct : Value} (l : K.lookup f = some ⟨oc, od, .func (PySem.W.fnOf x qual (defArgs st) (defBody st) (defScope st) .none kV doc pm an cdv ct), osl⟩)
    (c : PySem.W.codeIn K cdv qual = true) (k : PySem.W.keepIn K (.ref f) = true) : FunC K x qual st f (PySem.W.fnOf x qual (defArgs st) (defBody st) (defScope st) .none kV doc pm an cdv ct) cdv :=
  { ex := ⟨oc, od, kV, doc, pm, an, ct, osl, rfl, l⟩, cd := c, kp := k }
theorem FnG.bodyC {x qual : Str} {st : Stmt} {f : Addr} {fd : FuncData} {N ps : List Str} {k : Nat} {sp : Sp} {cdv : Value} (F : FunC K x qual st f fd cdv) (S : FnScope N ps (defScope st)) (len : ∀ vs H Q E, sp vs H Q E → vs.length = ps.length)
    (hbody : ∀ (A : Around) (outer : List Env) (s : Shared) (H : Hp) (vs : List V) (Q : VK) (E : XK), (A.deeper (envOfC qual (defScope st) s.heap.objs.size f cdv)).guards = some [] → Room k (A.deeper (envOfC qual (defScope st) s.heap.objs.size f cdv)) → sp vs H Q E →
      ∃ t, PSs (cxOf CX0 P w K mg base N qual (defScope st) f cdv A outer s H E).nox (defBody st) t ∧ t { nx := fun _ H' => Q .non H', rt := Q } (start N vs) H) : FnG P w K mg base (k + 1) f fd ps sp := by
  obtain ⟨oc, od, kV, doc, pm, an, ct, osl, e, lk⟩ := F.ex
  subst e
  refine fnG_of lk F.cd S len fun A outer s H vs Q E hgd hr hsp => ?_
  obtain ⟨t, h, q⟩ := hbody A outer s H vs Q E hgd hr hsp
  exact ⟨t, h.nox, q⟩
end
/-! ### x(lambda: body), where x keeps the exception that the lambda lets out -/
section
variable {X : Cx} {pins : List (Addr × Obj)} {σ : L2.St} {H HZ : Hp} {s : Shared}
/-- a(), in the def that got the lambda; what is let out is wished at the slots that stand there -/
theorem pe_actW {CXg : CXT} {Eg : XK} {Ng : List Str} {qg : Str} {sg : Scope} {g f c' : Addr} {cdg pm ctv : Value} {params : Arguments} {body : Expr} {scope : Scope} {k i : Nat} {a : Str} {pn : List (Addr × Obj)} {xe : Value → Shared → Prop} {W : WX} {tb : XK → TE} {p1 p2 : Pos}
    (I : Inv X pins σ H s) (L : LamS X.env.scope scope) (hf : s.heap.get? f = some (PySem.W.kla_obj "<lambda>" (X.env.qual ++ "<lambda>") params body scope (cloFrom X.env.cells scope.names []) pm c' ctv)) (n0 : H f = none) (nfr : f ∉ frs X.stack)
    (hbind : bindArgs (PySem.W.kla_fn "<lambda>" (X.env.qual ++ "<lambda>") params body scope (cloFrom X.env.cells scope.names []) pm (.ref c') ctv) ⟨[], []⟩ = pure [])
    (tk : Takes ((cxOf CXg X.prog X.w X.K X.mg X.base Ng qg sg g cdg X.A X.stack s H Eg).tr pn xe) W) (hr : Room (k + 1) (X.A.deeper (envOfC qg sg s.heap.objs.size g cdg)))
    (hbody : ∀ (A : Around) (outer : List Env) (s : Shared) (H : Hp) (E : XK), Room k (A.deeper (lamEnv X scope s.heap.objs.size f c')) → PE (lamCx X A outer s H E scope f c') body (tb E)) (hN : Ng[i]? = some a) (hv : Vis sg a)
    (hd : (a == ("__debug__" : Str)) = false := by decide) (hcd : (a == ("__classdict__" : Str)) = false := by decide) :
    PE ((cxOf CXg X.prog X.w X.K X.mg X.base Ng qg sg g cdg X.A X.stack s H Eg).tr pn xe) (.Call (.Name a p1) [] [] p2) (fun σZ HZ Q => σZ[i]? = some (some (.ref f)) ∧ HZ c' = some (CodeO c' (X.env.qual ++ "<lambda>")) ∧ tb (WE W σZ) σ HZ Q) := by
  constructor
  rintro pinsZ sZ σZ HZ Q IZ ⟨hs, hc, ht⟩
  have var := (pe_var (pos := p1) (i := i) hN hv hd hcd).run pinsZ sZ σZ HZ (fun v H1 => v = .ref f ∧ H1 = HZ) IZ ⟨.ref f, hs, rfl, rfl⟩
  refine wpAny_Call_Name_kw (thn var ?_)
  rintro u s1 ⟨v, H1, I1, r1, rfl, rfl⟩
  cases (show u = Value.ref f from r1)
  have at1 : s1.heap.get? f = some (PySem.W.kla_obj "<lambda>" (X.env.qual ++ "<lambda>") params body scope (cloFrom X.env.cells scope.names []) pm c' ctv) := I1.base.keep f _ hf n0 nfr fun z => absurd (show f ∈ ([] : List Addr) from z) (by simp)
  refine PySem.W.callWith_F0 ⟨_, _, _, _, at1⟩ ?_
  have kept : Un (frs X.stack) [] H H1 s.heap s1.heap := I1.base
  obtain ⟨⟨oc, us, t, co1, co2, co3⟩, _⟩ := I1.hok c' _ hc
  have ran : codeAny (model X.prog X.w) (X.A.deeper (envOfC qg sg s.heap.objs.size g cdg)) (.call (.ref f) ⟨[], []⟩) (CR (L2.CX X.prog X.w) (envOfC qg sg s.heap.objs.size g cdg :: X.stack) X.prog X.w H1 s1 Q (WE W σZ)) s1 := by
    refine PySem.W.kla_callFunE hr.depth at1 rfl L.co L.gen rfl ⟨c', oc, us, t, rfl, co1, co2, co3⟩ ?_
    rw [hbind]
    refine wpAny_pure (wpAny_newFunctionEnv (fun y hy => (L.own y hy).2) (fun y hy => absurd hy (by simp)) (fun h₁ ns sub => ⟨I1.nolimit.fresh _ sub, ?_⟩) L.kind)
    have stay : ∀ b o, s1.heap.get? b = some o → h₁.get? b = some o := fun b o e => sub.extBut b o (Nat.ne_of_lt (Heap.lt_size e)) (Heap.get?_push_of_some _ e)
    have J := lam_start2 (A := X.A.deeper (envOfC qg sg s.heap.objs.size g cdg)) (outer := envOfC qg sg s.heap.objs.size g cdg :: X.stack) (E := WE W σZ) (scope := scope) (f := f) (c' := c') (tk := s1.toks + ([] : List (Str × Value)).length) I L I1.env0 hr.hd kept ns stay
    refine PySem.W.kla_codeExpr (wpAny_mono ((hbody _ _ s1 H1 (WE W σZ) (hr.deeper _)).run [] _ _ H1 Q J ht) ?_ fun _ _ z => z)
    rintro v s' ⟨w', H', J', rv, q⟩
    exact ⟨w', H', J'.os, J'.bare, J'.base, J'.hok, rv, q⟩
  refine wpAny_call (codeAny_mono ran fun r s' hq => ?_)
  match r, hq with
  | .ok (.ret u), hq => exact I1.after hq
  | .ok .next, hq => exact hq.elim
  | .ok .brk, hq => exact hq.elim
  | .ok .cont, hq => exact hq.elim
  | .error e, hq => exact passAt tk σZ pinsZ H1 s1 e s' I1 hq
/-- a() as a statement in the body of try -/
def tAct (f c' : Addr) (q : Str) (tl : XK → Hp → VK → Prop) (W : WX) : TS := fun D σ H => σ[0]? = some (some (.ref f)) ∧ H c' = some (CodeO c' q) ∧ tl (WE W σ) H fun _ H' => D.nx σ H'
theorem ps_act {Z : Cx} {f c' : Addr} {q a : Str} {tl : XK → Hp → VK → Prop} {W : WX} {p1 p2 pos : Pos} (act : PE Z (.Call (.Name a p1) [] [] p2) (fun σZ HZ Q => σZ[0]? = some (some (.ref f)) ∧ HZ c' = some (CodeO c' q) ∧ tl (WE W σZ) HZ Q)) :
    PS Z (.Expr (.Call (.Name a p1) [] [] p2) pos) (tAct f c' q tl W) := ps_expr act
/-- the def that calls what it got; TT: what it asks of the lambda's reading -/
def Gives (X : Cx) (Ng : List Str) (x : Str) (st : Stmt) (g : Addr) (cdg : Value) (a q : Str) (k : Nat) (TT : (XK → Hp → VK → Prop) → Hp → VK → Prop) : Prop :=
  ∀ (f c' : Addr) (s : Shared) (H : Hp) (Q : VK) (tl : XK → Hp → VK → Prop), Room k (X.A.deeper (envOfC x (defScope st) s.heap.objs.size g cdg)) →
    (∀ (W : WX) (pn : List (Addr × Obj)) (xe : Value → Shared → Prop) (p1 p2 : Pos), Takes ((cxOf CX0 X.prog X.w X.K X.mg X.base Ng x (defScope st) g cdg X.A X.stack s H E0).tr pn xe) W →
      PE ((cxOf CX0 X.prog X.w X.K X.mg X.base Ng x (defScope st) g cdg X.A X.stack s H E0).tr pn xe) (.Call (.Name a p1) [] [] p2) (fun σZ HZ Q => σZ[0]? = some (some (.ref f)) ∧ HZ c' = some (CodeO c' q) ∧ tl (WE W σZ) HZ Q)) →
    H c' = some (CodeO c' q) → TT tl H Q → ∃ t, PSs (cxOf CX0 X.prog X.w X.K X.mg X.base Ng x (defScope st) g cdg X.A X.stack s H E0).nox (defBody st) t ∧ t { nx := fun _ H' => Q .non H', rt := Q } (start Ng [.ref f]) H
/-- the callee's facts -/
structure LamD (K : PySem.W.Frag) (mg : Str → Option Value) (x a : Str) (st : Stmt) (g : Addr) (fd : FuncData) (cdv : Value) (Ng : List Str) : Prop where
  fn : FunC K x x st g fd cdv
  hm : mg x = some (.ref g)
  hb : Binds K fd [a] []
  sg : FnScope Ng [a] (defScope st)
  h0 : Ng[0]? = some a
  hv : Vis (defScope st) a
def tLamW (T : List (Addr × Str)) (TT : (XK → Hp → VK → Prop) → Hp → VK → Prop) (t : XK → TE) : TE := fun σ H Q => Tabs T H ∧ ∀ H1, ExtN H H1 → Tabs T H1 → TT (fun E H' Q' => t E σ H' Q') H1 Q
theorem pe_lamW {T : List (Addr × Str)} {TT : (XK → Hp → VK → Prop) → Hp → VK → Prop} {x a : Str} {st : Stmt} {g c P : Addr} {k : Nat} {fd : FuncData} {cdv : Value} {Ng : List Str} {params : Arguments} {body : Expr} {scope : Scope} {t : XK → TE} {p lpos pos : Pos}
    (D : LamD X.K X.mg x a st g fd cdv Ng) (hG : Gives X Ng x st g cdv a (X.env.qual ++ "<lambda>") (k + 1) TT) (TB : TabB X.base X.mg c P) (hcode : X.env.code = .ref c) (hmT : (P, X.env.qual ++ "<lambda>") ∈ T) (hu : ∀ p ∈ T, p.1 = P → p.2 = X.env.qual ++ "<lambda>")
    (hr : Room (k + 2) X.A) (hg : Gl X x) (L : LamS X.env.scope scope) (hbody : ∀ (A : Around) (outer : List Env) (s : Shared) (H : Hp) (E : XK) (f c' : Addr), Room k (A.deeper (lamEnv X scope s.heap.objs.size f c')) → PE (lamCx X A outer s H E scope f c') body (t E))
    (hdef : defaultsOf params X.env = ([], []) := by rfl) (hbind : ∀ (q : Str) (cl : List (Str × Addr)) (pm cv ctv : Value), bindArgs (PySem.W.kla_fn "<lambda>" q params body scope cl pm cv ctv) ⟨[], []⟩ = pure [] := by exact fun _ _ _ _ _ => rfl)
    (hdb : (x == ("__debug__" : Str)) = false := by decide) (hd : (a == ("__debug__" : Str)) = false := by decide) (hcd : (a == ("__classdict__" : Str)) = false := by decide) :
    PE X (.Call (.Name x p) [.Lambda params body scope lpos] [] pos) (tLamW T TT t) := by
  constructor
  rintro pins s σ H Q I ⟨hT, h⟩
  refine wpAny_Call_Name_kw (ld_glob I hg D.hm ?_ hdb)
  refine PySem.W.callWith_K (h₀ := X.base) I.ok.mod.kin D.fn.kp ?_ (by rfl) (by rfl)
  refine Calls.spliced_cons (lam_make2 I TB hcode hmT hu hT hdef (L.has I.ok) fun f c' pm' ctv H1 s' I1 eN T1 hf hfn hfr hco => ?_)
  refine Calls.spliced_nil ⟨I1.kIn, ?_⟩
  obtain ⟨oc, od, kV, doc, pm, an, ct, osl, efd, lk⟩ := D.fn.ex
  subst efd
  have ran : codeAny (model X.prog X.w) X.A (.call (.ref g) ⟨[.ref f], []⟩) (CR CX0 X.stack X.prog X.w H1 s' Q E0) s' := by
    refine LamX.run_ofS (N := Ng) (ps := [a]) (us := [.ref f]) (vs := [.ref f]) lk D.fn.cd D.sg hr I1.env0 (D.hb s' [.ref f] I1.kIn rfl) (.cons rfl .nil) rfl fun room => ?_
    obtain ⟨t', ps, run⟩ := hG f c' s' H1 Q (fun E H' Q' => t E σ H' Q') room (fun W pn xe p1 p2 tk => pe_actW (i := 0) I1 L hf hfn hfr (hbind _ _ _ _ _) tk room (fun A outer s H E r => hbody A outer s H E f c' r) D.h0 D.hv hd hcd) hco (h H1 eN T1)
    exact ⟨t', ps.nox, run⟩
  refine wpAny_call (codeAny_mono ran fun r s2 hq => ?_)
  match r, hq with
  | .ok (.ret u), hq => exact I1.after hq
  | .ok .next, hq => exact hq.elim
  | .ok .brk, hq => exact hq.elim
  | .ok .cont, hq => exact hq.elim
  | .error e, hq => exact False.elim hq
end

/-! ### tuples of great ints -/
structure GoodN (L : Nat) (d : PyData) (dep w : Nat) : Prop where
  sh : d.showable = true
  nd : d.hasDict = false
  dp : d.depth ≤ dep
  sl : d.leavesShort L = true
  wt : d.weight ≤ w
theorem GoodN.int {z : Int} (h : z.natAbs < 2 ^ 400) : GoodN 130 (.int z) 0 401 := by
  have hl : z.natAbs.log2 < 400 := PySem.Flt.log2_lt_of (by decide) h
  refine ⟨?_, rfl, Nat.le_refl _, ?_, ?_⟩
  · simp only [PyData.showable, decide_eq_true_eq]
    omega
  · simp only [PyData.leavesShort, PyData.shown]
    have := int_text_length_le10 (a := z) (k := 121) (by decide) (Nat.lt_of_lt_of_le h (by decide))
    refine decide_eq_true ?_
    show (Str.ofString (toString z)).length ≤ 130
    rw [PySem.ofString_length]
    omega
  · simp only [PyData.weight]
    split <;> omega
theorem goodN_all {L k w : Nat} : ∀ {ds : List PyData}, (∀ d ∈ ds, GoodN L d k w) → PyData.showableAll ds = true ∧ PyData.hasDictAll ds = false ∧ PyData.depthAll ds ≤ k ∧ PyData.leavesShortAll L ds = true ∧ PyData.weightAll ds ≤ ds.length * (w + 1)
  | [], _ => ⟨rfl, rfl, Nat.zero_le _, rfl, Nat.zero_le _⟩
  | d :: ds, h => by
    obtain ⟨a1, a2, a3, a4, a5⟩ := goodN_all (ds := ds) fun x hx => h x (List.mem_cons_of_mem _ hx)
    have g := h d List.mem_cons_self
    refine ⟨?_, ?_, ?_, ?_, ?_⟩
    · simp only [PyData.showableAll, g.sh, a1, Bool.and_self]
    · simp only [PyData.hasDictAll, g.nd, a2, Bool.or_self]
    · simp only [PyData.depthAll]
      exact Nat.max_le.mpr ⟨g.dp, a3⟩
    · simp only [PyData.leavesShortAll, g.sl, a4, Bool.and_self]
    · simp only [PyData.weightAll, List.length_cons, Nat.add_mul]
      have := g.wt
      omega
theorem GoodN.tuple {L : Nat} {ds : List PyData} {k w n : Nat} (h : ∀ d ∈ ds, GoodN L d k w) (hn : ds.length ≤ n) : GoodN L (.tuple ds) (k + 1) (n * (w + 1)) := by
  obtain ⟨a1, a2, a3, a4, a5⟩ := goodN_all h
  exact ⟨by simpa only [PyData.showable] using a1, by simpa only [PyData.hasDict] using a2, by simp only [PyData.depth]; omega, by simpa only [PyData.leavesShort] using a4, by simp only [PyData.weight]; exact Nat.le_trans a5 (Nat.mul_le_mul_right _ hn)⟩

/-! ### try: body, except (c, c2) as n: suite; behind it the exception stands among ours -/
/-- the clause of two classes takes it; behind a suite that runs through, the exception at a is kept -/
def wKp2 (K : PySem.W.Frag) (c c2 : Value) (i : Nat) (ts : Addr → Value → Option Addr → TS) (D : Ends) : WX := fun cls d σ H =>
  PySem.W.exmAny K cls [c, c2] = some true ∧ ∀ a, H a = none → ts a cls d { nx := fun σ' H' => D.nx (σ'.set i none) (upd H' a (exk a cls d)), rt := D.rt, bk := fun σ' H' => D.bk (σ'.set i none) H', ct := fun σ' H' => D.ct (σ'.set i none) H' } (σ.set i (some (.ref a))) H
theorem flying_keeps {B h h' : Heap} {l : List Env} {e : Addr} {Z : Obj → Prop} (f : HandSPX.FlyingZ B l e Z h) (kp : ∀ q o, h.get? q = some o → h'.get? q = some o) : HandSPX.FlyingZ B l e Z h' := by
  obtain ⟨f1, f2, f3, oe, vs, T, oT, ts, q1, q2, q3, q4, q5, q6, q7, q8, q9⟩ := f
  exact ⟨fun b o e => kp _ _ (f1 b o e), f2, f3.of_keeps (fun b o e _ => ⟨o, kp _ _ e, rfl⟩), oe, vs, T, oT, ts, kp _ _ q1, q2, q3, q4, q5, q6, kp _ _ q7, q8, q9⟩
section
variable {X : Cx} {x x2 n : Str} {c c2 : Value} {i : Nat} {body suite : List Stmt} {b₀ : Stmt} {np np2 tpos pos pos' : Pos} {kk : Nat} {tb : WX → TS} {ts : Addr → Value → Option Addr → TS}
theorem ps_try_kp2 (hs : X.stack = X.env :: X.outer) (hf : X.env.frame = some X.env.locals) (hx : X.ex = []) (hN : X.N.Nodup) (hi : X.N[i]? = some n) (hln : X.env.kindOf n = some .local) (hc : Names X x c) (hc2 : Names X x2 c2)
    (hb : ∀ (W : WX) (pn : List (Addr × Obj)) (xe : Value → Shared → Prop), Takes (X.tr pn xe) W → PassesOwn (model X.prog X.w) X.A X.env xe → PSs (X.tr pn xe) body (tb W))
    (hsu : ∀ (a : Addr) (oe : Obj) (cls : Value) (d : Option Addr) (pn : List (Addr × Obj)), Zc cls d oe → (∃ vs, oe.data = .fields vs) → PSs (X.suite a ((a, oe) :: pn)) (b₀ :: suite) (ts a cls d)) :
    PS X (.Try body [.ExceptHandler (some (.Tuple [.Name x np, .Name x2 np2] kk tpos)) (some n) (b₀ :: suite) pos'] [] [] pos) (fun D σ H => tb (wKp2 X.K c c2 i ts D) D σ H) := by
  refine ⟨fun pins s σ H D I h => ?_⟩
  have okX := I.ok
  have frm : X.A.frames = some (X.env :: X.outer) := hs ▸ okX.frames
  refine wpAny_Try_except (wpAny_mono ((hb (wKp2 X.K c c2 i ts D) (X.pn ++ pins)
    (fun v t => wpAny (model X.prog X.w) X.A (noteFrame v X.env) (fun _ t1 => wpAny (model X.prog X.w) X.A (setFlight v none)
      (fun _ t2 => wpAny (model X.prog X.w) X.A (handleBy v X.env [.ExceptHandler (some (.Tuple [.Name x np, .Name x2 np2] kk tpos)) (some n) (b₀ :: suite) pos']) (SP X pins D) X.xe t2) X.xe t1) X.xe t)
    (fun v t air => ?air) PassesOwn.looking).run [] s σ H D (I.toTry _) h) (fun fl t q => ?thru) fun _ _ z => z)
  case thru =>
    cases fl with
    | next =>
      obtain ⟨σ1, H1, J, q⟩ := q
      exact wpAny_execs_nil ⟨σ1, H1, J.ofTry okX, q⟩
    | ret v =>
      obtain ⟨v1, σ1, H1, J, r, q⟩ := q
      exact ⟨v1, σ1, H1, J.ofTry okX, r, q⟩
    | brk =>
      obtain ⟨σ1, H1, J, q⟩ := q
      exact ⟨σ1, H1, J.ofTry okX, q⟩
    | cont =>
      obtain ⟨σ1, H1, J, q⟩ := q
      exact ⟨σ1, H1, J.ofTry okX, q⟩
  case air =>
    obtain ⟨a, B, sI, pins1, σ1, H1, cls, d, rfl, J0, nb, up, sky, na, os, ag, hm, hyes⟩ := air
    have J : Inv X pins σ1 H1 sI := J0.ofTry okX
    have sky1 : Sky B (X.env :: X.outer) a (Zc cls d) X.env.locals t.heap := hs ▸ sky
    refine Sky.land Zc.steady frm hf sky1 fun h3 fl3 up3 => ?_
    have J3 : Inv X pins σ1 H1 { t with heap := h3 } := J.landed nb fl3.1 (up.trans up3) os ag
    obtain ⟨oe3, vs3, he3, hz3, hd3⟩ := fl3.there
    have off : ∀ {hh : Heap} {o : Obj} {vs : Array Value}, hh.FunFrames B (X.env :: X.outer) → hh.get? a = some o → o.data = .fields vs → a ∉ frs (X.env :: X.outer) := fun ff e1 e2 hm => by
      obtain ⟨_, o', e3, nf⟩ := ff.mem hm
      rw [e1] at e3
      cases e3
      exact nf _ e2
    have offS := off fl3.2.2.1 he3 hd3
    have nL : a ≠ X.env.locals := fun y => offS (List.mem_filterMap.mpr ⟨X.env, List.mem_cons_self, by rw [hf, y]⟩)
    have nF : a ∉ X.fs := fun hm => by
      obtain ⟨e1, m1, m2⟩ := List.mem_filterMap.mp hm
      exact offS (List.mem_filterMap.mpr ⟨e1, List.mem_cons_of_mem _ m1, m2⟩)
    -- it is new since the entry
    have newI : sI.heap.get? a = none := by
      cases q : sI.heap.get? a with
      | none => rfl
      | some o =>
        have := nb a o q (hs ▸ offS)
        rw [fl3.2.1] at this
        cases this
    have new0 : X.s_0.heap.get? a = none := by
      cases q : X.s_0.heap.get? a with
      | none => rfl
      | some o =>
        obtain ⟨o', q'⟩ := J.base.there a o q (by rw [hx]; simp)
        rw [newI] at q'
        cases q'
    have newP : ∀ p ∈ X.pn ++ pins, p.1 ≠ a := fun p hp y => by
      have := (J.pin p hp).1
      rw [y, newI] at this
      cases this
    have S3 := J3.suite he3 hd3 na nL nF
    refine wpAny_handleBy_cons (codeAny_handlers_test ?_) (by intro q; cases q)
    have look : PySem.W.Looks (model X.prog X.w) h3 (typeOf (.ref a)) cls := fun _ _ _ _ k q => wpAny_typeOf_ref (k _ _ he3) (hz3.1 ▸ q)
    have name : ∀ {x : Str} {c : Value} {np : Pos} {Q : Value → Shared → Prop} {E : Value → Shared → Prop}, Names X x c → Q c { t with heap := h3 } → wpAny (model X.prog X.w) (X.A.mark (some (.ref a))) (eval (.Name x np) X.env) Q E { t with heap := h3 } := fun hc q => by
      obtain ⟨g1, g2, g3 | ⟨g3, g4, g5⟩⟩ := hc
      · exact ld_glob (X := X.suite a ((a, oe3) :: (X.pn ++ pins))) S3 g1 g3 q g2
      · exact ld_blt (X := X.suite a ((a, oe3) :: (X.pn ++ pins))) S3 g1 g3 g4 q g5 g2
    have kp : ∀ q o, h3.get? q = some o → (h3.push { cls := .type "tuple", data := .seq [c, c2].toArray }).get? q = some o := fun _ _ z => Heap.get?_push_of_some _ z
    have upP : h3.UpToSlots (h3.push { cls := .type "tuple", data := .seq [c, c2].toArray }) := fun b o e _ => ⟨o.slots, kp _ _ e⟩
    have flP := flying_keeps fl3 kp
    have LM := PySem.W.exm_tup2 (M := model X.prog X.w) (J3.kIn.keeps kp) (look.keeps kp) (Heap.get?_push_size h3 rfl) hm
    refine wpAny_Tuple ?_
    refine wpAny_items_cons (name hc ?_)
    refine wpAny_items_cons (name hc2 ?_)
    refine wpAny_items_nil ⟨Nat.le_trans (Nat.le_refl 2) (by decide), ?_⟩
    refine LM.here (codeAny_handlers_suite_as (HandSPX.lands_againZ flP fun h4 fl4 up4 => ?_))
    have J4 : Inv X pins σ1 H1 { t with heap := h4 } := J.landed nb fl4.1 (((up.trans up3).trans upP).trans up4) os ag
    obtain ⟨oe4, vs4, he4, hz4, hd4⟩ := fl4.there
    have S4 := J4.suite he4 hd4 na nL nF
    refine store_ok (X := X.suite a ((a, oe4) :: (X.pn ++ pins))) (v := .ref a) S4 hN hi (.inl hln) rfl (fun s5 S5 => ?_) (.inr hln)
    refine wpAny_mono ((hsu a oe4 cls d (X.pn ++ pins) hz4 ⟨_, hd4⟩).run [] s5 _ H1 _ S5 (hyes a na)) (fun fl s6 q => ?_) (fun _ _ z => z.elim)
    have leave : ∀ {σ6 : L2.St} {H6 : Hp} {Q : Shared → Prop}, Inv (X.suite a ((a, oe4) :: (X.pn ++ pins))) [] σ6 H6 s6 → (∀ s7, Inv (X.suite a ((a, oe4) :: (X.pn ++ pins))) [] (σ6.set i none) H6 s7 → Q s7) →
        wpAny (model X.prog X.w) X.A (do bindName X.env n .none; unbindBehindTheSuite X.env n pos') (fun _ s7 => Q s7) X.xe s6 := fun S6 g => gone_ok (X := X.suite a ((a, oe4) :: (X.pn ++ pins))) S6 hN hi hln g
    cases fl with
    | next =>
      obtain ⟨σ6, H6, S6, q6⟩ := q
      refine leave S6 fun s7 S7 => ⟨_, _, ?_, q6⟩
      obtain ⟨p1, p2, p3, _⟩ := S7.pin (a, oe4) (List.mem_append_left _ List.mem_cons_self)
      exact Inv.track (S7.unsuite okX) p1 hz4 hd4 p2 nL new0 newP
    | brk =>
      obtain ⟨σ6, H6, S6, q6⟩ := q
      exact leave S6 fun s7 S7 => ⟨_, _, S7.unsuite okX, q6⟩
    | cont =>
      obtain ⟨σ6, H6, S6, q6⟩ := q
      exact leave S6 fun s7 S7 => ⟨_, _, S7.unsuite okX, q6⟩
    | ret u =>
      obtain ⟨v6, σ6, H6, S6, r6, q6⟩ := q
      exact leave S6 fun s7 S7 => ⟨_, _, _, S7.unsuite okX, r6, q6⟩
end

/-! ### a comprehension with two fors -/
section
variable {K : PySem.W.Frag} {σ : SS} {H : Hp} {Q : VK} {g g1 : TG} {te : TE} {ta : TA} {tt tt1 : TT} {wi1 : TI} {vs vs1 : List Nat}
/-- the inner walk's own loop, over J1; what is found goes behind the list at D; at its end Nx -/
def WI (J1 : It) (g1 : TG) (tt1 : TT) (te : TE) (vs1 : List Nat) (σ : SS) (D : Addr) (H : Hp) (Nx : Hp → Prop) : Prop := ∃ W1 : Nat → Nat → Hp → Prop, (∃ m, W1 0 m H) ∧ ∀ j k H, W1 j k H →
  (J1.stop j H ∧ Nx H) ∨ (J1.go j H ∧ ∃ Nx1 : Hp → Prop, (∀ H', Nx1 H' → ∃ k', k' < k ∧ W1 (j + 1) k' H') ∧ ∀ x H', J1.yld j H x H' → g1 x (wipe σ vs1) H' fun σ3 H5 => wipe σ3 vs1 = wipe σ vs1 ∧ tt1 σ3 H5 fun b H6 =>
    if b = true then te σ3 H6 fun y H7 => ∃ acc, H7 D = some (.lst acc) ∧ acc.length < sizeLine ∧ Nx1 (upd H7 D (.lst (acc ++ [y]))) else Nx1 H6)
def WC2 (J : It) (g : TG) (tt : TT) (wi1 : TI) (g1 : TG) (tt1 : TT) (te : TE) (vs vs1 : List Nat) (σ : SS) (H : Hp) (Q : VK) : Prop := ∀ D, H D = none → ∃ W : Nat → Nat → Hp → Prop, (∃ m, W 0 m (upd H D (.lst []))) ∧ ∀ i m H, W i m H →
  (J.stop i H ∧ Q (.ref D) H) ∨ (J.go i H ∧ ∃ Nx : Hp → Prop, (∀ H', Nx H' → ∃ m', m' < m ∧ W (i + 1) m' H') ∧ ∀ x H', J.yld i H x H' → g x (wipe σ vs) H' fun σ2 H2 => wipe σ2 vs = wipe σ vs ∧ tt σ2 H2 fun b H3 =>
    if b = true then wi1 σ2 H3 fun J1 H4 => WI J1 g1 tt1 te vs1 σ2 D H4 Nx else Nx H3)
theorem x_lc2 {wi : TI} (q : wi σ H fun J H1 => WC2 J g tt wi1 g1 tt1 te vs vs1 σ H1 Q) : tLc2 wi g tt wi1 g1 tt1 te vs vs1 σ H Q := q
def AskC2 (n : Nat) (G : Hp → Prop) (Y : Nat → Hp → V → Hp → Prop) (g : TG) (tt : TT) (wi1 : TI) (g1 : TG) (tt1 : TT) (te : TE) (vs vs1 : List Nat) (σ : SS) (H : Hp) (Q : VK) : Prop :=
  ∀ D, H D = none → ∃ Pv : Nat → Hp → Prop, Pv 0 (upd H D (.lst [])) ∧ (∀ i H, i ≤ n → Pv i H → G H) ∧
    (∀ i x H H', i < n → Pv i H → Y i H x H' → g x (wipe σ vs) H' fun σ2 H2 => wipe σ2 vs = wipe σ vs ∧ tt σ2 H2 fun b H3 =>
      if b = true then wi1 σ2 H3 fun J1 H4 => WI J1 g1 tt1 te vs1 σ2 D H4 (Pv (i + 1)) else Pv (i + 1) H3) ∧ ∀ H, Pv n H → Q (.ref D) H
def AskI (n : Nat) (G : Hp → Prop) (Y : Nat → Hp → V → Hp → Prop) (g1 : TG) (tt1 : TT) (te : TE) (vs1 : List Nat) (σ : SS) (D : Addr) (H : Hp) (Nx : Hp → Prop) : Prop :=
  ∃ Pv : Nat → Hp → Prop, Pv 0 H ∧ (∀ i H, i ≤ n → Pv i H → G H) ∧
    (∀ i x H H', i < n → Pv i H → Y i H x H' → g1 x (wipe σ vs1) H' fun σ2 H2 => wipe σ2 vs1 = wipe σ vs1 ∧ tt1 σ2 H2 fun b H3 =>
      if b = true then te σ2 H3 fun y H4 => ∃ acc, H4 D = some (.lst acc) ∧ acc.length < sizeLine ∧ Pv (i + 1) (upd H4 D (.lst (acc ++ [y]))) else Pv (i + 1) H3) ∧ ∀ H, Pv n H → Nx H
theorem askC2 {J : It} {n : Nat} {G : Hp → Prop} {Y : Nat → Hp → V → Hp → Prop} (w : Walk J n G Y) (q : AskC2 n G Y g tt wi1 g1 tt1 te vs vs1 σ H Q) : WC2 J g tt wi1 g1 tt1 te vs vs1 σ H Q := by
  intro D hD
  obtain ⟨Pv, h0, hG, hs, hd⟩ := q D hD
  refine ⟨fun i m H1 => (m = n - i ∧ i ≤ n) ∧ Pv i H1, ⟨n, ⟨by simp, Nat.zero_le _⟩, h0⟩, ?_⟩
  rintro i m H1 ⟨⟨e, hi⟩, p⟩
  have gd := hG i H1 hi p
  rcases Nat.lt_or_ge i n with lt | ge
  · exact .inr ⟨w.goes i H1 lt gd, Pv (i + 1), fun H' p' => ⟨n - (i + 1), by omega, ⟨rfl, lt⟩, p'⟩, fun x H' y => hs i x H1 H' lt p (w.yields i H1 x H' lt gd y)⟩
  · obtain rfl : i = n := by omega
    exact .inl ⟨w.stops H1 gd, hd H1 p⟩
theorem askI {J1 : It} {n : Nat} {G : Hp → Prop} {Y : Nat → Hp → V → Hp → Prop} {D : Addr} {Nx : Hp → Prop} (w : Walk J1 n G Y) (q : AskI n G Y g1 tt1 te vs1 σ D H Nx) : WI J1 g1 tt1 te vs1 σ D H Nx := by
  obtain ⟨Pv, h0, hG, hs, hd⟩ := q
  refine ⟨fun i m H1 => (m = n - i ∧ i ≤ n) ∧ Pv i H1, ⟨n, ⟨by simp, Nat.zero_le _⟩, h0⟩, ?_⟩
  rintro i m H1 ⟨⟨e, hi⟩, p⟩
  have gd := hG i H1 hi p
  rcases Nat.lt_or_ge i n with lt | ge
  · exact .inr ⟨w.goes i H1 lt gd, Pv (i + 1), fun H' p' => ⟨n - (i + 1), by omega, ⟨rfl, lt⟩, p'⟩, fun x H' y => hs i x H1 H' lt p (w.yields i H1 x H' lt gd y)⟩
  · obtain rfl : i = n := by omega
    exact .inl ⟨w.stops H1 gd, hd H1 p⟩
variable {a : Addr} {xs : List V}
theorem y_lc2L (h : SqL K H a xs) (q : AskC2 xs.length (fun H => SqL K H a xs) (YA xs) g tt wi1 g1 tt1 te vs vs1 σ H Q) : ∃ b, V.ref a = .ref b ∧ (∃ xs, SqL K H b xs) ∧ WC2 (Itl K b) g tt wi1 g1 tt1 te vs vs1 σ H Q := ⟨a, rfl, ⟨xs, h⟩, askC2 walk_list q⟩
theorem y_lc2E (h : SqL K H a xs) (q : AskC2 xs.length (fun H => SqL K H a xs) (YE xs) g tt wi1 g1 tt1 te vs vs1 σ H Q) : ∃ b ys, [V.ref a] = [.ref b] ∧ SqL K H b ys ∧ WC2 (Ite K b) g tt wi1 g1 tt1 te vs vs1 σ H Q := ⟨a, xs, rfl, h, askC2 walk_enum q⟩
theorem y_lc2ET (h : SqT K H a xs) (q : AskC2 xs.length (fun H => SqT K H a xs) (YE xs) g tt wi1 g1 tt1 te vs vs1 σ H Q) : ∃ b ys, [V.ref a] = [.ref b] ∧ SqT K H b ys ∧ WC2 (IteT K b) g tt wi1 g1 tt1 te vs vs1 σ H Q := ⟨a, xs, rfl, h, askC2 walk_enumT q⟩
theorem y_inET {D : Addr} {Nx : Hp → Prop} (h : SqT K H a xs) (q : AskI xs.length (fun H => SqT K H a xs) (YE xs) g1 tt1 te vs1 σ D H Nx) : ∃ b ys, [V.ref a] = [.ref b] ∧ SqT K H b ys ∧ WI (IteT K b) g1 tt1 te vs1 σ D H Nx := ⟨a, xs, rfl, h, askI walk_enumT q⟩
theorem y_inT {D : Addr} {Nx : Hp → Prop} (h : SqT K H a xs) (q : AskI xs.length (fun H => SqT K H a xs) (YA xs) g1 tt1 te vs1 σ D H Nx) : ∃ b, V.ref a = .ref b ∧ (∃ xs, SqT K H b xs) ∧ WI (Itt K b) g1 tt1 te vs1 σ D H Nx := ⟨a, rfl, ⟨xs, h⟩, askI walk_tup q⟩
theorem y_inR1 {D : Addr} {Nx : Hp → Prop} {j : Int} (h0 : 0 ≤ j) (h1 : j < 1000000) (q : AskI j.toNat (fun _ => True) (YFn fun i => .int (0 + i)) g1 tt1 te vs1 σ D H Nx) : -(2 ^ 62) ≤ j ∧ j < 2 ^ 62 ∧ WI (Itr 0 j.toNat) g1 tt1 te vs1 σ D H Nx :=
  ⟨by omega, by omega, askI walk_range q⟩
theorem y_inL {D : Addr} {Nx : Hp → Prop} (h : SqL K H a xs) (q : AskI xs.length (fun H => SqL K H a xs) (YA xs) g1 tt1 te vs1 σ D H Nx) : ∃ b, V.ref a = .ref b ∧ (∃ xs, SqL K H b xs) ∧ WI (Itl K b) g1 tt1 te vs1 σ D H Nx := ⟨a, rfl, ⟨xs, h⟩, askI walk_list q⟩
end
theorem pi_enumTK {X : Cx} {K : PySem.W.Frag} {e : Expr} {ta : TA} {p pos tpos : Pos} {elts : List Expr} {kk : Nat} (hg : Gl X "enumerate") (hm : X.mg "enumerate" = none) (ha : PA X [e] ta) (hs : starEach [e] X.env = [(false, eval e X.env)] := by rfl) (eK : X.K = K := by rfl) : PI X (.Tuple elts kk tpos) (.Call (.Name "enumerate" p) [e] [] pos) (iEnumT K ta) := eK ▸ pi_enumT hg hm ha hs
/-! ### list.count of truths; list.index of one -/
section
variable {X : Cx}
def rCountB (K : PySem.W.Frag) : V → List V → Hp → VK → Prop := fun x xs H Q => ∃ (a : Addr) (bs : List Bool) (b : Bool), x = .ref a ∧ xs = [.bl b] ∧ SqL K H a (bs.map V.bl) ∧ Q (.int ((bs.count b : Nat) : Int)) H
theorem dp_bls {K : PySem.W.Frag} {H : Hp} : ∀ bs : List Bool, DpAll K H (bs.map V.bl) (bs.map PyData.bool)
  | [] => .nil
  | b :: r => .cons (.bl b) (dp_bls r)
theorem plain_bls : ∀ bs : List Bool, PyData.plainAll (bs.map PyData.bool) = true
  | [] => rfl
  | b :: r => by simp only [List.map_cons, PyData.plainAll, PyData.plain, Bool.true_and]; exact plain_bls r
theorem depth_bls : ∀ bs : List Bool, PyData.depthAll (bs.map PyData.bool) = 0
  | [] => rfl
  | b :: r => by simp only [List.map_cons, PyData.depthAll, PyData.depth, depth_bls r]; rfl
theorem countP_bls (b : Bool) : ∀ bs : List Bool, ((bs.map PyData.bool).countP fun y => PyData.eqv y (.bool b)) = bs.count b
  | [] => rfl
  | c :: r => by
    rw [List.map_cons, List.countP_cons, List.count_cons, countP_bls b r]
    cases b <;> cases c <;> rfl
theorem mt_countB (hu : X.A.units + 64 < cLine) : MtR X "list.count" (rCountB X.K) := by
  intro pins s σ H x xs v us Q I rx rxs h
  obtain ⟨a, bs, b, rfl, rfl, hs, q⟩ := h
  cases rx
  obtain ⟨u, rfl, ru⟩ := rxs.one
  obtain ⟨its, rv, ⟨⟨cls, dd, data, sls⟩, n, ho, hc, hdn, hdt⟩, hlen⟩ := I.list hs
  simp only at hc hdt
  subst hc hdt
  obtain ⟨as, r1⟩ := Dp.reads I (.bool b) (.bl b) u (.bl b) ru
  obtain ⟨as2, r2⟩ := Dp.readsAll I _ _ its (dp_bls bs) rv
  refine SeqAt.count_list_data (vs := its.toArray) ⟨_, ho, rfl, n, rfl⟩ (show ReadsAll s.heap its.toArray.toList _ _ from r2) r1 (plain_bls bs) rfl (by rw [depth_bls]; simp only [Nat.zero_min, PyData.depth]; omega) ?_
  rw [countP_bls]
  exact ⟨.int _, H, I.kept (t' := s.toks + 1) fun _ _ z => z, ⟨_, rfl⟩, q⟩
end

local macro_rules | `(tactic| walk_at "lk") => `(tactic| first
  | assumption
  | exact upd_same
  | (refine' lk_ne ?h (by assumption); (case h => walk_at "lk"))
  | (refine' lk_ne2 ?n ?h; (case n => walk_at "ne"); (case h => walk_at "lk"))
  | (refine' lk_keep (by assumption) ?n ?h; (case n => walk_at "nin"); (case h => walk_at "lk")))
local macro_rules | `(tactic| walk_at "ne") => `(tactic| first
  | assumption
  | exact Ne.symm (by assumption))
local macro_rules | `(tactic| walk_at "nin") => `(tactic| first
  | assumption
  | (simp only [List.mem_cons, List.not_mem_nil, or_false, not_or, not_false_eq_true, and_true]; (repeat' apply And.intro); all_goals walk_at "ne"))
local macro_rules | `(tactic| walk_at "lkL") => `(tactic| first
  | assumption
  | (refine' SqL.of ?h; (case h => walk_at "lk"))
  | (refine' Kx.sqL ?k ?n ?h; (case k => walk_at "kx"); (case n => walk_at "nin"); (case h => walk_at "lkL")))
local macro_rules | `(tactic| walk_at "kx") => `(tactic| first
  | assumption
  | (refine' Kx.new ?k ?n; (case n => assumption); (case k => first | walk_at "kx" | exact Kx.refl [] _)))
local macro_rules | `(tactic| walk_at "lkT") => `(tactic| first
  | assumption
  | (refine' SqT.of ?h; (case h => walk_at "lk"))
  | (refine' FT.seq ?h; (case h => assumption))
  | (refine' Kx.sqT ?k ?n ?h; (case k => walk_at "kx"); (case n => walk_at "nin"); (case h => walk_at "lkT")))
local macro_rules | `(tactic| walk_at "sz") => `(tactic| first
  | exact Nat.zero_le _
  | (show (_ : Nat) ≤ sizeLine; decide)
  | (refine Nat.le_of_lt (small1000 ?h); (case h => first | omega | (simp; done) | (simp; omega))))
local macro_rules | `(tactic| walk_at "at") => `(tactic| first
  | exact rfl
  | assumption)
local macro_rules | `(tactic| walk_at "side") => `(tactic| first
  | assumption
  | (show (0 : Int) < _; first | decide | omega)
  | exact Or.inl ⟨by omega, by omega⟩
  | exact Or.inr ⟨by omega, by omega⟩
  | exact ⟨by omega, by omega⟩
  | exact ⟨by decide, by decide, by decide⟩
  | exact ⟨by decide, by decide, natAbs_lt (by omega) (by omega)⟩
  | exact small1000 (by first | omega | (simp; done) | (simp; omega))
  | omega)
local macro_rules | `(tactic| walk_at "rd") => `(tactic| dsimp only)
local macro_rules | `(tactic| walk_at "rd") => `(tactic| ((with_reducible refine' x_c  ?_)))
local macro_rules | `(tactic| walk_at "rd") => `(tactic| ((with_reducible refine' x_op  ?_)))
local macro_rules | `(tactic| walk_at "rd") => `(tactic| ((with_reducible refine' x_un  ?_)))
local macro_rules | `(tactic| walk_at "rd") => `(tactic| ((with_reducible refine' x_I0  ?_)))
local macro_rules | `(tactic| walk_at "rd") => `(tactic| ((with_reducible refine' x_U  ?_)))
local macro_rules | `(tactic| walk_at "rd") => `(tactic| ((with_reducible refine' x_isN  ?_)))
local macro_rules | `(tactic| walk_at "rd") => `(tactic| ((with_reducible refine' x_notN  ?_)))
local macro_rules | `(tactic| walk_at "rd") => `(tactic| ((with_reducible refine' x_nil  ?_)))
local macro_rules | `(tactic| walk_at "rd") => `(tactic| ((with_reducible refine' x_cons  ?_)))
local macro_rules | `(tactic| walk_at "rd") => `(tactic| ((with_reducible refine' x_lst  ?_)))
local macro_rules | `(tactic| walk_at "rd") => `(tactic| ((with_reducible refine' x_tup  ?_)))
local macro_rules | `(tactic| walk_at "rd") => `(tactic| ((with_reducible refine' x_tupF  ?_)))
local macro_rules | `(tactic| walk_at "rd") => `(tactic| ((with_reducible refine' x_CB  ?_)))
local macro_rules | `(tactic| walk_at "rd") => `(tactic| ((with_reducible refine' x_call  ?_)))
local macro_rules | `(tactic| walk_at "rd") => `(tactic| ((with_reducible refine' x_test  ?_)))
local macro_rules | `(tactic| walk_at "rd") => `(tactic| ((with_reducible refine' x_bl  ?_)))
local macro_rules | `(tactic| walk_at "rd") => `(tactic| ((with_reducible refine' x_B  ?_)))
local macro_rules | `(tactic| walk_at "rd") => `(tactic| ((with_reducible refine' x_andV  ?_)))
local macro_rules | `(tactic| walk_at "rd") => `(tactic| ((with_reducible refine' x_orV  ?_)))
local macro_rules | `(tactic| walk_at "rd") => `(tactic| ((with_reducible refine' x_notV  ?_)))
local macro_rules | `(tactic| walk_at "rd") => `(tactic| ((with_reducible refine' x_and  ?_)))
local macro_rules | `(tactic| walk_at "rd") => `(tactic| ((with_reducible refine' x_or  ?_)))
local macro_rules | `(tactic| walk_at "rd") => `(tactic| ((with_reducible refine' x_not  ?_)))
local macro_rules | `(tactic| walk_at "rd") => `(tactic| ((with_reducible refine' x_if  ?_)))
local macro_rules | `(tactic| walk_at "rd") => `(tactic| ((with_reducible refine' x_sl  ?_)))
local macro_rules | `(tactic| walk_at "rd") => `(tactic| ((with_reducible refine' x_no  ?_)))
local macro_rules | `(tactic| walk_at "rd") => `(tactic| ((with_reducible refine' x_part  ?_)))
local macro_rules | `(tactic| walk_at "rd") => `(tactic| ((with_reducible refine' x_int  ?_)))
local macro_rules | `(tactic| walk_at "rd") => `(tactic| ((with_reducible refine' x_seq  ?_)))
local macro_rules | `(tactic| walk_at "rd") => `(tactic| ((with_reducible refine' x_next  ?_)))
local macro_rules | `(tactic| walk_at "rd") => `(tactic| ((with_reducible refine' x_brk  ?_)))
local macro_rules | `(tactic| walk_at "rd") => `(tactic| ((with_reducible refine' x_cont  ?_)))
local macro_rules | `(tactic| walk_at "rd") => `(tactic| ((with_reducible refine' x_drop  ?_)))
local macro_rules | `(tactic| walk_at "rd") => `(tactic| ((with_reducible refine' x_ret  ?_)))
local macro_rules | `(tactic| walk_at "rd") => `(tactic| ((with_reducible refine' x_retN  ?_)))
local macro_rules | `(tactic| walk_at "rd") => `(tactic| ((with_reducible refine' x_asg  ?_)))
local macro_rules | `(tactic| walk_at "rd") => `(tactic| ((with_reducible refine' x_gnil  ?_)))
local macro_rules | `(tactic| walk_at "rd") => `(tactic| ((with_reducible refine' x_gcons  ?_)))
local macro_rules | `(tactic| walk_at "rd") => `(tactic| ((with_reducible refine' x_gsub  ?_)))
local macro_rules | `(tactic| walk_at "rd") => `(tactic| ((with_reducible refine' x_par  ?_)))
local macro_rules | `(tactic| walk_at "rd") => `(tactic| ((with_reducible refine' x_ifS  ?_)))
local macro_rules | `(tactic| walk_at "rd") => `(tactic| ((with_reducible refine' x_ipI  ?_)))
local macro_rules | `(tactic| walk_at "rd") => `(tactic| ((with_reducible refine' x_augS  ?_)))
local macro_rules | `(tactic| walk_at "rd") => `(tactic| ((with_reducible refine' x_abs  ?_)))
local macro_rules | `(tactic| walk_at "rd") => `(tactic| ((with_reducible refine' x_toI  ?_)))
local macro_rules | `(tactic| walk_at "rd") => `(tactic| ((with_reducible refine' x_toIb  ?_)))
local macro_rules | `(tactic| walk_at "rd") => `(tactic| ((with_reducible refine' x_min2  ?_)))
local macro_rules | `(tactic| walk_at "rd") => `(tactic| ((with_reducible refine' x_bm  ?_)))
local macro_rules | `(tactic| walk_at "rd") => `(tactic| ((with_reducible refine' x_bm0  ?_)))
local macro_rules | `(tactic| walk_at "rd") => `(tactic| ((with_reducible refine' x_bmF  ?_)))
local macro_rules | `(tactic| walk_at "rd") => `(tactic| ((with_reducible refine' x_lrg  ?_)))
local macro_rules | `(tactic| walk_at "rd") => `(tactic| ((with_reducible refine' x_yes  ?_)))
local macro_rules | `(tactic| walk_at "rd") => `(tactic| ((with_reducible refine' x_rg1  ?_)))
local macro_rules | `(tactic| walk_at "rd") => `(tactic| ((with_reducible refine' x_for  ?_)))
local macro_rules | `(tactic| walk_at "rd") => `(tactic| ((with_reducible refine' x_lc  ?_)))
local macro_rules | `(tactic| walk_at "rd") => `(tactic| ((with_reducible refine' x_iL  ?_)))
local macro_rules | `(tactic| walk_at "rd") => `(tactic| ((with_reducible refine' x_iT  ?_)))
local macro_rules | `(tactic| walk_at "rd") => `(tactic| ((with_reducible refine' x_iR1  ?_)))
local macro_rules | `(tactic| walk_at "rd") => `(tactic| ((with_reducible refine' x_iR2  ?_)))
local macro_rules | `(tactic| walk_at "rd") => `(tactic| ((with_reducible refine' x_iE  ?_)))
local macro_rules | `(tactic| walk_at "rd") => `(tactic| ((with_reducible refine' x_iET  ?_)))
local macro_rules | `(tactic| walk_at "rd") => `(tactic| ((with_reducible refine' x_name  ?_); try simp only [List.set_cons_zero, List.set_cons_succ]))
local macro_rules | `(tactic| walk_at "rd") => `(tactic| ((with_reducible refine' x_new ?s0 ?_); (case s0 => walk_at "sz"); intro _ _))
local macro_rules | `(tactic| walk_at "rd") => `(tactic| ((with_reducible refine' x_newF ?s0 ?_); (case s0 => walk_at "sz"); intro _ _ _ _ _))
local macro_rules | `(tactic| walk_at "rd") => `(tactic| ((with_reducible refine' x_iteT  ?_)))
local macro_rules | `(tactic| walk_at "rd") => `(tactic| ((with_reducible refine' x_iteF  ?_)))
local macro_rules | `(tactic| walk_at "rd") => `(tactic| ((with_reducible refine' x_neNil ?s0 ?s1 ?_); (case s0 => walk_at "lkL"); (case s1 => walk_at "lkL")))
local macro_rules | `(tactic| walk_at "rd") => `(tactic| ((with_reducible refine' x_two  ?_); try simp only [List.set_cons_zero, List.set_cons_succ]))
local macro_rules | `(tactic| walk_at "rd") => `(tactic| ((with_reducible refine' x_getL ?s0 ?s1 ?_); (case s0 => walk_at "lkL"); (case s1 => walk_at "at")))
local macro_rules | `(tactic| walk_at "rd") => `(tactic| ((with_reducible refine' x_var ?s0 ?_); (case s0 => exact rfl)))
local macro_rules | `(tactic| walk_at "rd") => `(tactic| ((with_reducible refine' x_eq ?s0 ?_); (case s0 => exact rfl)))
local macro_rules | `(tactic| walk_at "rd") => `(tactic| ((with_reducible refine' x_ne ?s0 ?_); (case s0 => exact rfl)))
local macro_rules | `(tactic| walk_at "rd") => `(tactic| ((with_reducible refine' x_I ?s0 ?_); (case s0 => walk_at "side")))
local macro_rules | `(tactic| walk_at "rd") => `(tactic| ((with_reducible refine' x_ixL ?s0 ?s1 ?_); (case s0 => walk_at "lkL"); (case s1 => walk_at "at")))
local macro_rules | `(tactic| walk_at "rd") => `(tactic| ((with_reducible refine' x_ixT ?s0 ?s1 ?_); (case s0 => walk_at "lkT"); (case s1 => walk_at "at")))
local macro_rules | `(tactic| walk_at "rd") => `(tactic| ((with_reducible refine' x_slL ?s0 ?_); (case s0 => walk_at "lkL")))
local macro_rules | `(tactic| walk_at "rd") => `(tactic| ((with_reducible refine' x_gtup ?s0 ?s1 ?_); (case s0 => walk_at "lkT"); (case s1 => exact rfl)))
local macro_rules | `(tactic| walk_at "rd") => `(tactic| ((with_reducible refine' x_setL ?s0 ?s1 ?_); (case s0 => walk_at "lk"); (case s1 => walk_at "at"); try simp only [Int.reduceToNat, List.set]))
local macro_rules | `(tactic| walk_at "rd") => `(tactic| ((with_reducible refine' x_aug ?s0 ?_); (case s0 => exact rfl)))
local macro_rules | `(tactic| walk_at "rd") => `(tactic| ((with_reducible refine' x_lenS ?s0 ?_); (case s0 => walk_at "lkL")))
local macro_rules | `(tactic| walk_at "rd") => `(tactic| ((with_reducible refine' x_lenT ?s0 ?_); (case s0 => walk_at "lkT")))
local macro_rules | `(tactic| walk_at "rd") => `(tactic| ((with_reducible refine' x_tupS ?s0 ?_); (case s0 => walk_at "lkL")))
local macro_rules | `(tactic| walk_at "rd") => `(tactic| ((with_reducible refine' x_tupF1 ?s0 ?_); (case s0 => walk_at "lkL")))
local macro_rules | `(tactic| walk_at "rd") => `(tactic| ((with_reducible refine' x_insert ?s0 ?s1 ?s2 ?s3 ?_); (case s0 => walk_at "lk"); (case s1 => walk_at "side"); (case s2 => walk_at "side"); (case s3 => walk_at "side")))
local macro_rules | `(tactic| walk_at "rd") => `(tactic| ((with_reducible refine' x_append ?s0 ?s1 ?_); (case s0 => walk_at "lk"); (case s1 => walk_at "side")))
local macro_rules | `(tactic| walk_at "rd") => `(tactic| ((with_reducible refine' x_reverse ?s0 ?_); (case s0 => walk_at "lk")))
local macro_rules | `(tactic| walk_at "rd") => `(tactic| ((with_reducible refine' x_dc  ?_)))
local macro_rules | `(tactic| walk_at "rd") => `(tactic| ((with_reducible refine' x_while  ?_)))
local macro_rules | `(tactic| walk_at "rd") => `(tactic| ((with_reducible refine' x_din  ?_)))
local macro_rules | `(tactic| walk_at "rd") => `(tactic| ((with_reducible refine' x_dnotin  ?_)))
local macro_rules | `(tactic| walk_at "rd") => `(tactic| ((with_reducible refine' x_dput  ?_)))
local macro_rules | `(tactic| walk_at "rd") => `(tactic| ((with_reducible refine' x_dget  ?_)))
local macro_rules | `(tactic| walk_at "rd") => `(tactic| ((with_reducible refine' x_pop ?s0 ?s1 ?_); (case s0 => walk_at "lk"); (case s1 => walk_at "at")))
local macro_rules | `(tactic| walk_at "rd") => `(tactic| ((with_reducible refine' x_dgI ?s0 ?_); (case s0 => walk_at "lk")))
local macro_rules | `(tactic| walk_at "rd") => `(tactic| ((with_reducible refine' x_dpI ?s0 ?s1 ?_); (case s0 => walk_at "lk"); (case s1 => walk_at "side")))
local macro_rules | `(tactic| walk_at "rd") => `(tactic| ((with_reducible refine' x_listD ?s0 ?_); (case s0 => walk_at "lk"); intro _ _))
local macro_rules | `(tactic| walk_at "rd") => `(tactic| ((with_reducible refine' x_truthL ?s0 ?_); (case s0 => walk_at "lkL")))
local macro_rules | `(tactic| walk_at "rd") => `(tactic| ((with_reducible refine' x_inL ?s0 ?s1 ?s2 ?_); (case s0 => walk_at "lkL"); (case s1 => exact rfl); (case s2 => first | assumption | exact flat_ints _)))
local macro_rules | `(tactic| walk_at "rd") => `(tactic| ((with_reducible refine' x_notInL ?s0 ?s1 ?s2 ?_); (case s0 => walk_at "lkL"); (case s1 => exact rfl); (case s2 => first | assumption | exact flat_ints _)))
local macro_rules | `(tactic| walk_at "rd") => `(tactic| ((with_reducible refine' x_kw  ?_)))
local macro_rules | `(tactic| walk_at "rd") => `(tactic| ((with_reducible refine' x_ckw  ?_)))
local macro_rules | `(tactic| walk_at "rd") => `(tactic| ((with_reducible refine' x_iR3  ?_)))
local macro_rules | `(tactic| walk_at "rd") => `(tactic| ((with_reducible refine' x_par3  ?_); try simp only [List.set_cons_zero, List.set_cons_succ]))
local macro_rules | `(tactic| walk_at "rd") => `(tactic| ((with_reducible refine' x_three  ?_); try simp only [List.set_cons_zero, List.set_cons_succ]))
local macro_rules | `(tactic| walk_at "rd") => `(tactic| ((with_reducible refine' x_orT  ?_)))
local macro_rules | `(tactic| walk_at "rd") => `(tactic| ((with_reducible refine' x_truN  ?_)))
local macro_rules | `(tactic| walk_at "rd") => `(tactic| ((with_reducible refine' x_truT ?s0 ?_); (case s0 => walk_at "lkT")))
local macro_rules | `(tactic| walk_at "rd") => `(tactic| ((with_reducible refine' x_glst ?s0 ?s1 ?_); (case s0 => walk_at "lkL"); (case s1 => exact rfl)))
local macro_rules | `(tactic| walk_at "rd") => `(tactic| ((with_reducible refine' x_chain  ?_)))
local macro_rules | `(tactic| walk_at "rd") => `(tactic| ((with_reducible refine' x_isiII  ?_)))
local macro_rules | `(tactic| walk_at "rd") => `(tactic| ((with_reducible refine' x_isiIB  ?_)))
local macro_rules | `(tactic| walk_at "rd") => `(tactic| ((with_reducible refine' x_revL  ?_)))
local macro_rules | `(tactic| walk_at "rd") => `(tactic| ((with_reducible refine' x_kwx  ?_)))
local macro_rules | `(tactic| walk_at "rd") => `(tactic| ((with_reducible refine' x_rg2  ?_)))
local macro_rules | `(tactic| walk_at "rd") => `(tactic| ((with_reducible refine' x_int2  ?_)))
local macro_rules | `(tactic| walk_at "rd") => `(tactic| ((with_reducible refine' x_dget2  ?_)))
def topS (i : Nat) : Stmt := PySem.Challenge.pw_slotfall_k07_reach_certificates.main.body.getD i (.Pass ⟨0, 0, 0, 0⟩)
abbrev sInvalidCertificateInit : Stmt := inClass (topS 3) 0
theorem scInvalidCertificateInit : FnScope ["self", "reason", "index"] ["self", "reason", "index"] (defScope sInvalidCertificateInit) := ⟨rfl, rfl, rfl, by decide +kernel, rfl, by decide +kernel, by decide +kernel⟩
abbrev sNoNodeInit : Stmt := inClass (topS 4) 0
theorem scNoNodeInit : FnScope ["self", "node"] ["self", "node"] (defScope sNoNodeInit) := ⟨rfl, rfl, rfl, by decide +kernel, rfl, by decide +kernel, by decide +kernel⟩
abbrev sNoReferenceInit : Stmt := inClass (topS 5) 0
theorem scNoReferenceInit : FnScope ["self", "node"] ["self", "node"] (defScope sNoReferenceInit) := ⟨rfl, rfl, rfl, by decide +kernel, rfl, by decide +kernel, by decide +kernel⟩
abbrev sNoSlotInit : Stmt := inClass (topS 6) 0
theorem scNoSlotInit : FnScope ["self", "slot"] ["self", "slot"] (defScope sNoSlotInit) := ⟨rfl, rfl, rfl, by decide +kernel, rfl, by decide +kernel, by decide +kernel⟩
abbrev sNotFreedInit : Stmt := inClass (topS 7) 0
theorem scNotFreedInit : FnScope ["self", "node"] ["self", "node"] (defScope sNotFreedInit) := ⟨rfl, rfl, rfl, by decide +kernel, rfl, by decide +kernel, by decide +kernel⟩
abbrev sNoPositionInit : Stmt := inClass (topS 8) 0
theorem scNoPositionInit : FnScope ["self", "position"] ["self", "position"] (defScope sNoPositionInit) := ⟨rfl, rfl, rfl, by decide +kernel, rfl, by decide +kernel, by decide +kernel⟩
abbrev sUndoErrorInit : Stmt := inClass (topS 9) 0
theorem scUndoErrorInit : FnScope ["self", "count"] ["self", "count"] (defScope sUndoErrorInit) := ⟨rfl, rfl, rfl, by decide +kernel, rfl, by decide +kernel, by decide +kernel⟩
abbrev sIsInteger : Stmt := topS 11
theorem scIsInteger : FnScope ["value"] ["value"] (defScope sIsInteger) := ⟨rfl, rfl, rfl, by decide +kernel, rfl, by decide +kernel, by decide +kernel⟩
abbrev sIsBetween : Stmt := topS 12
theorem scIsBetween : FnScope ["value", "low", "high"] ["value", "low", "high"] (defScope sIsBetween) := ⟨rfl, rfl, rfl, by decide +kernel, rfl, by decide +kernel, by decide +kernel⟩
abbrev sIsPair : Stmt := topS 13
theorem scIsPair : FnScope ["value"] ["value"] (defScope sIsPair) := ⟨rfl, rfl, rfl, by decide +kernel, rfl, by decide +kernel, by decide +kernel⟩
abbrev sIsLabelled : Stmt := topS 14
theorem scIsLabelled : FnScope ["value", "labels"] ["value", "labels"] (defScope sIsLabelled) := ⟨rfl, rfl, rfl, by decide +kernel, rfl, by decide +kernel, by decide +kernel⟩
abbrev sIsLive : Stmt := topS 16
theorem scIsLive : FnScope ["heap", "value", "slots"] ["heap", "value"] (defScope sIsLive) := ⟨rfl, rfl, rfl, by decide +kernel, rfl, by decide +kernel, by decide +kernel⟩
abbrev sNeedLive : Stmt := topS 17
theorem scNeedLive : FnScope ["heap", "node"] ["heap", "node"] (defScope sNeedLive) := ⟨rfl, rfl, rfl, by decide +kernel, rfl, by decide +kernel, by decide +kernel⟩
abbrev sLiveNodes : Stmt := topS 19
theorem scLiveNodes : FnScope ["heap", "node", "row"] ["heap"] (defScope sLiveNodes) := ⟨rfl, rfl, rfl, by decide +kernel, rfl, by decide +kernel, by decide +kernel⟩
abbrev sHolders : Stmt := topS 20
theorem scHolders : FnScope ["heap", "node", "holder", "slot", "held"] ["heap", "node"] (defScope sHolders) := ⟨rfl, rfl, rfl, by decide +kernel, rfl, by decide +kernel, by decide +kernel⟩
abbrev sReachCertificate : Stmt := topS 22
theorem scReachCertificate : FnScope ["heap", "node", "sources", "other"] ["heap", "node"] (defScope sReachCertificate) := ⟨rfl, rfl, rfl, by decide +kernel, rfl, by decide +kernel, by decide +kernel⟩
abbrev sHeldFrom : Stmt := topS 23
theorem scHeldFrom : FnScope ["heap", "starts", "sources", "pending", "holder", "held", "node"] ["heap", "starts"] (defScope sHeldFrom) := ⟨rfl, rfl, rfl, by decide +kernel, rfl, by decide +kernel, by decide +kernel⟩
abbrev sSources : Stmt := topS 24
theorem scSources : FnScope ["heap", "node"] ["heap"] (defScope sSources) := ⟨rfl, rfl, rfl, by decide +kernel, rfl, by decide +kernel, by decide +kernel⟩
abbrev sPathTo : Stmt := topS 25
theorem scPathTo : FnScope ["node", "sources", "path"] ["node", "sources"] (defScope sPathTo) := ⟨rfl, rfl, rfl, by decide +kernel, rfl, by decide +kernel, by decide +kernel⟩
abbrev sCheckReach : Stmt := topS 27
theorem scCheckReach : FnScope ["heap", "node", "value", "label", "entries"] ["heap", "node", "value"] (defScope sCheckReach) := ⟨rfl, rfl, rfl, by decide +kernel, rfl, by decide +kernel, by decide +kernel⟩
abbrev sCheckPath : Stmt := topS 28
theorem scCheckPath : FnScope ["heap", "node", "path", "slots", "outside", "index", "entry"] ["heap", "node", "path"] (defScope sCheckPath) := ⟨rfl, rfl, rfl, by decide +kernel, rfl, by decide +kernel, by decide +kernel⟩
abbrev sCheckAscending : Stmt := topS 29
theorem scCheckAscending : FnScope ["heap", "entries", "index", "entry"] ["heap", "entries"] (defScope sCheckAscending) := ⟨rfl, rfl, rfl, by decide +kernel, rfl, by decide +kernel, by decide +kernel⟩
abbrev sCheckClosed : Stmt := topS 30
theorem scCheckClosed : FnScope ["heap", "entries", "index", "entry", "holder", "_"] ["heap", "entries"] (defScope sCheckClosed) := ⟨rfl, rfl, rfl, by decide +kernel, rfl, by decide +kernel, by decide +kernel⟩
abbrev sQPen : Stmt := topS 32
theorem scQPen : FnScope ["_law_script"] ["_law_script"] (defScope sQPen) := ⟨rfl, rfl, rfl, by decide +kernel, rfl, by decide +kernel, by decide +kernel⟩
abbrev sQDraw : Stmt := topS 33
theorem scQDraw : FnScope ["_law_pen_here", "_law_most_one", "_law_digit", "_law_place", "_law_cell", "_law_whole", "_law_mixed"] ["_law_pen_here", "_law_most_one"] (defScope sQDraw) := ⟨rfl, rfl, rfl, by decide +kernel, rfl, by decide +kernel, by decide +kernel⟩
abbrev sQShuffled : Stmt := topS 34
theorem scQShuffled : FnScope ["_law_pen_here", "_law_row", "_law_result", "_law_entry"] ["_law_pen_here", "_law_row"] (defScope sQShuffled) := ⟨rfl, rfl, rfl, by decide +kernel, rfl, by decide +kernel, by decide +kernel⟩
abbrev sQLinked : Stmt := topS 35
theorem scQLinked : FnScope ["_law_pen_here", "_law_labels", "_law_alive", "_law_rows", "_law_way", "_law_place", "_law_near", "_law_back", "_law_row", "_law_forward", "_law_turn", "_law_one", "_law_other", "_law_entry", "_law_label"] ["_law_pen_here", "_law_labels", "_law_alive"] (defScope sQLinked) := ⟨rfl, rfl, rfl, by decide +kernel, rfl, by decide +kernel, by decide +kernel⟩
abbrev sQBase : Stmt := topS 36
theorem scQBase : FnScope ["_law_pen_here", "_law_alive", "_law_spare", "_law_labels", "_law_rows", "_law_label", "_law_handles", "_law_turn", "_law_row"] ["_law_pen_here"] (defScope sQBase) := ⟨rfl, rfl, rfl, by decide +kernel, rfl, by decide +kernel, by decide +kernel⟩
abbrev sQLoose : Stmt := topS 37
theorem scQLoose : FnScope ["_law_pen_here", "_law_base_here", "_law_rows", "_law_handles", "_law_alive", "_law_turn", "_law_one", "_law_other", "_law_spot", "_law_row"] ["_law_pen_here", "_law_base_here"] (defScope sQLoose) := ⟨rfl, rfl, rfl, by decide +kernel, rfl, by decide +kernel, by decide +kernel⟩
abbrev sQReached : Stmt := topS 38
theorem scQReached : FnScope ["_law_base_here", "_law_rows", "_law_handles", "_law_found", "_law_at", "_law_entry", "_law_spot", "_law_number"] ["_law_base_here"] (defScope sQReached) := ⟨rfl, rfl, rfl, by decide +kernel, rfl, by decide +kernel, by decide +kernel⟩
abbrev sQOdd : Stmt := topS 39
theorem scQOdd : FnScope ["_law_pen_here", "_law_size"] ["_law_pen_here", "_law_size"] (defScope sQOdd) := ⟨rfl, rfl, rfl, by decide +kernel, rfl, by decide +kernel, by decide +kernel⟩
abbrev sQMissing : Stmt := topS 40
theorem scQMissing : FnScope ["_law_call", "_law_caught", "error", "_law_marks", "_law_others"] ["_law_call"] (defScope sQMissing) := ⟨rfl, rfl, rfl, by decide +kernel, rfl, by decide +kernel, by decide +kernel⟩
abbrev sQIsNode : Stmt := topS 41
theorem scQIsNode : FnScope ["_law_base_here", "_law_thing"] ["_law_base_here", "_law_thing"] (defScope sQIsNode) := ⟨rfl, rfl, rfl, by decide +kernel, rfl, by decide +kernel, by decide +kernel⟩
abbrev sQPathFault : Stmt := topS 42
theorem scQPathFault : FnScope ["_law_base_here", "_law_spot", "_law_path", "_law_place", "_law_entry"] ["_law_base_here", "_law_spot", "_law_path"] (defScope sQPathFault) := ⟨rfl, rfl, rfl, by decide +kernel, rfl, by decide +kernel, by decide +kernel⟩
abbrev sQClosedFault : Stmt := topS 43
theorem scQClosedFault : FnScope ["_law_base_here", "_law_spot", "_law_some", "_law_place", "_law_entry", "_law_holder", "_law_row"] ["_law_base_here", "_law_spot", "_law_some"] (defScope sQClosedFault) := ⟨rfl, rfl, rfl, by decide +kernel, rfl, by decide +kernel, by decide +kernel⟩
abbrev sQCertified : Stmt := topS 44
theorem scQCertified : FnScope ["_law_base_here", "_law_spot", "_law_reached_here", "_law_told", "_law_fault"] ["_law_base_here", "_law_spot", "_law_reached_here"] (defScope sQCertified) := ⟨rfl, rfl, rfl, by decide +kernel, rfl, by decide +kernel, by decide +kernel⟩
abbrev sLaw : Stmt := topS 45
theorem scLaw : FnScope ["_law_script", "_law_pen_here", "_law_turn", "_law_before", "_law_found", "_law_spot", "_law_alive", "_law_change", "_law_due", "_law_base_here", "_law_odd_here", "_law_some", "_law_row", "_law_time"] ["_law_script"] (defScope sLaw) := ⟨rfl, rfl, rfl, by decide +kernel, rfl, by decide +kernel, by decide +kernel⟩

theorem boot'_LookupError : bootBuiltins "LookupError" = some (.type "LookupError") := by decide +kernel
structure Txt (mg : Str → Option Value) : Prop where
  b_len : mg "len" = none
  b_LookupError : mg "LookupError" = none
  b_abs : mg "abs" = none
  b_int : mg "int" = none
  b_bool : mg "bool" = none
  b_list : mg "list" = none
  b_tuple : mg "tuple" = none
  b_min : mg "min" = none
  b_max : mg "max" = none
  b_sum : mg "sum" = none
  b_any : mg "any" = none
  b_all : mg "all" = none
  b_repr : mg "repr" = none
  b_sorted : mg "sorted" = none
  b_isinstance : mg "isinstance" = none
  b_range : mg "range" = none
  b_enumerate : mg "enumerate" = none

/-- the pen at p over the cells at c: at most n cells drawn -/
def PenAt (H : Hp) (p c : Addr) (n : Nat) : Prop := ∃ (cs : List Int) (pl r : Int), H p = some (.lst [.ref c, .int pl, .int r]) ∧ H c = some (.lst (cs.map V.int)) ∧ cs.length ≤ 63 ∧ 0 ≤ pl ∧ pl ≤ n ∧ 0 ≤ r
theorem PenAt.ne {H : Hp} {p c : Addr} {n : Nat} (h : PenAt H p c n) : c ≠ p := by
  obtain ⟨cs, pl, r, h1, h2, _⟩ := h
  rintro rfl
  rw [h1] at h2
  have e := HO.lst.inj (Option.some.inj h2)
  cases cs with
  | nil => cases e
  | cons z t => cases (List.cons.inj e).1
def spDraw : Sp := fun vs H Q _ => ∃ (p c : Addr) (n : Nat) (m : Int), vs = [.ref p, .int m] ∧ PenAt H p c n ∧ n < 1000000 ∧ 0 < m ∧ m < 100000000 ∧
  ∀ d H', 0 ≤ d → d < m → Kx [p] H H' → PenAt H' p c (n + 1) → Q (.int d) H'
theorem at_mod {cs : List Int} (i : Int) (h : ¬ (!cs.isEmpty) = false) : (0 : Int) < (cs.map V.int).length ∧ ∃ z, atI (cs.map V.int) (i % ((cs.map V.int).length : Int)) = some (.int z) := by
  have hl : 0 < cs.length := by
    cases cs with
    | nil => exact absurd rfl h
    | cons z t => exact Nat.succ_pos _
  have h0 : (0 : Int) < (cs.map V.int).length := by
    rw [List.length_map]
    omega
  refine ⟨h0, ?_⟩
  have h1 := Int.emod_nonneg i (Int.ne_of_gt h0)
  have h2 := Int.emod_lt_of_pos i h0
  generalize i % ((cs.map V.int).length : Int) = k at h1 h2
  rw [List.length_map] at h2
  obtain ⟨j, rfl⟩ : ∃ j : Nat, k = j := ⟨k.toNat, by omega⟩
  have hj : j < cs.length := by omega
  exact ⟨cs[j], atI_nat (by rw [List.getElem?_map, List.getElem?_eq_getElem hj]; rfl)⟩
theorem draw_bound {a pl : Int} (h0 : 0 ≤ a) (h1 : a < 2147483647) (h2 : 0 ≤ pl) (h3 : pl ≤ 1000000) : (a * (2 * pl + 13) + 90007 * pl * pl).natAbs < 2 ^ 64 := by
  have e1 : 0 ≤ a * (2 * pl + 13) := Int.mul_nonneg h0 (by omega)
  have e2 : a * (2 * pl + 13) ≤ 2147483647 * 2000013 := Int.mul_le_mul (by omega) (by omega) (by omega) (by decide)
  have e3 : 0 ≤ 90007 * pl * pl := Int.mul_nonneg (by omega) h2
  have e4 : 90007 * pl * pl ≤ 90007 * 1000000 * 1000000 := Int.mul_le_mul (by omega) (by omega) (by omega) (by decide)
  generalize a * (2 * pl + 13) = x at e1 e2
  generalize 90007 * pl * pl = y at e3 e4
  omega
section Xtra
local macro_rules | `(tactic| walk_at "side") => `(tactic| exact ⟨by decide, by decide, draw_bound (Int.emod_nonneg _ (by decide)) (Int.emod_lt_of_pos _ (by decide)) (by assumption) (by omega)⟩)
section
variable {P : Program} {w : World} {K : PySem.W.Frag} {mg : Str → Option Value} {base : Heap}
theorem ok_draw {f : Addr} {fd : FuncData} (F : Fun K "_law_draw" "_law_draw" sQDraw f fd) (T : Txt mg) : FnOk P w K mg base CX0 1 f fd ["_law_pen_here", "_law_most_one"] spDraw := by
  refine F.ok scQDraw (fun vs H Q E h => ?_) (fun cdv A outer s H vs Q E hr h => ?_)
  · obtain ⟨p, c, n, m, rfl, _⟩ := h
    rfl
  · obtain ⟨p, c, n, m, rfl, hpen, hn, hm0, hm1, k⟩ := h
    have ncp := hpen.ne
    obtain ⟨cs, pl, r, hp, hcs, hl, h0, h1, h2⟩ := hpen
    refine ⟨_, (pss_cons (ps_if (pt_cmpR op_gt (pe_ix ix_list (pv 0) pe_int (fun _ _ => rfl)) pe_int (nomark _)) (pss_cons (ps_set (i := 2) scQDraw.nd rfl (Or.inl rfl) (pe_op op_mod (pe_ix ix_list (pv 0) pe_int (fun _ _ => rfl)) (pv 1)))
      (pss_cons (ps_asg (pe_op op_fdiv (pe_ix ix_list (pv 0) pe_int (fun _ _ => rfl)) (pv 1)) (pg_sub (pv 0) pe_int set_list))
      (pss_one (ps_ret (pv 2))))) pss_nil)
      (pss_cons (ps_set (i := 3) scQDraw.nd rfl (Or.inl rfl) (pe_ix ix_list (pv 0) pe_int (fun _ _ => rfl)))
      (pss_cons (ps_asg (pe_op op_add (pv 3) pe_int) (pg_sub (pv 0) pe_int set_list))
      (pss_cons (ps_set (i := 4) scQDraw.nd rfl (Or.inl rfl) (pe_op op_add (pe_op op_mul pe_int (pv 3)) pe_int))
      (pss_cons (ps_if (pt_cmpR (op_neD hr.units) (pe_ix ix_list (pv 0) pe_int (fun _ _ => rfl)) (pe_lst pa_nil) (nomark _)) (pss_one (ps_set (i := 4) scQDraw.nd rfl (Or.inl rfl) (pe_ix ix_list (pe_ix ix_list (pv 0) pe_int (fun _ _ => rfl)) (pe_op op_mod (pv 3) (pe_callB call_len_seq (by rfl) T.b_len boot'_len (pa_cons (pe_ix ix_list (pv 0) pe_int (fun _ _ => rfl)) pa_nil))) (fun _ _ => rfl)))) pss_nil)
      (pss_cons (ps_if ((pw_and (pt_cmpR op_lt (pv 3) (pe_callB call_len_seq (by rfl) T.b_len boot'_len (pa_cons (pe_ix ix_list (pv 0) pe_int (fun _ _ => rfl)) pa_nil)) (nomark _)) (pw_and1 (pt_cmpR op_ge (pe_callB call_abs (by rfl) T.b_abs boot'_abs (pa_cons (pv 4) pa_nil)) (pe_op op_pow pe_int pe_int) (nomark _))))).pt (pss_cons (ps_set (i := 5) scQDraw.nd rfl (Or.inl rfl) (pe_op op_add (pe_op op_mul pe_int (pe_callB call_abs (by rfl) T.b_abs boot'_abs (pa_cons (pv 4) pa_nil))) (pe_callTy call_int1 (by rfl) T.b_int boot'_int (pa_cons (pe_cmpR op_lt (pv 4) pe_int (nomark _)) pa_nil))))
      (pss_cons (ps_asg (pe_op op_fdiv (pv 5) (pv 1)) (pg_sub (pv 0) pe_int set_list))
      (pss_one (ps_ret (pe_op op_mod (pv 5) (pv 1)))))) pss_nil)
      (pss_cons (ps_set (i := 6) scQDraw.nd rfl (Or.inl rfl) (pe_op op_mod (pe_op op_pow (pe_op op_add (pe_op op_add (pe_op op_mod (pv 4) pe_int) (pe_op op_mul pe_int (pv 3))) pe_int) pe_int) pe_int))
      (pss_cons (ps_set (i := 6) scQDraw.nd rfl (Or.inl rfl) (pe_op op_mod (pe_op op_pow (pe_op op_add (pe_op op_mul (pv 6) (pe_op op_add (pe_op op_mul pe_int (pv 3)) pe_int)) (pe_op op_mul (pe_op op_mul pe_int (pv 3)) (pv 3))) pe_int) pe_int))
      (pss_one (ps_ret (pe_op op_mod (pe_op op_fdiv (pv 6) pe_int) (pv 1)))))))))))), ?_⟩
    refine x_start (σ' := [some (.ref p), some (.int m), none, none, none, none, none]) rfl ?_
    dsimp only [cxOf]
    have fin : ∀ d H1 pl' r', 0 ≤ d → d < m → Kx [p] H H1 → H1 p = some (.lst [.ref c, .int pl', .int r']) → 0 ≤ pl' → pl' ≤ pl + 1 → 0 ≤ r' → Q (.int d) H1 := by
      intro d H1 pl' r' a1 a2 a3 a4 a5 a6 a7
      exact k d H1 a1 a2 a3 ⟨cs, pl', r', a4, a3 c _ (by simpa using ncp) hcs, hl, a5, by omega, a7⟩
    have kx : ∀ o, Kx [p] H (upd H p o) := fun o => (Kx.refl _ _).wr (.inr (by simp))
    repeat walk_at "rd"
    refine ite2 (fun hc => ?_) (fun hc => ?_)
    · repeat walk_at "rd"
      exact fin _ _ pl (r / m) (Int.emod_nonneg _ (by omega)) (Int.emod_lt_of_pos _ hm0) (kx _) upd_same h0 (by omega) (Int.ediv_nonneg h2 (by omega))
    · repeat walk_at "rd"
      generalize hH1 : upd H p (.lst [.ref c, .int (pl + 1), .int r]) = H1
      rename_i q nq
      rw [hH1] at nq
      have p1 : H1 p = some (.lst [.ref c, .int (pl + 1), .int r]) := by rw [← hH1]; exact upd_same
      have k1 : Kx [p] H H1 := by rw [← hH1]; exact kx _
      generalize hH2 : upd H1 q (.lst []) = H2
      have p2 : H2 p = some (.lst [.ref c, .int (pl + 1), .int r]) := by rw [← hH2]; exact lk_ne p1 nq
      have c2 : H2 c = some (.lst (cs.map V.int)) := by rw [← hH2]; exact lk_ne (k1 c _ (by simpa using ncp) hcs) nq
      have q2 : H2 q = some (.lst []) := by rw [← hH2]; exact upd_same
      have k2 : Kx [p] H H2 := by rw [← hH2]; exact k1.new nq
      repeat walk_at "rd"
      refine ite2 (fun hc2 => ?_) (fun hc2 => ?_)
      · obtain ⟨hz0, z, hz⟩ := at_mod (cs := cs) pl (by simpa using hc2)
        repeat walk_at "rd"
        refine ite2 (fun hc3 => ?_) (fun hc3 => ?_)
        · repeat walk_at "rd"
          refine ite2 (fun hc4 => ?_) (fun hc4 => ?_)
          · repeat walk_at "rd"
            refine fin _ _ (pl + 1) _ (Int.emod_nonneg _ (by omega)) (Int.emod_lt_of_pos _ hm0) (k2.wr (.inr (by simp))) upd_same (by omega) (by omega) (Int.ediv_nonneg ?_ (by omega))
            split <;> split <;> omega
          · repeat walk_at "rd"
            exact fin _ _ (pl + 1) r (Int.emod_nonneg _ (by omega)) (Int.emod_lt_of_pos _ hm0) k2 p2 (by omega) (by omega) h2
        · repeat walk_at "rd"
          exact fin _ _ (pl + 1) r (Int.emod_nonneg _ (by omega)) (Int.emod_lt_of_pos _ hm0) k2 p2 (by omega) (by omega) h2
      · repeat walk_at "rd"
        refine ite2 (fun hc3 => ?_) (fun hc3 => ?_)
        · repeat walk_at "rd"
          refine ite2 (fun hc4 => ?_) (fun hc4 => ?_)
          · repeat walk_at "rd"
            refine fin _ _ (pl + 1) _ (Int.emod_nonneg _ (by omega)) (Int.emod_lt_of_pos _ hm0) (k2.wr (.inr (by simp))) upd_same (by omega) (by omega) (Int.ediv_nonneg ?_ (by omega))
            split <;> split <;> omega
          · repeat walk_at "rd"
            exact fin _ _ (pl + 1) r (Int.emod_nonneg _ (by omega)) (Int.emod_lt_of_pos _ hm0) k2 p2 (by omega) (by omega) h2
        · repeat walk_at "rd"
          exact fin _ _ (pl + 1) r (Int.emod_nonneg _ (by omega)) (Int.emod_lt_of_pos _ hm0) k2 p2 (by omega) (by omega) h2
end

end Xtra

section
variable {P : Program} {w : World} {K : PySem.W.Frag} {mg : Str → Option Value} {base : Heap}
def spPen (K : PySem.W.Frag) : Sp := fun vs H Q _ => ∃ (a : Addr) (ns : List Int), vs = [.ref a] ∧ SqL K H a (ns.map V.int) ∧
  ∀ p c H', H p = none → H c = none → Kx [] H H' → PenAt H' p c 0 → Q (.ref p) H'
theorem ok_pen {f : Addr} {fd : FuncData} (F : Fun K "_law_pen" "_law_pen" sQPen f fd) (T : Txt mg) : FnOk P w K mg base CX0 1 f fd ["_law_script"] (spPen K) := by
  refine F.ok scQPen (fun vs H Q E h => ?_) (fun cdv A outer s H vs Q E hr h => ?_)
  · obtain ⟨a, ns, rfl, _⟩ := h
    rfl
  · obtain ⟨a, ns, rfl, ha, k⟩ := h
    refine ⟨_, (pss_one (ps_ret (pe_lst (pa_cons (pe_callTy call_list_of (by rfl) T.b_list boot'_list (pa_cons (pe_slice sl_list (pv 0) po_none (po_some pe_int)) pa_nil)) (pa_cons pe_int (pa_cons pe_int pa_nil)))))), ?_⟩
    refine x_start (σ' := [some (.ref a)]) rfl ?_
    dsimp only [cxOf]
    repeat walk_at "rd"
    intro t nt
    rw [cut63, ← List.map_take]
    repeat walk_at "rd"
    intro c nc
    repeat walk_at "rd"
    rename_i p np
    have ntc : t ≠ c := ne_of_none upd_same nc
    have ncp : c ≠ p := ne_of_none upd_same np
    have nc0 : H c = none := by rwa [upd_ne ntc.symm] at nc
    have np0 : H p = none := by
      have e1 := np
      rw [upd_ne ncp.symm] at e1
      exact ((Kx.refl [] H).new nt).fresh (by simp) e1
    refine k p c _ np0 nc0 ((((Kx.refl [] H).new nt).new nc).new np) ⟨ns.take 63, 0, 0, upd_same, ?_, ?_, by omega, by omega, by omega⟩
    · rw [upd_ne ncp, upd_same]
    · rw [List.length_take]
      exact Nat.min_le_left _ _
theorem x_draw {H : Hp} {p c : Addr} {n : Nat} {m : Int} {Q : VK} {E : XK} (h : PenAt H p c n) (hn : n < 1000000) (h0 : 0 < m) (h1 : m < 100000000)
    (q : ∀ d H', 0 ≤ d → d < m → Kx [p] H H' → PenAt H' p c (n + 1) → Q (.int d) H') : spDraw ([V.ref p, V.int m] ++ []) H Q E := ⟨p, c, n, m, rfl, h, hn, h0, h1, q⟩
def spShuf (K : PySem.W.Frag) : Sp := fun vs H Q _ => ∃ (p c a : Addr) (n : Nat) (xs : List V), vs = [.ref p, .ref a] ∧ PenAt H p c n ∧ SqL K H a xs ∧ a ≠ p ∧ xs.length ≤ 1000 ∧ n ≤ 900000 ∧
  ∀ l ys H', H l = none → ys.Perm xs → Kx [p] H H' → H' l = some (.lst ys) → PenAt H' p c (n + xs.length) → Q (.ref l) H'
theorem ins_perm {ys : List V} {v : V} {i : Nat} : (ys.take i ++ [v] ++ ys.drop i).Perm (ys ++ [v]) := by
  have e : (ys.take i ++ [v] ++ ys.drop i) = ys.take i ++ ([v] ++ ys.drop i) := by rw [List.append_assoc]
  rw [e]
  refine (List.Perm.append_left _ List.perm_append_comm).trans ?_
  rw [← List.append_assoc, List.take_append_drop]
theorem PenAt.up {H H' : Hp} {p c : Addr} {n m : Nat} (h : PenAt H p c n) (e1 : H' p = H p) (e2 : H' c = H c) (l : n ≤ m) : PenAt H' p c m := by
  obtain ⟨cs, pl, r, h1, h2, h3, h4, h5, h6⟩ := h
  exact ⟨cs, pl, r, e1.trans h1, e2.trans h2, h3, h4, by omega, h6⟩
theorem PenAt.keep {H H' : Hp} {S : List Addr} {p c : Addr} {n m : Nat} (h : PenAt H p c n) (k : Kx S H H') (hp : p ∉ S) (hc : c ∉ S) (l : n ≤ m) : PenAt H' p c m := by
  obtain ⟨cs, pl, r, h1, h2, h3, h4, h5, h6⟩ := h
  exact ⟨cs, pl, r, k _ _ hp h1, k _ _ hc h2, h3, h4, by omega, h6⟩
theorem PenAt.some {H : Hp} {p c : Addr} {n : Nat} (h : PenAt H p c n) : (∃ o, H p = some o) ∧ ∃ o, H c = some o := by
  obtain ⟨cs, pl, r, h1, h2, _⟩ := h
  exact ⟨⟨_, h1⟩, _, h2⟩
theorem ok_shuf {f : Addr} {fd : FuncData} (F : Fun K "_law_shuffled" "_law_shuffled" sQShuffled f fd) (T : Txt mg) (l_law_draw : Lo P w K mg base "_law_draw" 1 ["_law_pen_here", "_law_most_one"] spDraw) :
    FnOk P w K mg base CX0 2 f fd ["_law_pen_here", "_law_row"] (spShuf K) := by
  refine F.ok scQShuffled (fun vs H Q E h => ?_) (fun cdv A outer s H vs Q E hr h => ?_)
  · obtain ⟨p, c, a, n, xs, rfl, _⟩ := h
    rfl
  · obtain ⟨p, c, a, n, xs, rfl, hpen, ha, nap, hlen, hn, k⟩ := h
    refine ⟨_, (pss_cons (ps_set (i := 2) scQShuffled.nd rfl (Or.inl rfl) (pe_lst pa_nil))
      (pss_cons (ps_for PassesOwn.never rfl (pi_list (pv 1)) (pg_name (i := 3) scQShuffled.nd rfl (Or.inl rfl))
      (pss_one (ps_expr (pe_bm PySem.F.plainAttrs_list PySem.F.slot_list_insert PySem.F.type_list_insert mt_insert (pv 2) (pa_cons (pe_lo l_law_draw (hr.mono (by decide)) (by rfl) (pa_cons (pv 0) (pa_cons (pe_op op_add (pe_callB call_len_seq (by rfl) T.b_len boot'_len (pa_cons (pv 2) pa_nil)) pe_int) pa_nil))) (pa_cons (pv 3) pa_nil))))))
      (pss_one (ps_ret (pv 2))))), ?_⟩
    refine x_start (σ' := [some (.ref p), some (.ref a), none, none]) rfl ?_
    dsimp only [cxOf]
    repeat walk_at "rd"
    rename_i l nl
    obtain ⟨⟨op, hp⟩, oc, hc⟩ := hpen.some
    have nlp : l ≠ p := (ne_of_none hp nl).symm
    have nlc : l ≠ c := (ne_of_none hc nl).symm
    have k0 : Kx [p] H (upd H l (.lst [])) := (Kx.refl _ _).new nl
    refine y_forL (xs := xs) (k0.sqL (by simpa using nap) ha) ⟨fun i σ H1 => ∃ ys y3, σ = [some (.ref p), some (.ref a), some (.ref l), y3] ∧ ys.Perm (xs.take i) ∧ Kx [p] H H1 ∧ H1 l = some (.lst ys) ∧ PenAt H1 p c (n + i),
      ⟨[], none, rfl, by simp, k0, upd_same, hpen.keep ((Kx.refl [] H).new nl) (by simp) (by simp) (by omega)⟩, ?_, ?_, ?_⟩
    · rintro i σ H1 hi ⟨ys, y3, rfl, hys, k1, hl, hp1⟩
      exact k1.sqL (by simpa using nap) ha
    · rintro i x σ H1 H1' hi ⟨ys, y3, rfl, hys, k1, hl, hp1⟩ ⟨rfl, hx⟩
      have hyl : ys.length = i := by
        rw [hys.length_eq, List.length_take]
        omega
      repeat walk_at "rd"
      refine ⟨ty_list (SqL.of hl), ?_⟩
      repeat walk_at "rd"
      refine x_draw hp1 (by omega) (by omega) (by omega) fun d H2 d0 d1 k2 hp2 => ?_
      have hl2 : H2 l = some (.lst ys) := k2 l _ (by simpa using nlp) hl
      repeat walk_at "rd"
      refine ⟨_, _, rfl, ins_perm.trans ?_, (k1.trans k2).wr (.inl nl), upd_same, ?_⟩
      · rw [List.take_add_one, hx]
        exact hys.append_right _
      · exact hp2.up (upd_ne nlp.symm) (upd_ne nlc.symm) (by omega)
    · rintro σ H1 ⟨ys, y3, rfl, hys, k1, hl, hp1⟩
      repeat walk_at "rd"
      exact k l ys H1 nl (by simpa using hys) k1 hl hp1
end

section
variable {P : Program} {w : World} {K : PySem.W.Frag} {mg : Str → Option Value} {base : Heap}
/-- the rows that stand at rs, the list of them at R; all of it new since H0 -/
structure RowsI (H0 H : Hp) (R : Addr) (rs : List Addr) (rows : List (List V)) (live : List Int) (B : Nat) : Prop where
  hR : H R = some (.lst (rs.map V.ref))
  len : rows.length = rs.length
  nd : rs.Nodup
  fr : ∀ r ∈ rs, H0 r = none
  frR : H0 R = none
  nR : R ∉ rs
  at_ : ∀ (i : Nat) (r : Addr) (row : List V), rs[i]? = some r → rows[i]? = some row → H r = some (.lst row)
  good : ∀ row ∈ rows, row.length ≤ B ∧ ∀ v ∈ row, v = .non ∨ ∃ z ∈ live, v = V.int z
theorem RowsI.mono {H0 H : Hp} {R : Addr} {rs : List Addr} {rows : List (List V)} {live : List Int} {B B' : Nat} (h : RowsI H0 H R rs rows live B) (l : B ≤ B') : RowsI H0 H R rs rows live B' :=
  ⟨h.hR, h.len, h.nd, h.fr, h.frR, h.nR, h.at_, fun row hr => ⟨Nat.le_trans (h.good row hr).1 l, (h.good row hr).2⟩⟩
theorem RowsI.keep {H0 H H' : Hp} {S : List Addr} {R : Addr} {rs : List Addr} {rows : List (List V)} {live : List Int} {B : Nat} (h : RowsI H0 H R rs rows live B) (k : Kx S H H') (hS : ∀ b ∈ S, ∃ o, H0 b = some o) : RowsI H0 H' R rs rows live B := by
  have hn : ∀ b, H0 b = none → b ∉ S := fun b hb z => by
    obtain ⟨o, ho⟩ := hS b z
    rw [hb] at ho
    cases ho
  exact ⟨k _ _ (hn _ h.frR) h.hR, h.len, h.nd, h.fr, h.frR, h.nR, fun i r row h1 h2 => k _ _ (hn _ (h.fr r (List.mem_of_getElem? h1))) (h.at_ i r row h1 h2), h.good⟩
theorem RowsI.wr {H0 H : Hp} {R r : Addr} {rs : List Addr} {rows : List (List V)} {live : List Int} {B : Nat} {i : Nat} {row' : List V} (h : RowsI H0 H R rs rows live B) (hr : rs[i]? = some r) (hl : row'.length ≤ B)
    (hv : ∀ v ∈ row', v = .non ∨ ∃ z ∈ live, v = V.int z) : RowsI H0 (upd H r (.lst row')) R rs (rows.set i row') live B := by
  have hm : r ∈ rs := List.mem_of_getElem? hr
  refine ⟨?_, by rw [List.length_set]; exact h.len, h.nd, h.fr, h.frR, h.nR, ?_, ?_⟩
  · rw [upd_ne (fun e => h.nR (by rw [e]; exact hm))]
    exact h.hR
  · intro j q row hj hrow
    by_cases e : j = i
    · subst e
      rw [hr] at hj
      have e2 : r = q := Option.some.inj hj
      subst e2
      have hi : j < rows.length := by
        rw [h.len]
        exact (List.getElem?_eq_some_iff.mp hr).1
      rw [List.getElem?_set_self hi] at hrow
      rw [← Option.some.inj hrow]
      exact upd_same
    · have nq : q ≠ r := by
        rintro rfl
        exact e ((List.getElem?_inj (List.getElem?_eq_some_iff.mp hj).1 h.nd).mp (hj.trans hr.symm))
      rw [List.getElem?_set_ne (Ne.symm e)] at hrow
      rw [upd_ne nq]
      exact h.at_ j q row hj hrow
  · intro row hrow
    rcases List.mem_or_eq_of_mem_set hrow with z | rfl
    · exact h.good row z
    · exact ⟨hl, hv⟩
theorem RowsI.get {H0 H : Hp} {R : Addr} {rs : List Addr} {rows : List (List V)} {live : List Int} {B : Nat} {z : Int} (h : RowsI H0 H R rs rows live B) (h0 : 0 ≤ z) (h1 : z < rs.length) :
    ∃ (i : Nat) (r : Addr) (row : List V), z = i ∧ rs[i]? = some r ∧ rows[i]? = some row ∧ H r = some (.lst row) ∧ atI (rs.map V.ref) z = some (.ref r) ∧ H0 r = none := by
  obtain ⟨i, rfl⟩ : ∃ i : Nat, z = i := ⟨z.toNat, by omega⟩
  have hi : i < rs.length := by omega
  have hi2 : i < rows.length := by rw [h.len]; exact hi
  have e1 := List.getElem?_eq_getElem hi
  have e2 := List.getElem?_eq_getElem hi2
  refine ⟨i, rs[i], rows[i], rfl, e1, e2, h.at_ i _ _ e1 e2, atI_nat ?_, h.fr _ (List.getElem_mem hi)⟩
  rw [List.getElem?_map, e1]
  rfl
theorem at_ints {zs : List Int} {w : Int} (h0 : 0 ≤ w) (h1 : w < zs.length) : ∃ z ∈ zs, zs[w.toNat]? = some z ∧ atI (zs.map V.int) w = some (.int z) := by
  obtain ⟨i, rfl⟩ : ∃ i : Nat, w = i := ⟨w.toNat, by omega⟩
  have hi : i < zs.length := by omega
  have e1 := List.getElem?_eq_getElem hi
  refine ⟨zs[i], List.getElem_mem hi, by simpa using e1, atI_nat ?_⟩
  rw [List.getElem?_map, e1]
  rfl
def spLinked (K : PySem.W.Frag) : Sp := fun vs H Q _ => ∃ (p c a : Addr) (n : Nat) (ls : List Int) (al : Nat), vs = [.ref p, .ref a, .int al] ∧ PenAt H p c n ∧ SqL K H a (ls.map V.int) ∧ a ≠ p ∧ ls.length ≤ 40 ∧ (∀ z ∈ ls, 0 ≤ z ∧ z < ls.length) ∧ 1 ≤ al ∧ al ≤ ls.length ∧ n ≤ 900000 ∧
  ∀ R rs rows H', RowsI H H' R rs rows (ls.take al) 40 → rs.length = ls.length → Kx [p] H H' → PenAt H' p c (n + 400) → Q (.ref R) H'
theorem ok_linked {f : Addr} {fd : FuncData} (F : Fun K "_law_linked" "_law_linked" sQLinked f fd) (T : Txt mg) (l_law_draw : Lo P w K mg base "_law_draw" 1 ["_law_pen_here", "_law_most_one"] spDraw) :
    FnOk P w K mg base CX0 2 f fd ["_law_pen_here", "_law_labels", "_law_alive"] (spLinked K) := by
  refine F.ok scQLinked (fun vs H Q E h => ?_) (fun cdv A outer s H vs Q E hr h => ?_)
  · obtain ⟨p, c, a, n, ls, al, rfl, _⟩ := h
    rfl
  · obtain ⟨p, c, a, n, ls, al, rfl, hpen, ha, nap, hN, hls, hal, hal2, hn, k⟩ := h
    refine ⟨_, (pss_cons (ps_setLc (i := 3) (own := [("_law_label", 14)]) rfl scQLinked.nd rfl rfl (sw_true rfl rfl rfl (by decide +kernel)) (pi_list (pv 1)) (blkOk_by (N := ["_law_pen_here", "_law_labels", "_law_alive", "_law_rows", "_law_way", "_law_place", "_law_near", "_law_back", "_law_row", "_law_forward", "_law_turn", "_law_one", "_law_other", "_law_entry", "_law_label"]) (sc := defScope sQLinked) (by decide +kernel)) (fun _ _ _ _ _ => (pg_name (i := 14) scQLinked.nd rfl (Or.inl rfl))) (fun _ _ _ _ _ => pts_nil) (fun _ _ _ _ _ => (pe_lst pa_nil)))
      (pss_cons (ps_set (i := 4) scQLinked.nd rfl (Or.inl rfl) (pe_lo l_law_draw (hr.mono (by decide)) (by rfl) (pa_cons (pv 0) (pa_cons pe_int pa_nil))))
      (pss_cons (ps_for PassesOwn.never rfl (pi_range2 (by rfl) T.b_range (pa_cons pe_int (pa_cons (pv 2) pa_nil))) (pg_name (i := 5) scQLinked.nd rfl (Or.inl rfl))
      (pss_cons (ps_set (i := 6) scQLinked.nd rfl (Or.inl rfl) (pe_op op_add pe_int (pe_lo l_law_draw (hr.mono (by decide)) (by rfl) (pa_cons (pv 0) (pa_cons (pe_callB (call_min2 rfl) (by rfl) T.b_min boot'_min (pa_cons (pv 5) (pa_cons pe_int pa_nil))) pa_nil)))))
      (pss_cons (ps_set (i := 7) scQLinked.nd rfl (Or.inl rfl) (pe_ix ix_list (pe_lst (pa_cons pe_int (pa_cons (pv 5) (pa_cons (pv 6) (pa_cons (pe_op op_add pe_int (pe_lo l_law_draw (hr.mono (by decide)) (by rfl) (pa_cons (pv 0) (pa_cons (pv 5) pa_nil)))) (pa_cons (pv 6) pa_nil)))))) (pv 4) (fun _ _ => rfl)))
      (pss_cons (ps_set (i := 8) scQLinked.nd rfl (Or.inl rfl) (pe_ix ix_list (pv 3) (pe_ix ix_list (pv 1) (pe_op op_sub (pv 5) (pv 7)) (fun _ _ => rfl)) (fun _ _ => rfl)))
      (pss_one (ps_expr (pe_bm PySem.F.plainAttrs_list PySem.F.slot_list_insert PySem.F.type_list_insert mt_insert (pv 8) (pa_cons (pe_lo l_law_draw (hr.mono (by decide)) (by rfl) (pa_cons (pv 0) (pa_cons (pe_op op_add (pe_callB call_len_seq (by rfl) T.b_len boot'_len (pa_cons (pv 8) pa_nil)) pe_int) pa_nil))) (pa_cons (pe_ix ix_list (pv 1) (pv 5) (fun _ _ => rfl)) pa_nil)))))))))
      (pss_cons (ps_set (i := 9) scQLinked.nd rfl (Or.inl rfl) (pe_lo l_law_draw (hr.mono (by decide)) (by rfl) (pa_cons (pv 0) (pa_cons pe_int pa_nil))))
      (pss_cons (ps_for PassesOwn.never rfl (pi_range1 (by rfl) T.b_range (pa_cons (pe_ix ix_list (pe_lst (pa_cons pe_int (pa_cons (pe_lo l_law_draw (hr.mono (by decide)) (by rfl) (pa_cons (pv 0) (pa_cons pe_int pa_nil))) (pa_cons (pe_op op_fdiv (pv 2) pe_int) (pa_cons (pv 2) pa_nil))))) (pe_lo l_law_draw (hr.mono (by decide)) (by rfl) (pa_cons (pv 0) (pa_cons pe_int pa_nil))) (fun _ _ => rfl)) pa_nil)) (pg_name (i := 10) scQLinked.nd rfl (Or.inl rfl))
      (pss_cons (ps_par (i := 11) (j := 12) rfl scQLinked.nd rfl rfl (by decide) rfl rfl (pa_cons (pe_lo l_law_draw (hr.mono (by decide)) (by rfl) (pa_cons (pv 0) (pa_cons (pv 2) pa_nil))) (pa_cons (pe_lo l_law_draw (hr.mono (by decide)) (by rfl) (pa_cons (pv 0) (pa_cons (pv 2) pa_nil))) pa_nil)) (by rfl))
      (pss_cons (ps_if (pt_cmpR op_eq (pv 9) pe_int (nomark _)) (pss_one (ps_par (i := 11) (j := 12) rfl scQLinked.nd rfl rfl (by decide) rfl rfl (pa_cons (pe_callB (call_min2 rfl) (by rfl) T.b_min boot'_min (pa_cons (pv 11) (pa_cons (pv 12) pa_nil))) (pa_cons (pe_callB (call_max2 rfl) (by rfl) T.b_max boot'_max (pa_cons (pv 11) (pa_cons (pv 12) pa_nil))) pa_nil)) (by rfl))) pss_nil)
      (pss_cons (ps_set (i := 13) scQLinked.nd rfl (Or.inl rfl) (pe_ix ix_list (pe_lst (pa_cons (pe_ix ix_list (pv 1) (pv 12) (fun _ _ => rfl)) (pa_cons pe_non pa_nil))) (pe_callTy call_int1 (by rfl) T.b_int boot'_int (pa_cons (pe_or (pe_cmpR op_eq (pe_lo l_law_draw (hr.mono (by decide)) (by rfl) (pa_cons (pv 0) (pa_cons pe_int pa_nil))) pe_int (nomark _)) (pe_one (pe_and (pe_cmpR op_eq (pv 9) pe_int (nomark _)) (pe_one (pe_cmpR op_eq (pv 11) (pv 12) (nomark _)))))) pa_nil)) (fun _ _ => rfl)))
      (pss_cons (ps_set (i := 8) scQLinked.nd rfl (Or.inl rfl) (pe_ix ix_list (pv 3) (pe_ix ix_list (pv 1) (pv 11) (fun _ _ => rfl)) (fun _ _ => rfl)))
      (pss_one (ps_if (pt_cmpR op_lt (pe_callB call_len_seq (by rfl) T.b_len boot'_len (pa_cons (pv 8) pa_nil)) pe_int (nomark _)) (pss_one (ps_expr (pe_bm PySem.F.plainAttrs_list PySem.F.slot_list_insert PySem.F.type_list_insert mt_insert (pv 8) (pa_cons (pe_lo l_law_draw (hr.mono (by decide)) (by rfl) (pa_cons (pv 0) (pa_cons (pe_op op_add (pe_callB call_len_seq (by rfl) T.b_len boot'_len (pa_cons (pv 8) pa_nil)) pe_int) pa_nil))) (pa_cons (pv 13) pa_nil))))) pss_nil)))))))
      (pss_one (ps_ret (pv 3)))))))), ?_⟩
    refine x_start (σ' := [some (.ref p), some (.ref a), some (.int al), none, none, none, none, none, none, none, none, none, none, none, none]) rfl ?_
    dsimp only [cxOf]
    obtain ⟨⟨op, hp⟩, oc, hc⟩ := hpen.some
    repeat walk_at "rd"
    refine y_lcL (xs := ls.map V.int) ha (fun R nR => ⟨fun i H1 => ∃ rs : List Addr, rs.length = i ∧ H1 R = some (.lst (rs.map V.ref)) ∧ rs.Nodup ∧ R ∉ rs ∧ (∀ r ∈ rs, H r = none ∧ H1 r = some (.lst [])) ∧ Kx [] H H1,
      ⟨[], rfl, upd_same, List.nodup_nil, by simp, by simp, (Kx.refl _ _).new nR⟩, ?_, ?_, ?_⟩)
    · rintro i H1 hi ⟨rs, _, _, _, _, _, k1⟩
      exact k1.sqL (by simp) ha
    · rintro i x H1 H1' hi ⟨rs, e1, e2, e3, e4, e5, k1⟩ ⟨rfl, hx⟩
      rw [List.length_map] at hi
      repeat walk_at "rd"
      refine ⟨rfl, ?_⟩
      repeat walk_at "rd"
      rename_i q nq
      have nqR : q ≠ R := (ne_of_none e2 nq).symm
      refine ⟨rs.map V.ref, lk_ne e2 nq, small1000 (by rw [List.length_map]; omega), rs ++ [q], by rw [List.length_append, e1]; rfl, ?_, ?_, ?_, ?_, ?_⟩
      · rw [upd_same, List.map_append]
        rfl
      · rw [List.nodup_append]
        refine ⟨e3, by simp, ?_⟩
        intro b hb b2 hb2
        rw [List.mem_singleton.mp hb2]
        exact ne_of_none (e5 b hb).2 nq
      · simp only [List.mem_append, List.mem_singleton, not_or]
        exact ⟨e4, nqR.symm⟩
      · intro r hr
        rcases List.mem_append.mp hr with z | z
        · have nrR : r ≠ R := fun e => e4 (e ▸ z)
          exact ⟨(e5 r z).1, by rw [upd_ne nrR]; exact lk_ne (e5 r z).2 nq⟩
        · rw [List.mem_singleton.mp z]
          exact ⟨k1.fresh (by simp) nq, by rw [upd_ne nqR]; exact upd_same⟩
      · exact (k1.new nq).wr (.inl nR)
    rintro H1 ⟨rs, e1, e2, e3, e4, e5, k1⟩
    rw [List.length_map] at e1
    have I1 : RowsI H H1 R rs (rs.map fun _ => []) (ls.take al) 0 := by
      refine ⟨e2, by rw [List.length_map], e3, fun r hr => (e5 r hr).1, nR, e4, ?_, ?_⟩
      · intro i r row h1 h2
        rw [List.getElem?_map, h1] at h2
        rw [← Option.some.inj h2]
        exact (e5 r (List.mem_of_getElem? h1)).2
      · intro row hrow
        obtain ⟨_, _, rfl⟩ := List.mem_map.mp hrow
        exact ⟨Nat.le_refl _, by simp⟩
    have P1 : PenAt H1 p c n := hpen.keep k1 (by simp) (by simp) (Nat.le_refl _)
    have K1 : Kx [p] H H1 := k1.mono (by simp)
    clear e2 e3 e4 e5 k1
    repeat walk_at "rd"
    refine x_draw P1 (by omega) (by omega) (by omega) fun way H2 w0 w1 k2 P2 => ?_
    replace K1 := K1.trans k2
    replace I1 := I1.keep k2 (by simpa using ⟨_, hp⟩)
    clear k2 P1
    repeat walk_at "rd"
    have hnp : ∀ b, H b = none → b ≠ p := fun b hb e => by
      rw [e, hp] at hb
      cases hb
    have hlab : ∀ {w : Int}, 0 ≤ w → w < al → ∃ z, z ∈ ls.take al ∧ 0 ≤ z ∧ z < rs.length ∧ atI (ls.map V.int) w = some (.int z) := by
      intro w hw0 hw1
      obtain ⟨z, hz, hz1, hz2⟩ := at_ints (zs := ls) hw0 (by omega)
      refine ⟨z, ?_, (hls z hz).1, by rw [e1]; exact (hls z hz).2, hz2⟩
      exact List.mem_of_getElem? (i := w.toNat) (by rw [List.getElem?_take_of_lt (by omega)]; exact hz1)
    have hlist : ∀ {H1 : Hp}, Kx [p] H H1 → SqL K H1 a (ls.map V.int) := fun k1 => k1.sqL (by simpa using nap) ha
    refine y_forR2 (by omega) (by omega) (by omega) (by omega) ⟨fun i σ H3 => ∃ rows y5 y6 y7 y8, σ = [some (.ref p), some (.ref a), some (.int al), some (.ref R), some (.int way), y5, y6, y7, y8, none, none, none, none, none, none] ∧
      RowsI H H3 R rs rows (ls.take al) i ∧ Kx [p] H H3 ∧ PenAt H3 p c (n + 1 + 3 * i), ⟨_, none, none, none, none, rfl, I1, K1, P2⟩, fun _ _ _ _ _ => trivial, ?_, ?_⟩
    · rintro i x σ H3 H3' hi ⟨rows, y5, y6, y7, y8, rfl, I3, K3, P3⟩ ⟨rfl, rfl⟩
      have hi2 : 1 + (i : Int) < al := by omega
      repeat walk_at "rd"
      refine x_draw P3 (by omega) (by split <;> omega) (by split <;> omega) fun d1 H4 a0 a1 k4 P4 => ?_
      replace K3 := K3.trans k4
      replace I3 := I3.keep k4 (by simpa using ⟨_, hp⟩)
      clear k4 P3
      repeat walk_at "rd"
      refine x_draw P4 (by omega) (by omega) (by omega) fun d2 H5 b0 b1 k5 P5 => ?_
      replace K3 := K3.trans k5
      replace I3 := I3.keep k5 (by simpa using ⟨_, hp⟩)
      clear k5 P4
      have ha1 : d1 < 1 + (i : Int) ∧ d1 < 3 := by split at a1 <;> omega
      obtain ⟨back, hat, hb0, hb1⟩ : ∃ back, atI [V.int 1, V.int (1 + (i : Int)), V.int (1 + d1), V.int (1 + d2), V.int (1 + d1)] way = some (.int back) ∧ 1 ≤ back ∧ back ≤ 1 + (i : Int) := by
        obtain ⟨z, hz, _, hz2⟩ := at_ints (zs := [1, 1 + (i : Int), 1 + d1, 1 + d2, 1 + d1]) w0 (by simpa using w1)
        refine ⟨z, hz2, ?_⟩
        simp only [List.mem_cons, List.not_mem_nil, or_false] at hz
        omega
      obtain ⟨z, hz, hz0, hz1, hatz⟩ := hlab (w := 1 + (i : Int) - back) (by omega) (by omega)
      obtain ⟨z', hz', _, _, hatz'⟩ := hlab (w := 1 + (i : Int)) (by omega) (by omega)
      obtain ⟨j, r, row, rfl, hrs, hrow, hr, hatr, hr0⟩ := I3.get hz0 hz1
      have hR := I3.hR
      have nrp := hnp r hr0
      repeat walk_at "rd"
      rename_i q nq
      refine ⟨ty_list (SqL.of (by walk_at "lk")), ?_⟩
      repeat walk_at "rd"
      have hrow' := I3.good row (List.mem_of_getElem? hrow)
      refine x_draw (P5.keep ((Kx.refl [] H5).new nq) (by simp) (by simp) (Nat.le_refl _)) (by omega) (by omega) (by omega) fun d3 H6 c0 c1 k6 P6 => ?_
      have hr6 : H6 r = some (.lst row) := k6 r _ (by simpa using nrp) (lk_ne hr nq)
      replace K3 := (K3.new nq).trans k6
      replace I3 := (I3.keep ((Kx.refl [] H5).new nq) (by simp)).keep k6 (by simpa using ⟨_, hp⟩)
      clear k6 P5
      repeat walk_at "rd"
      refine ⟨_, _, _, _, _, rfl, (I3.mono (Nat.le_succ i)).wr hrs (row' := row.take d3.toNat ++ [V.int z'] ++ row.drop d3.toNat) ?_ ?_, K3.wr (.inl hr0), ?_⟩
      · rw [ins_perm.length_eq, List.length_append, List.length_singleton]
        omega
      · intro v hv
        rcases List.mem_append.mp (ins_perm.mem_iff.mp hv) with hv | hv
        · exact hrow'.2 v hv
        · exact .inr ⟨z', hz', List.mem_singleton.mp hv⟩
      · exact P6.up (upd_ne nrp.symm) (upd_ne (fun e => by rw [← e, hc] at hr0; cases hr0)) (by omega)
    · rintro σ H3 ⟨rows, y5, y6, y7, y8, rfl, I3, K3, P3⟩
      repeat walk_at "rd"
      refine x_draw P3 (by omega) (by omega) (by omega) fun fwd H4 f0 f1 k4 P4 => ?_
      replace K3 := K3.trans k4
      replace I3 := (I3.keep k4 (by simpa using ⟨_, hp⟩)).mono (show (al - 1 : Int).toNat ≤ 40 by omega)
      clear k4 P3
      repeat walk_at "rd"
      refine x_draw P4 (by omega) (by omega) (by omega) fun u1 H5 g0 g1 k5 P5 => ?_
      replace K3 := K3.trans k5
      replace I3 := I3.keep k5 (by simpa using ⟨_, hp⟩)
      clear k5 P4
      repeat walk_at "rd"
      rename_i q nq
      have nqp : q ≠ p := hnp q (K3.fresh (fun z => by rw [List.mem_singleton.mp z] at nq; obtain ⟨⟨o, ho⟩, _⟩ := P5.some; rw [ho] at nq; cases nq) nq)
      refine x_draw (P5.keep ((Kx.refl [] H5).new nq) (by simp) (by simp) (Nat.le_refl _)) (by omega) (by omega) (by omega) fun u2 H6 g2 g3 k6 P6 => ?_
      have hq6 : H6 q = some (.lst [V.int 0, V.int u1, V.int ((al : Int) / 2), V.int al]) := k6 q _ (by simpa using nqp) upd_same
      replace K3 := (K3.new nq).trans k6
      replace I3 := (I3.keep ((Kx.refl [] H5).new nq) (by simp)).keep k6 (by simpa using ⟨_, hp⟩)
      clear k6 P5
      obtain ⟨cnt, hat, hc0, hc1⟩ : ∃ cnt, atI [V.int 0, V.int u1, V.int ((al : Int) / 2), V.int al] u2 = some (.int cnt) ∧ 0 ≤ cnt ∧ cnt ≤ 40 := by
        obtain ⟨z, hz, _, hz2⟩ := at_ints (zs := [0, u1, (al : Int) / 2, (al : Int)]) g2 (by simpa using g3)
        refine ⟨z, hz2, ?_⟩
        simp only [List.mem_cons, List.not_mem_nil, or_false] at hz
        omega
      repeat walk_at "rd"
      refine y_forR1 hc0 (by omega) ⟨fun i σ H7 => ∃ rows y5 y6 y7 y8 y10 y11 y12 y13, σ = [some (.ref p), some (.ref a), some (.int al), some (.ref R), some (.int way), y5, y6, y7, y8, some (.int fwd), y10, y11, y12, y13, none] ∧
        RowsI H H7 R rs rows (ls.take al) 40 ∧ Kx [p] H H7 ∧ PenAt H7 p c (n + 130 + 4 * i), ⟨_, _, _, _, _, none, none, none, none, rfl, I3, K3, P6.keep (Kx.refl [] H6) (by simp) (by simp) (by omega)⟩, fun _ _ _ _ _ => trivial, ?_, ?_⟩
      · rintro i x σ H7 H7' hi ⟨rows, y5, y6, y7, y8, y10, y11, y12, y13, rfl, I3, K3, P3⟩ ⟨rfl, rfl⟩
        have hi2 : i < 40 := by omega
        repeat walk_at "rd"
        refine x_draw P3 (by omega) (by omega) (by omega) fun d1 H4 a0 a1 k4 P4 => ?_
        replace K3 := K3.trans k4
        replace I3 := I3.keep k4 (by simpa using ⟨_, hp⟩)
        clear k4 P3
        repeat walk_at "rd"
        refine x_draw P4 (by omega) (by omega) (by omega) fun d2 H5 b0 b1 k5 P5 => ?_
        replace K3 := K3.trans k5
        replace I3 := I3.keep k5 (by simpa using ⟨_, hp⟩)
        clear k5 P4
        repeat walk_at "rd"
        refine ite2 (fun hf => ?A) (fun hf => ?B)
        case' A =>
          repeat walk_at "rd"
          generalize hone : (if d2 < d1 then d2 else d1) = one
          generalize hoth : (if d2 > d1 then d2 else d1) = oth
          have o0 : 0 ≤ one ∧ one < al := by split at hone <;> omega
          have p0 : 0 ≤ oth ∧ oth < al := by split at hoth <;> omega
        case' B =>
          repeat walk_at "rd"
          have o0 : 0 ≤ d1 ∧ d1 < al := ⟨a0, a1⟩
          have p0 : 0 ≤ d2 ∧ d2 < al := ⟨b0, b1⟩
          generalize d1 = one at o0 ⊢
          generalize d2 = oth at p0 ⊢
        all_goals
          obtain ⟨z, hz, hz0, hz1, hatz⟩ := hlab p0.1 p0.2
          obtain ⟨z', hz', hz0', hz1', hatz'⟩ := hlab o0.1 o0.2
          repeat walk_at "rd"
          rename_i q nq
          have nqp : q ≠ p := hnp q (K3.fresh (fun z => by rw [List.mem_singleton.mp z] at nq; obtain ⟨⟨o, ho⟩, _⟩ := P5.some; rw [ho] at nq; cases nq) nq)
          refine x_draw (P5.keep ((Kx.refl [] H5).new nq) (by simp) (by simp) (Nat.le_refl _)) (by omega) (by omega) (by omega) fun d3 H6 c0 c1 k6 P6 => ?_
          have hq6 : H6 q = some (.lst [V.int z, V.non]) := k6 q _ (by simpa using nqp) upd_same
          replace K3 := (K3.new nq).trans k6
          replace I3 := (I3.keep ((Kx.refl [] H5).new nq) (by simp)).keep k6 (by simpa using ⟨_, hp⟩)
          clear k6 P5
          have hR := I3.hR
          obtain ⟨j, r, row, rfl, hrs, hrow, hr, hatr, hr0⟩ := I3.get hz0' hz1'
          have nrp := hnp r hr0
          have hrow' := I3.good row (List.mem_of_getElem? hrow)
          have gN : V.non = .non ∨ ∃ z ∈ ls.take al, V.non = V.int z := .inl rfl
          have gZ : V.int z = .non ∨ ∃ z' ∈ ls.take al, V.int z = V.int z' := .inr ⟨z, hz, rfl⟩
          repeat walk_at "rd"
          refine ite2 (fun e3 => ?_) (fun e3 => ?_)
          all_goals repeat walk_at "rd"
          all_goals refine ite2 (fun e3 => ?_) (fun e3 => ?_)
          all_goals repeat walk_at "rd"
          any_goals
            generalize decide (V.int one = V.int oth) = bb
            cases bb
          all_goals repeat walk_at "rd"
          any_goals refine ite2 (fun e3 => ?_) (fun e3 => ?_)
          all_goals repeat walk_at "rd"
          any_goals exact ⟨rows, _, _, _, _, _, _, _, _, rfl, I3, K3, P6.keep (Kx.refl [] H6) (by simp) (by simp) (by omega)⟩
          all_goals
            refine ⟨ty_list (SqL.of hr), ?_⟩
            have hlen : (row.length : Int) < 40 := of_decide_eq_true e3
            repeat walk_at "rd"
            refine x_draw P6 (by omega) (by omega) (by omega) fun d4 H8 s0 s1 k8 P8 => ?_
            replace K3 := K3.trans k8
            replace I3 := I3.keep k8 (by simpa using ⟨_, hp⟩)
            have hr8 : H8 r = some (.lst row) := k8 r _ (by simpa using nrp) hr
            clear k8 P6
            repeat walk_at "rd"
            refine ⟨_, _, _, _, _, _, _, _, _, rfl, I3.wr hrs ?_ ?_, K3.wr (.inl hr0), P8.up (upd_ne nrp.symm) (upd_ne (fun e => by rw [← e, hc] at hr0; cases hr0)) (by omega)⟩
            · rw [ins_perm.length_eq, List.length_append, List.length_singleton]
              omega
            · intro v hv
              rcases List.mem_append.mp (ins_perm.mem_iff.mp hv) with hv | hv
              · exact hrow'.2 v hv
              · rw [List.mem_singleton.mp hv]
                first
                  | exact gN
                  | exact gZ
      · rintro σ H7 ⟨rows, y5, y6, y7, y8, y10, y11, y12, y13, rfl, I3, K3, P3⟩
        repeat walk_at "rd"
        exact k R rs rows H7 I3 e1 K3 (P3.keep (Kx.refl [] H7) (by simp) (by simp) (by omega))
end

section
variable {P : Program} {w : World} {K : PySem.W.Frag} {mg : Str → Option Value} {base : Heap}
/-- a row of slots as data, and as values -/
abbrev Rw := List (Option Nat)
def slotV : Option Nat → V
  | none => .non
  | some k => .int k
def rowV (l : Rw) : List V := l.map slotV
/-- a heap at D: its rows (none: free) and its outside references -/
structure HeapAt (K : PySem.W.Frag) (H : Hp) (D : Addr) (slots : List (Option Rw)) (outs : List Int) : Prop where
  ex : ∃ (S O : Addr) (vs : List V), SqT K H D [.ref S, .ref O] ∧ SqT K H S vs ∧ SqT K H O (outs.map V.int) ∧ vs.length = slots.length ∧
    ∀ (i : Nat) (o : Option Rw), slots[i]? = some o → (o = none ∧ vs[i]? = some V.non) ∨ ∃ r row, o = some row ∧ vs[i]? = some (.ref r) ∧ FT H r (rowV row)
structure WfB (b : Int) (slots : List (Option Rw)) (outs : List Int) : Prop where
  len : outs.length = slots.length
  most : slots.length ≤ 40
  free : ∀ m : Nat, slots[m]? = some none → outs[m]? = some 0
  outs : ∀ z ∈ outs, 0 ≤ z ∧ z ≤ b
  row : ∀ row, some row ∈ slots → row.length ≤ 40
  live : ∀ row, some row ∈ slots → ∀ k, some k ∈ row → ∃ r, slots[k]? = some (some r)
abbrev Wf := WfB 9
theorem HeapAt.keep {K : PySem.W.Frag} {H H' : Hp} {D : Addr} {slots : List (Option Rw)} {outs : List Int} (h : HeapAt K H D slots outs) (k : Same H H') : HeapAt K H' D slots outs := by
  obtain ⟨S, O, vs, h1, h2, h3, h4, h5⟩ := h.ex
  have k0 : Kx [] H H' := .same k []
  refine ⟨S, O, vs, k0.sqT (by simp) h1, k0.sqT (by simp) h2, k0.sqT (by simp) h3, h4, fun i o ho => ?_⟩
  rcases h5 i o ho with z | ⟨r, row, e1, e2, ob, e3, e4, e5⟩
  · exact .inl z
  · exact .inr ⟨r, row, e1, e2, ob, k _ _ e3, e4, e5⟩
def spBase (K : PySem.W.Frag) : Sp := fun vs H Q _ => ∃ (p c : Addr) (n : Nat), vs = [.ref p] ∧ PenAt H p c n ∧ n ≤ 800000 ∧
  ∀ (B D : Addr) (lab : Nat) (slots : List (Option Rw)) (outs : List Int) H', H' B = some (.tup [.ref D, .int lab]) → HeapAt K H' D slots outs → Wf slots outs → 1 ≤ slots.length → (∃ (row : Rw) (z : Int), slots[lab]? = some (some row) ∧ outs[lab]? = some z ∧ 1 ≤ z) → Kx [p] H H' → PenAt H' p c (n + 700) → Q (.ref B) H'
def toI : V → Int
  | .int i => i
  | _ => 0
theorem perm_ints {ys : List V} {zs : List Int} (h : ys.Perm (zs.map V.int)) : ∃ ls : List Int, ys = ls.map V.int ∧ ls.Perm zs := by
  refine ⟨ys.map toI, ?_, ?_⟩
  · rw [List.map_map]
    have : ∀ y ∈ ys, (V.int ∘ toI) y = y := by
      intro y hy
      obtain ⟨z, _, rfl⟩ := List.mem_map.mp (h.mem_iff.mp hy)
      rfl
    rw [List.map_congr_left this, List.map_id']
  · have e := h.map toI
    rw [List.map_map] at e
    have e2 : zs.map (toI ∘ V.int) = zs := by
      rw [show (toI ∘ V.int) = id from rfl, List.map_id]
    rwa [e2] at e
theorem rg_ints (N : Nat) : rgV 0 (N : Int) = ((List.range N).map fun (i : Nat) => (i : Int)).map V.int := by
  unfold rgV
  rw [List.map_map, show ((N : Int) - 0).toNat = N by omega]
  refine List.map_congr_left fun i _ => ?_
  show V.int (0 + (i : Int)) = V.int i
  rw [Int.zero_add]
def unV : V → Option Nat
  | .int z => some z.toNat
  | _ => none
theorem Kx.comb {S : List Addr} {H H1 H2 : Hp} {Z : Addr} (a : Kx S H H1) (b : Kx [Z] H1 H2) (n : H Z = none) : Kx S H H2 := fun q o hq h =>
  b q o (fun z => by rw [List.mem_singleton.mp z, n] at h; cases h) (a q o hq h)
theorem cut_from (xs : List V) (k : Nat) : cutV xs (some (k : Int)) none = xs.drop k := by
  unfold cutV
  rw [HT.sIx_none, show HT.sIx xs.length 0 (some (k : Int)) = min k xs.length from HT.sIx_nat xs.length 0 k]
  rcases Nat.le_total k xs.length with h | h
  · rw [Nat.min_eq_left h, List.take_of_length_le (by rw [List.length_drop]; exact Nat.le_refl _)]
  · rw [Nat.min_eq_right h, Nat.sub_self, List.take_zero, List.drop_of_length_le h]
theorem ix_nat {n j : Nat} (hj : j < n) : ixN n (j : Int) = some j := by
  unfold ixN
  rw [if_pos (by omega), if_pos (by omega), Int.toNat_natCast]
theorem RowsI.other {H0 H : Hp} {R A : Addr} {o : HO} {rs : List Addr} {rows : List (List V)} {live : List Int} {B : Nat} (h : RowsI H0 H R rs rows live B) (nR : A ≠ R) (n : A ∉ rs) : RowsI H0 (upd H A o) R rs rows live B :=
  ⟨(upd_ne nR.symm).trans h.hR, h.len, h.nd, h.fr, h.frR, h.nR, fun i r row h1 h2 => (upd_ne (fun e => n (by rw [← e]; exact List.mem_of_getElem? h1))).trans (h.at_ i r row h1 h2), h.good⟩
theorem ok_base {f : Addr} {fd : FuncData} (F : Fun K "_law_base" "_law_base" sQBase f fd) (T : Txt mg) (l_law_draw : Lo P w K mg base "_law_draw" 1 ["_law_pen_here", "_law_most_one"] spDraw)
    (l_law_shuffled : Lo P w K mg base "_law_shuffled" 2 ["_law_pen_here", "_law_row"] (spShuf K)) (l_law_linked : Lo P w K mg base "_law_linked" 2 ["_law_pen_here", "_law_labels", "_law_alive"] (spLinked K)) :
    FnOk P w K mg base CX0 3 f fd ["_law_pen_here"] (spBase K) := by
  refine F.ok scQBase (fun vs H Q E h => ?_) (fun cdv A outer s H vs Q E hr h => ?_)
  · obtain ⟨p, c, n, rfl, _⟩ := h
    rfl
  · obtain ⟨p, c, n, rfl, hpen, hn, k⟩ := h
    refine ⟨_, (pss_cons (ps_set (i := 1) scQBase.nd rfl (Or.inl rfl) (pe_ix ix_list (pe_lst (pa_cons (pe_op op_add pe_int (pe_lo l_law_draw (hr.mono (by decide)) (by rfl) (pa_cons (pv 0) (pa_cons pe_int pa_nil)))) (pa_cons (pe_op op_add pe_int (pe_lo l_law_draw (hr.mono (by decide)) (by rfl) (pa_cons (pv 0) (pa_cons pe_int pa_nil)))) (pa_cons pe_int (pa_cons (pe_op op_add pe_int (pe_lo l_law_draw (hr.mono (by decide)) (by rfl) (pa_cons (pv 0) (pa_cons pe_int pa_nil)))) pa_nil))))) (pe_lo l_law_draw (hr.mono (by decide)) (by rfl) (pa_cons (pv 0) (pa_cons pe_int pa_nil))) (fun _ _ => rfl)))
      (pss_cons (ps_set (i := 2) scQBase.nd rfl (Or.inl rfl) (pe_ix ix_list (pe_lst (pa_cons pe_int (pa_cons pe_int (pa_cons (pe_lo l_law_draw (hr.mono (by decide)) (by rfl) (pa_cons (pv 0) (pa_cons (pe_op op_sub pe_int (pv 1)) pa_nil))) (pa_cons (pe_callB (call_min2 rfl) (by rfl) T.b_min boot'_min (pa_cons pe_int (pa_cons (pe_op op_sub pe_int (pv 1)) pa_nil))) pa_nil))))) (pe_lo l_law_draw (hr.mono (by decide)) (by rfl) (pa_cons (pv 0) (pa_cons pe_int pa_nil))) (fun _ _ => rfl)))
      (pss_cons (ps_set (i := 3) scQBase.nd rfl (Or.inl rfl) (pe_lo l_law_shuffled (hr.mono (by decide)) (by rfl) (pa_cons (pv 0) (pa_cons (pe_listRg rfl (by rfl) T.b_list (prg_1 (by rfl) T.b_range (pe_op op_add (pv 1) (pv 2)))) pa_nil))))
      (pss_cons (ps_set (i := 4) scQBase.nd rfl (Or.inl rfl) (pe_lo l_law_linked (hr.mono (by decide)) (by rfl) (pa_cons (pv 0) (pa_cons (pv 3) (pa_cons (pv 1) pa_nil)))))
      (pss_cons (ps_setLc (i := 6) (own := [("_law_label", 5)]) rfl scQBase.nd rfl rfl (sw_true rfl rfl rfl (by decide +kernel)) (pi_list (pv 3)) (blkOk_by (N := ["_law_pen_here", "_law_alive", "_law_spare", "_law_labels", "_law_rows", "_law_label", "_law_handles", "_law_turn", "_law_row"]) (sc := defScope sQBase) (by decide +kernel)) (fun _ _ _ _ _ => (pg_name (i := 5) scQBase.nd rfl (Or.inl rfl))) (fun _ _ _ _ _ => pts_nil) (fun _ _ _ _ _ => pe_int))
      (pss_cons (ps_for PassesOwn.never rfl (pi_range1 (by rfl) T.b_range (pa_cons (pe_ix ix_list (pe_lst (pa_cons pe_int (pa_cons pe_int (pa_cons pe_int (pa_cons pe_int pa_nil))))) (pe_lo l_law_draw (hr.mono (by decide)) (by rfl) (pa_cons (pv 0) (pa_cons pe_int pa_nil))) (fun _ _ => rfl)) pa_nil)) (pg_name (i := 7) scQBase.nd rfl (Or.inl rfl))
      (pss_one (ps_asg (pe_op op_add pe_int (pe_lo l_law_draw (hr.mono (by decide)) (by rfl) (pa_cons (pv 0) (pa_cons pe_int pa_nil)))) (pg_sub (pv 6) (pe_ix ix_list (pv 3) (pe_lo l_law_draw (hr.mono (by decide)) (by rfl) (pa_cons (pv 0) (pa_cons (pv 1) pa_nil))) (fun _ _ => rfl)) set_list))))
      (pss_cons (ps_asg (pe_ix ix_list (pe_lst (pa_cons pe_int (pa_cons pe_int (pa_cons pe_int (pa_cons pe_int (pa_cons pe_int pa_nil)))))) (pe_lo l_law_draw (hr.mono (by decide)) (by rfl) (pa_cons (pv 0) (pa_cons pe_int pa_nil))) (fun _ _ => rfl)) (pg_sub (pv 6) (pe_ix ix_list (pv 3) pe_int (fun _ _ => rfl)) set_list))
      (pss_cons (ps_setLc (i := 4) (own := [("_law_row", 8)]) rfl scQBase.nd rfl rfl (sw_true rfl rfl rfl (by decide +kernel)) (pi_list (pv 4)) (blkOk_by (N := ["_law_pen_here", "_law_alive", "_law_spare", "_law_labels", "_law_rows", "_law_label", "_law_handles", "_law_turn", "_law_row"]) (sc := defScope sQBase) (by decide +kernel)) (fun _ _ _ _ _ => (pg_name (i := 8) scQBase.nd rfl (Or.inl rfl))) (fun _ _ _ _ _ => pts_nil) (fun _ _ _ _ _ => (pe_callTy (call_tupFK (K := K)) (by rfl) T.b_tuple boot'_tuple (pa_cons (pv 8) pa_nil))))
      (pss_cons (ps_for PassesOwn.never rfl (pi_list (pe_slice sl_list (pv 3) (po_some (pv 1)) po_none)) (pg_name (i := 5) scQBase.nd rfl (Or.inl rfl))
      (pss_one (ps_asg pe_non (pg_sub (pv 4) (pv 5) set_list))))
      (pss_one (ps_ret (pe_tup (pa_cons (pe_tup (pa_cons (pe_callTy call_tuple_of (by rfl) T.b_tuple boot'_tuple (pa_cons (pv 4) pa_nil)) (pa_cons (pe_callTy call_tuple_of (by rfl) T.b_tuple boot'_tuple (pa_cons (pv 6) pa_nil)) pa_nil))) (pa_cons (pe_ix ix_list (pv 3) pe_int (fun _ _ => rfl)) pa_nil)))))))))))))), ?_⟩
    refine x_start (σ' := [some (.ref p), none, none, none, none, none, none, none, none]) rfl ?_
    dsimp only [cxOf]
    obtain ⟨⟨op, hp⟩, oc, hc⟩ := hpen.some
    have hnp : ∀ b, H b = none → b ≠ p := fun b hb e => by
      rw [e, hp] at hb
      cases hb
    have npfree : ∀ {H1 : Hp} {q m}, PenAt H1 p c m → H1 q = none → q ≠ p := fun hp1 hq e => by
      obtain ⟨⟨o, ho⟩, _⟩ := hp1.some
      rw [e, ho] at hq
      cases hq
    repeat walk_at "rd"
    refine x_draw hpen (by omega) (by omega) (by omega) fun a1 H1 a1l a1h k1 P1 => ?_
    repeat walk_at "rd"
    refine x_draw P1 (by omega) (by omega) (by omega) fun a2 H2 a2l a2h k2 P2 => ?_
    replace k2 := k1.trans k2
    clear k1 P1
    repeat walk_at "rd"
    refine x_draw P2 (by omega) (by omega) (by omega) fun a3 H3 a3l a3h k3 P3 => ?_
    replace k3 := k2.trans k3
    clear k2 P2
    repeat walk_at "rd"
    rename_i q nq
    have nqp := npfree P3 nq
    refine x_draw (P3.keep ((Kx.refl [] H3).new nq) (by simp) (by simp) (Nat.le_refl _)) (by omega) (by omega) (by omega) fun a4 H4 a4l a4h k4 P4 => ?_
    have hq4 : H4 q = some (.lst [V.int (1 + a1), V.int (2 + a2), V.int 40, V.int (1 + a3)]) := k4 q _ (by simpa using nqp) upd_same
    have K4 := (k3.new nq).trans k4
    clear k4 P3 k3
    obtain ⟨al, hat, al0, al1⟩ : ∃ al : Nat, atI [V.int (1 + a1), V.int (2 + a2), V.int 40, V.int (1 + a3)] a4 = some (.int al) ∧ 1 ≤ al ∧ al ≤ 40 := by
      obtain ⟨z, hz, _, hz2⟩ := at_ints (zs := [1 + a1, 2 + a2, 40, 1 + a3]) a4l (by simpa using a4h)
      simp only [List.mem_cons, List.not_mem_nil, or_false] at hz
      refine ⟨z.toNat, ?_, by omega, by omega⟩
      rw [show ((z.toNat : Nat) : Int) = z by omega]
      exact hz2
    repeat walk_at "rd"
    refine x_draw P4 (by omega) (by omega) (by omega) fun s1 H5 s1l s1h k5 P5 => ?_
    replace K4 := K4.trans k5
    clear k5 P4
    repeat walk_at "rd"
    rename_i q2 nq2
    have nq2p := npfree P5 nq2
    refine x_draw (P5.keep ((Kx.refl [] H5).new nq2) (by simp) (by simp) (Nat.le_refl _)) (by omega) (by omega) (by omega) fun s2 H6 s2l s2h k6 P6 => ?_
    have hq6 : H6 q2 = some (.lst [V.int 0, V.int 0, V.int s1, V.int (if 40 - (al : Int) < 2 then 40 - (al : Int) else 2)]) := k6 q2 _ (by simpa using nq2p) upd_same
    have K6 := (K4.new nq2).trans k6
    clear k6 P5 K4
    obtain ⟨sp, hat2, sp1⟩ : ∃ sp : Nat, atI [V.int 0, V.int 0, V.int s1, V.int (if 40 - (al : Int) < 2 then 40 - (al : Int) else 2)] s2 = some (.int sp) ∧ sp + al ≤ 40 := by
      obtain ⟨z, hz, _, hz2⟩ := at_ints (zs := [0, 0, s1, if 40 - (al : Int) < 2 then 40 - (al : Int) else 2]) s2l (by simpa using s2h)
      simp only [List.mem_cons, List.not_mem_nil, or_false] at hz
      have hzz : 0 ≤ z ∧ z + al ≤ 40 := by
        split at hz <;> omega
      refine ⟨z.toNat, ?_, by omega⟩
      rw [show ((z.toNat : Nat) : Int) = z by omega]
      exact hz2
    repeat walk_at "rd"
    refine ⟨RgOk.of_le (by omega) (by omega) (by omega) (by omega), fun q3 nq3 => ?_⟩
    repeat walk_at "rd"
    have nq3p := npfree P6 nq3
    have eN : (al : Int) + (sp : Int) = ((al + sp : Nat) : Int) := by omega
    refine ⟨p, c, q3, n + 6, _, rfl, P6.keep ((Kx.refl [] H6).new nq3) (by simp) (by simp) (by omega), SqL.of upd_same, nq3p, by rw [rgV_length]; omega, by omega, fun L ys H7 nL hperm k7 hL P7 => ?_⟩
    rw [rgV_length] at P7
    rw [eN, rg_ints] at hperm
    obtain ⟨ls, rfl, hls⟩ := perm_ints hperm
    have hlen : ls.length = al + sp := by
      rw [hls.length_eq, List.length_map, List.length_range]
    have hmem : ∀ z ∈ ls, 0 ≤ z ∧ z < ls.length := by
      intro z hz
      obtain ⟨m, hm, rfl⟩ := List.mem_map.mp (hls.mem_iff.mp hz)
      have := List.mem_range.mp hm
      omega
    have hall : ∀ m : Nat, m < ls.length → (m : Int) ∈ ls := by
      intro m hm
      exact hls.mem_iff.mpr (List.mem_map.mpr ⟨m, List.mem_range.mpr (by omega), rfl⟩)
    have hnd : ls.Nodup := by
      refine hls.symm.nodup ?_
      refine List.Pairwise.map _ ?_ List.nodup_range
      intro a b hab e
      exact hab (by omega)
    have K7 := (K6.new nq3).trans k7
    have nLp := npfree (P6.keep ((Kx.refl [] H6).new nq3) (by simp) (by simp) (Nat.le_refl _)) nL
    clear k7 P6 K6 hq4 hq6 nqp nq2p hat hat2
    repeat walk_at "rd"
    refine ⟨p, c, L, _, ls, al, rfl, P7, SqL.of hL, nLp, by omega, hmem, al0, by omega, by omega, fun R rs rows H8 I8 e8 k8 P8 => ?_⟩
    have K8 := K7.trans k8
    have hL8 : H8 L = some (.lst (ls.map V.int)) := k8 L _ (by simpa using nLp) hL
    repeat walk_at "rd"
    have hlab : ∀ {w : Int}, 0 ≤ w → w < al → ∃ j : Nat, (j : Int) ∈ ls.take al ∧ j < ls.length ∧ atI (ls.map V.int) w = some (.int (j : Int)) := by
      intro w hw0 hw1
      obtain ⟨z, hz, hz1, hz2⟩ := at_ints (zs := ls) hw0 (by omega)
      have h3 := hmem z hz
      refine ⟨z.toNat, ?_, by omega, ?_⟩
      · rw [show ((z.toNat : Nat) : Int) = z by omega]
        exact List.mem_of_getElem? (i := w.toNat) (by rw [List.getElem?_take_of_lt (by omega)]; exact hz1)
      · rw [show ((z.toNat : Nat) : Int) = z by omega]
        exact hz2
    refine y_lcL (xs := ls.map V.int) (SqL.of hL8) (fun A nA => ⟨fun i H1 => Kx [] H8 H1 ∧ H1 A = some (.lst ((List.replicate i (0 : Int)).map V.int)), ⟨(Kx.refl _ _).new nA, upd_same⟩, ?_, ?_, ?_⟩)
    · rintro i H1 hi ⟨k1, _⟩
      exact k1.sqL (by simp) (SqL.of hL8)
    · rintro i x H1 H1' hi ⟨k1, e1⟩ ⟨rfl, hx⟩
      rw [List.length_map] at hi
      repeat walk_at "rd"
      refine ⟨rfl, ?_⟩
      repeat walk_at "rd"
      refine ⟨_, e1, small1000 (by rw [List.length_map, List.length_replicate]; omega), k1.wr (.inl nA), ?_⟩
      rw [upd_same, List.replicate_succ', List.map_append]
      rfl
    rintro H9 ⟨k9, hA⟩
    rw [List.length_map] at hA
    have K9 := K8.trans (k9.mono (by simp))
    have I9 := I8.keep k9 (by simp)
    have hL9 : H9 L = some (.lst (ls.map V.int)) := k9 L _ (by simp) hL8
    have P9 := P8.keep k9 (by simp) (by simp) (Nat.le_refl _)
    have nAp := npfree P8 nA
    have nAL : A ≠ L := fun e => by rw [e, hL8] at nA; cases nA
    have nAR : A ≠ R := fun e => by rw [e, I8.hR] at nA; cases nA
    have nArs : A ∉ rs := fun z => by
      obtain ⟨m, hm⟩ := List.mem_iff_getElem?.mp z
      obtain ⟨row, hrow⟩ : ∃ row, rows[m]? = some row := ⟨_, List.getElem?_eq_getElem (by rw [I8.len]; exact (List.getElem?_eq_some_iff.mp hm).1)⟩
      rw [I8.at_ m A row hm hrow] at nA
      cases nA
    have nA0 : H A = none := (K8.fresh (by simpa using nAp) nA)
    have P8' := P8
    clear k9 P8
    repeat walk_at "rd"
    rename_i q4 nq4
    have nq4p := npfree P9 nq4
    refine x_draw (P9.keep ((Kx.refl [] H9).new nq4) (by simp) (by simp) (Nat.le_refl _)) (by omega) (by omega) (by omega) fun s3 H10 s3l s3h k10 P10 => ?_
    have hq4 : H10 q4 = some (.lst [V.int 0, V.int 0, V.int 1, V.int 3]) := k10 q4 _ (by simpa using nq4p) upd_same
    have K10 := (K9.new nq4).trans k10
    have I10 := (I9.keep ((Kx.refl [] H9).new nq4) (by simp)).keep k10 (by simpa using P7.some.1)
    have hA10 : H10 A = some (.lst ((List.replicate ls.length (0 : Int)).map V.int)) := k10 A _ (by simpa using nAp) (lk_ne hA nq4)
    have hL10 : H10 L = some (.lst (ls.map V.int)) := k10 L _ (by simpa using nLp) (lk_ne hL9 nq4)
    clear k10 P9 I9 hA hL9
    obtain ⟨cnt, hat, hc0, hc1⟩ : ∃ cnt, atI [V.int 0, V.int 0, V.int 1, V.int 3] s3 = some (.int cnt) ∧ 0 ≤ cnt ∧ cnt ≤ 3 := by
      obtain ⟨z, hz, _, hz2⟩ := at_ints (zs := [0, 0, 1, 3]) s3l (by simpa using s3h)
      refine ⟨z, hz2, ?_⟩
      simp only [List.mem_cons, List.not_mem_nil, or_false] at hz
      omega
    repeat walk_at "rd"
    refine y_forR1 hc0 (by omega) ⟨fun i σ H11 => ∃ (hs : List Int) (y7 : Option V), σ = [some (.ref p), some (.int al), some (.int sp), some (.ref L), some (.ref R), none, some (.ref A), y7, none] ∧
      H11 A = some (.lst (hs.map V.int)) ∧ hs.length = ls.length ∧ (∀ z ∈ hs, 0 ≤ z ∧ z ≤ 9) ∧ (∀ m : Nat, m < ls.length → (m : Int) ∉ ls.take al → hs[m]? = some 0) ∧ H11 L = some (.lst (ls.map V.int)) ∧ RowsI H7 H11 R rs rows (ls.take al) 40 ∧ Kx [p] H H11 ∧ PenAt H11 p c (n + 600 + 2 * i),
      ⟨_, none, rfl, hA10, List.length_replicate, fun z hz => by rw [(List.mem_replicate.mp hz).2]; omega, fun m hm _ => by rw [List.getElem?_replicate, if_pos hm], hL10, I10, K10, P10.keep (Kx.refl [] H10) (by simp) (by simp) (by omega)⟩, fun _ _ _ _ _ => trivial, ?_, ?_⟩
    · rintro i x σ H11 H11' hi ⟨hs, y7, rfl, hA11, hhl, hhb, hhf, hL11, I11, K11, P11⟩ ⟨rfl, rfl⟩
      repeat walk_at "rd"
      refine x_draw P11 (by omega) (by omega) (by omega) fun v0 H12 v0l v0h k12 P12 => ?_
      have K12 := K11.trans k12
      have I12 := I11.keep k12 (by simpa using P7.some.1)
      have hA12 : H12 A = some (.lst (hs.map V.int)) := k12 A _ (by simpa using nAp) hA11
      have hL12 : H12 L = some (.lst (ls.map V.int)) := k12 L _ (by simpa using nLp) hL11
      clear k12 P11
      repeat walk_at "rd"
      refine x_draw P12 (by omega) (by omega) (by omega) fun v1 H13 v1l v1h k13 P13 => ?_
      have K13 := K12.trans k13
      have I13 := I12.keep k13 (by simpa using P7.some.1)
      have hA13 : H13 A = some (.lst (hs.map V.int)) := k13 A _ (by simpa using nAp) hA12
      have hL13 : H13 L = some (.lst (ls.map V.int)) := k13 L _ (by simpa using nLp) hL12
      clear k13 P12
      obtain ⟨j, hj, hj2, hatj⟩ := hlab v1l v1h
      have hix : ixN (hs.map V.int).length (j : Int) = some j := ix_nat (by rw [List.length_map]; omega)
      repeat walk_at "rd"
      refine ⟨hs.set j (1 + v0), _, rfl, ?_, by rw [List.length_set]; exact hhl, ?_, fun m hm hmt => by rw [List.getElem?_set_ne (fun e => hmt (by rw [← e]; exact hj))]; exact hhf m hm hmt, ?_, I13.other nAR nArs, K13.wr (.inl nA0), ?_⟩
      · rw [upd_same, List.map_set]
      · intro z hz
        rcases List.mem_or_eq_of_mem_set hz with hz | rfl
        · exact hhb z hz
        · omega
      · rw [upd_ne nAL.symm]
        exact hL13
      · exact P13.up (upd_ne nAp.symm) (upd_ne (fun e => by obtain ⟨_, o, ho⟩ := P8'.some; rw [← e, ho] at nA; cases nA)) (by omega)
    · rintro σ H11 ⟨hs, y7, rfl, hA11, hhl, hhb, hhf, hL11, I11, K11, P11⟩
      repeat walk_at "rd"
      rename_i q5 nq5
      have nq5p := npfree P11 nq5
      refine x_draw (P11.keep ((Kx.refl [] H11).new nq5) (by simp) (by simp) (Nat.le_refl _)) (by omega) (by omega) (by omega) fun s4 H12 s4l s4h k12 P12 => ?_
      have hq12 : H12 q5 = some (.lst [V.int 1, V.int 1, V.int 1, V.int 2, V.int 9]) := k12 q5 _ (by simpa using nq5p) upd_same
      have K12 := (K11.new nq5).trans k12
      have I12 := (I11.keep ((Kx.refl [] H11).new nq5) (by simp)).keep k12 (by simpa using P7.some.1)
      have hA12 : H12 A = some (.lst (hs.map V.int)) := k12 A _ (by simpa using nAp) (lk_ne hA11 nq5)
      have hL12 : H12 L = some (.lst (ls.map V.int)) := k12 L _ (by simpa using nLp) (lk_ne hL11 nq5)
      clear k12 P11 I11
      obtain ⟨hv, hat5, hv0, hv1⟩ : ∃ hv, atI [V.int 1, V.int 1, V.int 1, V.int 2, V.int 9] s4 = some (.int hv) ∧ 1 ≤ hv ∧ hv ≤ 9 := by
        obtain ⟨z, hz, _, hz2⟩ := at_ints (zs := [1, 1, 1, 2, 9]) s4l (by simpa using s4h)
        refine ⟨z, hz2, ?_⟩
        simp only [List.mem_cons, List.not_mem_nil, or_false] at hz
        omega
      obtain ⟨j0, hj0, hj02, hatj0⟩ := hlab (w := 0) (by omega) (by omega)
      have hix0 : ixN (hs.map V.int).length (j0 : Int) = some j0 := ix_nat (by rw [List.length_map]; omega)
      repeat walk_at "rd"
      have hA13 : upd H12 A (.lst ((hs.map V.int).set j0 (.int hv))) A = some (.lst ((hs.set j0 hv).map V.int)) := by rw [upd_same, List.map_set]
      have hL13 : upd H12 A (.lst ((hs.map V.int).set j0 (.int hv))) L = some (.lst (ls.map V.int)) := (upd_ne nAL.symm).trans hL12
      have I13 : RowsI H7 (upd H12 A (.lst ((hs.map V.int).set j0 (.int hv)))) R rs rows (ls.take al) 40 := I12.other nAR nArs
      have K13 : Kx [p] H (upd H12 A (.lst ((hs.map V.int).set j0 (.int hv)))) := K12.wr (.inl nA0)
      have P13 : PenAt (upd H12 A (.lst ((hs.map V.int).set j0 (.int hv)))) p c (n + 620) := P12.up (upd_ne nAp.symm) (upd_ne (fun e => by obtain ⟨_, o, ho⟩ := P8'.some; rw [← e, ho] at nA; cases nA)) (by omega)
      generalize upd H12 A (.lst ((hs.map V.int).set j0 (.int hv))) = H13 at *
      have hb2 : ∀ z ∈ hs.set j0 hv, 0 ≤ z ∧ z ≤ 9 := by
        intro z hz
        rcases List.mem_or_eq_of_mem_set hz with hz | rfl
        · exact hhb z hz
        · omega
      have hl2 : (hs.set j0 hv).length = ls.length := by rw [List.length_set]; exact hhl
      have hf2 : ∀ m : Nat, m < ls.length → (m : Int) ∉ ls.take al → (hs.set j0 hv)[m]? = some 0 := fun m hm hmt => by rw [List.getElem?_set_ne (fun e => hmt (by rw [← e]; exact hj0))]; exact hhf m hm hmt
      have hg2 : (hs.set j0 hv)[j0]? = some hv := List.getElem?_set_self (by omega)
      generalize hs.set j0 hv = hs2 at *
      clear hA12 hL12 I12 K12 P12 hq12
      refine y_lcL (xs := rs.map V.ref) (SqL.of I13.hR) (fun Z nZ => ⟨fun i H1 => Kx [] H13 H1 ∧ ∃ ts : List Addr, ts.length = i ∧ H1 Z = some (.lst (ts.map V.ref)) ∧ ∀ (m : Nat) (t : Addr) (row : List V), ts[m]? = some t → rows[m]? = some row → FT H1 t row,
        ⟨(Kx.refl _ _).new nZ, [], rfl, upd_same, by simp⟩, ?_, ?_, ?_⟩)
      · rintro i H1 hi ⟨k1, _⟩
        exact k1.sqL (by simp) (SqL.of I13.hR)
      · rintro i x H1 H1' hi ⟨k1, ts, et, eZ, hF⟩ ⟨rfl, hx⟩
        rw [List.length_map] at hi
        rw [List.getElem?_map, List.getElem?_eq_getElem hi] at hx
        cases Option.some.inj hx
        have hi3 : i < rows.length := by rw [I13.len]; exact hi
        have hrow := List.getElem?_eq_getElem hi3
        have hr1 : H1' rs[i] = some (.lst rows[i]) := k1 _ _ (by simp) (I13.at_ i _ _ (List.getElem?_eq_getElem hi) hrow)
        repeat walk_at "rd"
        refine ⟨rfl, ?_⟩
        repeat walk_at "rd"
        intro t o nt ho1 ho2
        have ntZ : t ≠ Z := (ne_of_none eZ nt).symm
        refine ⟨ts.map V.ref, lk_ne eZ nt, small1000 (by rw [List.length_map]; omega), (k1.new nt).wr (.inl nZ), ts ++ [t], by rw [List.length_append, et]; rfl, ?_, ?_⟩
        · rw [upd_same, List.map_append]
          rfl
        · intro m t' row' h1 h2
          by_cases hm : m < ts.length
          · rw [List.getElem?_append_left hm] at h1
            have f := hF m t' row' h1 h2
            have nt' : t' ≠ Z := by
              obtain ⟨ob, e, _⟩ := f
              exact ne_of e eZ (by intro z; cases z)
            obtain ⟨ob, e, f1, f2⟩ := f
            exact ⟨ob, lk_ne2 nt' (lk_ne e nt), f1, f2⟩
          · rw [List.getElem?_append_right (by omega)] at h1
            obtain ⟨e0, e1⟩ := List.getElem?_eq_some_iff.mp h1
            have em : m = i := by
              rw [List.length_singleton] at e0
              omega
            subst em
            rw [hrow] at h2
            simp only [et, Nat.sub_self, List.getElem_cons_zero] at e1
            rw [← e1, ← Option.some.inj h2]
            exact ⟨o, by rw [upd_ne ntZ]; exact upd_same, ho1, ho2⟩
      rintro H14 ⟨k14, ts, et, hZ, hF⟩
      rw [List.length_map, e8] at et
      have hA14 : H14 A = some (.lst (hs2.map V.int)) := k14 A _ (by simp) hA13
      have hL14 : H14 L = some (.lst (ls.map V.int)) := k14 L _ (by simp) hL13
      have K14 := K13.trans (k14.mono (by simp))
      have P14 := P13.keep k14 (by simp) (by simp) (Nat.le_refl _)
      have nZ0 : H Z = none := K13.fresh (by simpa using npfree P13 nZ) nZ
      have nZp := npfree P13 nZ
      have nAZ : A ≠ Z := fun e => by rw [← e, hA13] at nZ; cases nZ
      have nLZ : L ≠ Z := fun e => by rw [← e, hL13] at nZ; cases nZ
      repeat walk_at "rd"
      intro q6 nq6
      have nq6Z : q6 ≠ Z := (ne_of_none hZ nq6).symm
      rw [cut_from, ← List.map_drop]
      refine y_forL (xs := (ls.drop al).map V.int) (SqL.of upd_same) ⟨fun i σ Hx => ∃ (vs : List V) (y5 : Option V), σ = [some (.ref p), some (.int al), some (.int sp), some (.ref L), some (.ref Z), y5, some (.ref A), y7, none] ∧
        Hx Z = some (.lst vs) ∧ vs.length = ls.length ∧ (∀ (m : Nat) (t : Addr), ts[m]? = some t → vs[m]? = some (if (m : Int) ∈ (ls.drop al).take i then V.non else .ref t)) ∧ Kx [Z] (upd H14 q6 (.lst ((ls.drop al).map V.int))) Hx,
        ⟨ts.map V.ref, none, rfl, lk_ne hZ nq6, by rw [List.length_map]; exact et, ?_, Kx.refl _ _⟩, ?_, ?_, ?_⟩
      · intro m t ht
        rw [List.getElem?_map, ht, List.take_zero, if_neg (by simp)]
        rfl
      · rintro i σ Hx hi ⟨vs, y5, rfl, e1, e2, e3, kx⟩
        exact SqL.of (kx _ _ (by simpa using nq6Z) upd_same)
      · rintro i x σ Hx Hx' hi ⟨vs, y5, rfl, e1, e2, e3, kx⟩ ⟨rfl, hx⟩
        rw [List.length_map] at hi
        rw [List.getElem?_map, List.getElem?_eq_getElem hi] at hx
        cases Option.some.inj hx
        have hzm := hmem _ (List.mem_of_mem_drop (List.getElem_mem hi))
        obtain ⟨jz, hjz⟩ : ∃ jz : Nat, (ls.drop al)[i] = jz := ⟨((ls.drop al)[i]).toNat, by omega⟩
        rw [hjz] at hzm
        have hixz : ixN vs.length ((ls.drop al)[i]) = some jz := by
          rw [hjz]
          exact ix_nat (by omega)
        repeat walk_at "rd"
        refine ⟨vs.set jz .non, _, rfl, upd_same, by rw [List.length_set]; exact e2, ?_, kx.wr (.inr (by simp))⟩
        intro m t ht
        have et := List.take_add_one (l := ls.drop al) (i := i)
        rw [List.getElem?_eq_getElem hi] at et
        rw [et]
        by_cases hm : m = jz
        · subst hm
          rw [List.getElem?_set_self (by omega), if_pos (by simp [hjz])]
        · rw [List.getElem?_set_ne (Ne.symm hm), e3 m t ht]
          have : ((m : Int) ∈ (ls.drop al).take i ++ [(ls.drop al)[i]]) ↔ ((m : Int) ∈ (ls.drop al).take i) := by
            rw [List.mem_append, List.mem_singleton, hjz]
            constructor
            · rintro (z | z)
              · exact z
              · exact absurd (Int.ofNat.inj z) hm
            · exact .inl
          simp only [Option.toList_some, this]
      · rintro σ Hx ⟨vs, y5, rfl, e1, e2, e3, kx⟩
        rw [List.length_map, List.take_length] at e3
        have hAx : Hx A = some (.lst (hs2.map V.int)) := kx _ _ (by simpa using nAZ) (lk_ne hA14 nq6)
        have hLx : Hx L = some (.lst (ls.map V.int)) := kx _ _ (by simpa using nLZ) (lk_ne hL14 nq6)
        repeat walk_at "rd"
        intro S nS
        repeat walk_at "rd"
        intro O nO
        repeat walk_at "rd"
        rename_i D nD B nB
        have nZc : c ≠ Z := fun e => by
          obtain ⟨_, o, ho⟩ := P13.some
          rw [e, nZ] at ho
          cases ho
        have KX : Kx [p] H Hx := (K14.new nq6).comb kx nZ0
        have PX : PenAt Hx p c (n + 700) := (P14.keep ((Kx.refl [] H14).new nq6) (by simp) (by simp) (Nat.le_refl _)).keep kx (by simpa using nZp.symm) (by simpa using nZc) (by omega)
        have kf : Kx [] Hx (upd (upd (upd (upd Hx S (.tup vs)) O (.tup (hs2.map V.int))) D (.tup [.ref S, .ref O])) B (.tup [.ref D, .int j0])) := ((((Kx.refl [] Hx).new nS).new nO).new nD).new nB
        have hS : SqT K (upd (upd (upd (upd Hx S (.tup vs)) O (.tup (hs2.map V.int))) D (.tup [.ref S, .ref O])) B (.tup [.ref D, .int j0])) S vs := SqT.of (by walk_at "lk")
        have hO : SqT K (upd (upd (upd (upd Hx S (.tup vs)) O (.tup (hs2.map V.int))) D (.tup [.ref S, .ref O])) B (.tup [.ref D, .int j0])) O (hs2.map V.int) := SqT.of (by walk_at "lk")
        have hD : SqT K (upd (upd (upd (upd Hx S (.tup vs)) O (.tup (hs2.map V.int))) D (.tup [.ref S, .ref O])) B (.tup [.ref D, .int j0])) D [.ref S, .ref O] := SqT.of (by walk_at "lk")
        have hB : (upd (upd (upd (upd Hx S (.tup vs)) O (.tup (hs2.map V.int))) D (.tup [.ref S, .ref O])) B (.tup [.ref D, .int j0])) B = some (.tup [.ref D, .int j0]) := upd_same
        generalize (upd (upd (upd (upd Hx S (.tup vs)) O (.tup (hs2.map V.int))) D (.tup [.ref S, .ref O])) B (.tup [.ref D, .int j0])) = Hf at *
        have hrl : rows.length = ls.length := I13.len.trans e8
        have hsl : ((List.range ls.length).map fun m => if ((m : Nat) : Int) ∈ ls.drop al then (none : Option Rw) else some (((rows[m]?).getD []).map unV)).length = ls.length := by rw [List.length_map, List.length_range]
        have hget : ∀ m, m < ls.length → ((List.range ls.length).map fun m => if ((m : Nat) : Int) ∈ ls.drop al then (none : Option Rw) else some (((rows[m]?).getD []).map unV))[m]? = some (if ((m : Nat) : Int) ∈ ls.drop al then (none : Option Rw) else some (((rows[m]?).getD []).map unV)) := by
          intro m hm
          rw [List.getElem?_map, List.getElem?_range hm]
          rfl
        have hap : ∀ z, z ∈ ls.take al → z ∉ ls.drop al := by
          intro z hz hz2
          have := hnd
          rw [← List.take_append_drop al ls, List.nodup_append] at this
          exact this.2.2 z hz z hz2 rfl
        have hfr : ∀ m : Nat, ((List.range ls.length).map fun m => if ((m : Nat) : Int) ∈ ls.drop al then (none : Option Rw) else some (((rows[m]?).getD []).map unV))[m]? = some none → hs2[m]? = some 0 := by
          intro m hm
          have hm1 : m < ls.length := by
            have := (List.getElem?_eq_some_iff.mp hm).1
            rwa [hsl] at this
          rw [hget m hm1] at hm
          by_cases hd : (m : Int) ∈ ls.drop al
          · exact hf2 m hm1 fun z => hap _ z hd
          · rw [if_neg hd] at hm
            cases hm
        have hlb : ∃ (row : Rw) (z : Int), ((List.range ls.length).map fun m => if ((m : Nat) : Int) ∈ ls.drop al then (none : Option Rw) else some (((rows[m]?).getD []).map unV))[j0]? = some (some row) ∧ hs2[j0]? = some z ∧ 1 ≤ z := by
          refine ⟨((rows[j0]?).getD []).map unV, hv, ?_, hg2, hv0⟩
          rw [hget j0 hj02, if_neg (hap _ hj0)]
        refine k B D j0 _ hs2 Hf hB ⟨S, O, vs, hD, hS, hO, e2.trans hsl.symm, ?_⟩ ⟨hl2.trans hsl.symm, by rw [hsl]; omega, hfr, hb2, ?_, ?_⟩ (by rw [hsl]; omega) hlb (KX.trans (kf.mono (by simp))) (PX.keep kf (by simp) (by simp) (Nat.le_refl _))
        · intro m o ho
          have hm : m < ls.length := by
            have := (List.getElem?_eq_some_iff.mp ho).1
            rwa [hsl] at this
          rw [hget m hm] at ho
          have e4 := e3 m ts[m] (List.getElem?_eq_getElem (by omega))
          by_cases hd : (m : Int) ∈ ls.drop al
          · rw [if_pos hd] at ho e4
            exact .inl ⟨(Option.some.inj ho).symm, e4⟩
          · rw [if_neg hd] at ho e4
            have hm2 : m < rows.length := by omega
            have er := List.getElem?_eq_getElem hm2
            rw [er] at ho
            refine .inr ⟨ts[m], _, (Option.some.inj ho).symm, e4, ?_⟩
            obtain ⟨ob, f0, f1, f2⟩ := hF m ts[m] rows[m] (List.getElem?_eq_getElem (by omega)) er
            have nt : ts[m] ≠ Z := ne_of f0 hZ (by intro z; cases z)
            refine ⟨ob, kf _ _ (by simp) (kx _ _ (by simpa using nt) (lk_ne ?_ nq6)), f1, f2⟩
            rw [f0]
            have := (I13.good rows[m] (List.getElem_mem hm2)).2
            have ev : rowV ((some rows[m]).getD [] |>.map unV) = rows[m] := by
              unfold rowV
              show ((rows[m]).map unV).map slotV = rows[m]
              rw [List.map_map]
              have : ∀ v ∈ rows[m], (slotV ∘ unV) v = v := by
                intro v hv
                rcases this v hv with rfl | ⟨z, hz, rfl⟩
                · rfl
                · have := hmem z (List.mem_of_mem_take hz)
                  show V.int ((z.toNat : Nat) : Int) = V.int z
                  rw [show ((z.toNat : Nat) : Int) = z by omega]
              rw [List.map_congr_left this, List.map_id']
            rw [ev]
        · intro row hrow
          obtain ⟨m, hm, e⟩ := List.mem_map.mp hrow
          have hm := List.mem_range.mp hm
          by_cases hd : (m : Int) ∈ ls.drop al
          · rw [if_pos hd] at e
            cases e
          · rw [if_neg hd, List.getElem?_eq_getElem (show m < rows.length by omega)] at e
            rw [← Option.some.inj e, List.length_map]
            exact (I13.good _ (List.getElem_mem (show m < rows.length by omega))).1
        · intro row hrow k hk
          obtain ⟨m, hm, e⟩ := List.mem_map.mp hrow
          have hm := List.mem_range.mp hm
          by_cases hd : (m : Int) ∈ ls.drop al
          · rw [if_pos hd] at e
            cases e
          · rw [if_neg hd, List.getElem?_eq_getElem (show m < rows.length by omega)] at e
            rw [← Option.some.inj e] at hk
            obtain ⟨v, hv, ev⟩ := List.mem_map.mp hk
            rcases (I13.good _ (List.getElem_mem (show m < rows.length by omega))).2 v hv with rfl | ⟨z, hz, rfl⟩
            · cases ev
            · have h3 := hmem z (List.mem_of_mem_take hz)
              have ek : z.toNat = k := Option.some.inj ev
              have hk2 : (k : Int) = z := by omega
              have e9 := hget k (by omega)
              rw [if_neg (by rw [hk2]; exact hap z hz)] at e9
              exact ⟨_, e9⟩
end


/-- a heap at D, its rows any tuples -/
structure HeapT (K : PySem.W.Frag) (H : Hp) (D : Addr) (slots : List (Option Rw)) (outs : List Int) : Prop where
  ex : ∃ (S O : Addr) (vs : List V), SqT K H D [.ref S, .ref O] ∧ SqT K H S vs ∧ SqT K H O (outs.map V.int) ∧ vs.length = slots.length ∧
    ∀ (i : Nat) (o : Option Rw), slots[i]? = some o → (o = none ∧ vs[i]? = some V.non) ∨ ∃ r row, o = some row ∧ vs[i]? = some (.ref r) ∧ SqT K H r (rowV row)
theorem HeapAt.toT {K : PySem.W.Frag} {H : Hp} {D : Addr} {slots : List (Option Rw)} {outs : List Int} (h : HeapAt K H D slots outs) : HeapT K H D slots outs := by
  obtain ⟨S, O, vs, h1, h2, h3, h4, h5⟩ := h.ex
  refine ⟨S, O, vs, h1, h2, h3, h4, fun i o ho => ?_⟩
  rcases h5 i o ho with z | ⟨r, row, e1, e2, e3⟩
  · exact .inl z
  · exact .inr ⟨r, row, e1, e2, e3.seq⟩
theorem HeapT.keep {K : PySem.W.Frag} {H H' : Hp} {D : Addr} {slots : List (Option Rw)} {outs : List Int} (h : HeapT K H D slots outs) (k : Kx [] H H') : HeapT K H' D slots outs := by
  obtain ⟨S, O, vs, h1, h2, h3, h4, h5⟩ := h.ex
  refine ⟨S, O, vs, k.sqT (by simp) h1, k.sqT (by simp) h2, k.sqT (by simp) h3, h4, fun i o ho => ?_⟩
  rcases h5 i o ho with z | ⟨r, row, e1, e2, e3⟩
  · exact .inl z
  · exact .inr ⟨r, row, e1, e2, k.sqT (by simp) e3⟩
def slotD : Option Nat → PyData
  | none => .none
  | some k => .int k
def rowD : Option Rw → PyData
  | none => .none
  | some l => .tuple (l.map slotD)
def heapD (slots : List (Option Rw)) (outs : List Int) : PyData := .tuple [.tuple (slots.map rowD), .tuple (outs.map .int)]
theorem dp_slots {K : PySem.W.Frag} {H : Hp} : ∀ l : Rw, DpAll K H (rowV l) (l.map slotD)
  | [] => .nil
  | none :: r => .cons .non (dp_slots r)
  | some k :: r => .cons (.int k) (dp_slots r)
theorem dpAll_at {K : PySem.W.Frag} {H : Hp} : ∀ {vs : List V} {ds : List PyData}, vs.length = ds.length → (∀ (i : Nat) (d : PyData), ds[i]? = some d → ∃ v, vs[i]? = some v ∧ Dp K H v d) → DpAll K H vs ds
  | [], [], _, _ => .nil
  | [], _ :: _, h, _ => by cases h
  | _ :: _, [], h, _ => by cases h
  | v :: vs, d :: ds, h, q => by
    obtain ⟨v', e, hd⟩ := q 0 d rfl
    cases Option.some.inj e
    exact .cons hd (dpAll_at (Nat.succ.inj h) fun i d' hi => q (i + 1) d' hi)
theorem dp_intsT {K : PySem.W.Frag} {H : Hp} : ∀ cs : List Int, DpAll K H (cs.map V.int) (cs.map PyData.int)
  | [] => .nil
  | z :: r => .cons (.int z) (dp_intsT r)
theorem HeapT.dp {K : PySem.W.Frag} {H : Hp} {D : Addr} {slots : List (Option Rw)} {outs : List Int} (h : HeapT K H D slots outs) : Dp K H (.ref D) (heapD slots outs) := by
  obtain ⟨S, O, vs, h1, h2, h3, h4, h5⟩ := h.ex
  refine .tup h1 (.cons (.tup h2 (dpAll_at (by rw [List.length_map]; exact h4) ?_)) (.cons (.tup h3 (dp_intsT outs)) .nil))
  intro i d hd
  rw [List.getElem?_map] at hd
  cases e : slots[i]? with
  | none => rw [e] at hd; cases hd
  | some o =>
    rw [e] at hd
    cases Option.some.inj hd
    rcases h5 i o e with ⟨rfl, z⟩ | ⟨r, row, rfl, z, f⟩
    · exact ⟨_, z, .non⟩
    · exact ⟨_, z, .tup f (dp_slots row)⟩
theorem good_heap {slots : List (Option Rw)} {outs : List Int} (w : Wf slots outs) : Good (heapD slots outs) 3 (2 * (40 * (40 * 32 + 1) + 1)) := by
  have hrow : ∀ row, some row ∈ slots → Good (rowD (some row)) 1 (40 * 32) := by
    intro row hr
    refine Good.tuple (n := 40) ?_ (by rw [List.length_map]; exact w.row row hr)
    intro d hd
    obtain ⟨s, hs, rfl⟩ := List.mem_map.mp hd
    cases s with
    | none => exact Good.none.mono (Nat.le_refl _) (by decide)
    | some k =>
      obtain ⟨r, e⟩ := w.live row hr k hs
      have hk := (List.getElem?_eq_some_iff.mp e).1
      have := w.most
      exact Good.int (by show ((k : Int)).natAbs < _; omega)
  refine Good.tuple (n := 2) (k := 2) (w := 40 * (40 * 32 + 1)) ?_ (by simp)
  intro d hd
  simp only [List.mem_cons, List.not_mem_nil, or_false] at hd
  rcases hd with rfl | rfl
  · refine Good.tuple ?_ (by rw [List.length_map]; exact w.most)
    intro d hd
    obtain ⟨o, ho, rfl⟩ := List.mem_map.mp hd
    cases o with
    | none => exact Good.none.mono (by decide) (by decide)
    | some row => exact hrow row ho
  · refine (Good.tuple (k := 0) (w := 31) (n := 40) ?_ (by rw [List.length_map, w.len]; exact w.most)).mono (by decide) (by decide)
    intro d hd
    obtain ⟨z, hz, rfl⟩ := List.mem_map.mp hd
    have := w.outs z hz
    exact Good.int (by omega)
/-! ### what the program says of a heap -/
def isLive (slots : List (Option Rw)) (m : Nat) : Bool := ((slots[m]?).getD none).isSome
def liveUp (slots : List (Option Rw)) (n : Nat) : List Int := ((List.range n).filter (isLive slots)).map fun (m : Nat) => (m : Int)
theorem liveUp_succ (slots : List (Option Rw)) (n : Nat) : liveUp slots (n + 1) = if isLive slots n then liveUp slots n ++ [(n : Int)] else liveUp slots n := by
  unfold liveUp
  rw [List.range_succ, List.filter_append, List.map_append]
  cases h : isLive slots n
  · simp [List.filter, h]
  · simp [List.filter, h]
theorem liveUp_len (slots : List (Option Rw)) (n : Nat) : (liveUp slots n).length ≤ n := by
  unfold liveUp
  rw [List.length_map]
  exact Nat.le_trans (List.length_filter_le _ _) (by rw [List.length_range]; exact Nat.le_refl _)
def cntO (k : Nat) : Option Rw → Nat
  | none => 0
  | some row => row.count (some k)
/-- how many slots hold k -/
def useC (slots : List (Option Rw)) (k : Nat) : Nat := (slots.map (cntO k)).sum
def useL (slots : List (Option Rw)) : List Int := (List.range slots.length).map fun k => (useC slots k : Int)
def countV (slots : List (Option Rw)) (outs : List Int) (m : Nat) : V := if isLive slots m then .int ((outs[m]?).getD 0 + useC slots m) else .non
def countsV (slots : List (Option Rw)) (outs : List Int) : List V := (List.range slots.length).map (countV slots outs)
section
variable {P : Program} {w : World} {K : PySem.W.Frag} {mg : Str → Option Value} {base : Heap}
def spLive (K : PySem.W.Frag) : Sp := fun vs H Q _ => ∃ (D : Addr) (slots : List (Option Rw)) (outs : List Int), vs = [.ref D] ∧ HeapT K H D slots outs ∧ Wf slots outs ∧
  ∀ p H', H p = none → Kx [] H H' → H' p = some (.lst ((liveUp slots slots.length).map V.int)) → Q (.ref p) H'
theorem ok_live {f : Addr} {fd : FuncData} (F : Fun K "live_nodes" "live_nodes" sLiveNodes f fd) (T : Txt mg) : FnOk P w K mg base CX0 1 f fd ["heap"] (spLive K) := by
  refine F.ok scLiveNodes (fun vs H Q E h => ?_) (fun cdv A outer s H vs Q E hr h => ?_)
  · obtain ⟨D, slots, outs, rfl, _⟩ := h
    rfl
  · obtain ⟨D, slots, outs, rfl, ⟨S, O, vs, hD, hS, hO, hl, hv⟩, wf, k⟩ := h
    refine ⟨_, (pss_one (ps_ret (pe_lc (own := [("node", 1), ("row", 2)]) rfl scLiveNodes.nd (pi_enumT (by rfl) T.b_enumerate (pa_cons (pe_ix ix_tup (pv 0) pe_int (fun _ _ => rfl)) pa_nil)) (blkOk_by (N := ["heap", "node", "row"]) (sc := defScope sLiveNodes) (by decide +kernel)) (fun _ _ _ _ _ => (pg_tupK (K := K) (n := 2) rfl rfl (pgs_cons (pg_name (i := 1) scLiveNodes.nd rfl (Or.inl rfl)) (pgs_cons (pg_name (i := 2) scLiveNodes.nd rfl (Or.inl rfl)) pgs_nil)))) (fun _ _ _ _ _ => (pts_one (pt_cmpR op_notN1 (pv 2) pe_non (nomark _)))) (fun _ _ _ _ _ => (pv 1))))), ?_⟩
    refine x_start (σ' := [some (.ref D), none, none]) rfl ?_
    dsimp only [cxOf]
    repeat walk_at "rd"
    refine y_lcET (xs := vs) hS (fun Z nZ => ⟨fun i H1 => Kx [] H H1 ∧ H1 Z = some (.lst ((liveUp slots i).map V.int)), ⟨(Kx.refl _ _).new nZ, upd_same⟩, ?_, ?_, ?_⟩)
    · rintro i H1 hi ⟨k1, _⟩
      exact k1.sqT (by simp) hS
    · rintro i x H1 H1' hi ⟨k1, e1⟩ ⟨U, x1, x2, rfl, nU, rfl, f1, f2⟩
      cases f1
      have nUZ : Z ≠ U := ne_of_none e1 nU
      have h40 := wf.most
      repeat walk_at "rd"
      refine ⟨rfl, ?_⟩
      have hs : i < slots.length := by omega
      repeat walk_at "rd"
      have es := List.getElem?_eq_getElem hs
      have hlen := liveUp_len slots i
      rcases hv i _ es with ⟨e, z⟩ | ⟨r, row, e, z, _⟩
      · cases Option.some.inj (z.symm.trans f2)
        refine iteF ⟨(k1.new nU), ?_⟩
        rw [liveUp_succ, if_neg (by simp [isLive, es, e])]
        exact lk_ne e1 nU
      · cases Option.some.inj (z.symm.trans f2)
        refine iteT ?_
        repeat walk_at "rd"
        refine ⟨_, lk_ne e1 nU, small1000 (by rw [List.length_map]; omega), (k1.new nU).wr (.inl nZ), ?_⟩
        rw [upd_same, liveUp_succ, if_pos (by simp [isLive, es, e]), List.map_append]
        rfl
    · rintro H1 ⟨k1, e1⟩
      rw [hl] at e1
      exact k Z H1 nZ k1 e1
end


section
variable {P : Program} {w : World} {K : PySem.W.Frag} {mg : Str → Option Value} {base : Heap}

def spIsIntD (K : PySem.W.Frag) : Sp := fun vs H Q _ => ∃ (v : V) (d : PyData), vs = [v] ∧ Dp K H v d ∧ Q (.bl (isI d)) H
theorem ok_isIntD {f : Addr} {fd : FuncData} (F : Fun K "is_integer" "is_integer" sIsInteger f fd) (T : Txt mg) : FnOk P w K mg base CX0 1 f fd ["value"] (spIsIntD K) := by
  refine F.ok scIsInteger (fun vs H Q E h => ?_) (fun cdv A outer s H vs Q E hr h => ?_)
  · obtain ⟨v, d, rfl, _⟩ := h
    rfl
  · obtain ⟨v, d, rfl, hd, k⟩ := h
    refine ⟨_, (pss_one (ps_ret (pe_and (pe_callB call_isi (by rfl) T.b_isinstance boot'_isinstance (pa_cons (pv 0) (pa_cons (pe_bltn (v := .ty "int") (by rfl) T.b_int boot'_int rfl) pa_nil))) (pe_one (pe_not (pe_callB call_isi (by rfl) T.b_isinstance boot'_isinstance (pa_cons (pv 0) (pa_cons (pe_bltn (v := .ty "bool") (by rfl) T.b_bool boot'_bool rfl) pa_nil)))))))), ?_⟩
    refine x_start (σ' := [some v]) rfl ?_
    try dsimp only [cxOf]
    have hd' := hd
    cases hd' <;>
    (repeat walk_at "rd"
     first
      | exact k
      | (refine x_isiDI hd ?_
         dsimp only [isIB, isI] at k ⊢
         repeat walk_at "rd"
         first
          | exact k
          | (refine x_isiDB hd ?_
             dsimp only [isB]
             repeat walk_at "rd"
             exact k)))
def btw (a b : Int) : PyData → Bool
  | .int i => decide (a ≤ i) && decide (i ≤ b)
  | _ => false
theorem btw_int (a b i : Int) : btw a b (.int i) = (decide (a ≤ i) && decide (i ≤ b)) := rfl
def spBtw (K : PySem.W.Frag) : Sp := fun vs H Q _ => ∃ (v : V) (d : PyData) (a b : Int), vs = [v, .int a, .int b] ∧ Dp K H v d ∧ Q (.bl (btw a b d)) H
theorem ok_btw {f : Addr} {fd : FuncData} (F : Fun K "is_between" "is_between" sIsBetween f fd) (T : Txt mg) (l_is_integer : Lo P w K mg base "is_integer" 1 ["value"] (spIsIntD K)) : FnOk P w K mg base CX0 2 f fd ["value", "low", "high"] (spBtw K) := by
  refine F.ok scIsBetween (fun vs H Q E h => ?_) (fun cdv A outer s H vs Q E hr h => ?_)
  · obtain ⟨v, d, a, b, rfl, _⟩ := h
    rfl
  · obtain ⟨v, d, a, b, rfl, hd, k⟩ := h
    refine ⟨_, (pss_one (ps_ret (pe_and (pe_lo l_is_integer (hr.mono (by decide)) (by rfl) (pa_cons (pv 0) pa_nil)) (pe_one (pe_chain op_le op_le (pv 1) (pv 0) (pv 2)))))), ?_⟩
    refine x_start (σ' := [some v, some (.int a), some (.int b)]) rfl ?_
    try dsimp only [cxOf]
    repeat walk_at "rd"
    refine ⟨v, d, rfl, hd, ?_⟩
    cases hd with
    | int i =>
      dsimp only [isI]
      repeat walk_at "rd"
      by_cases h1 : a ≤ i
      · refine iteP (decide_eq_true h1) ?_
        repeat walk_at "rd"
        rw [btw_int, decide_eq_true h1, Bool.true_and] at k
        exact k
      · refine iteN (decide_eq_false h1) ?_
        repeat walk_at "rd"
        rw [btw_int, decide_eq_false h1, Bool.false_and] at k
        exact k
    | _ =>
      dsimp only [isI]
      repeat walk_at "rd"
      exact k
/-- the data d is a live node -/
def liveD (slots : List (Option Rw)) : PyData → Bool
  | .int i => decide (0 ≤ i) && isLive slots i.toNat
  | _ => false
theorem liveD_int (slots : List (Option Rw)) (i : Int) : liveD slots (.int i) = (decide (0 ≤ i) && ((slots[i.toNat]?).getD none).isSome) := rfl
def spIsLive (K : PySem.W.Frag) : Sp := fun vs H Q _ => ∃ (D : Addr) (v : V) (d : PyData) (slots : List (Option Rw)) (outs : List Int), vs = [.ref D, v] ∧ HeapT K H D slots outs ∧ Dp K H v d ∧ Q (.bl (liveD slots d)) H
theorem ok_isLive {f : Addr} {fd : FuncData} (F : Fun K "is_live" "is_live" sIsLive f fd) (T : Txt mg) (l_is_between : Lo P w K mg base "is_between" 2 ["value", "low", "high"] (spBtw K)) : FnOk P w K mg base CX0 3 f fd ["heap", "value"] (spIsLive K) := by
  refine F.ok scIsLive (fun vs H Q E h => ?_) (fun cdv A outer s H vs Q E hr h => ?_)
  · obtain ⟨D, v, d, slots, outs, rfl, _⟩ := h
    rfl
  · obtain ⟨D, v, d, slots, outs, rfl, hT, hd, k⟩ := h
    obtain ⟨S, O, vs, hD, hS, hO, hl, hv⟩ := hT.ex
    refine ⟨_, (pss_cons (ps_set (i := 2) scIsLive.nd rfl (Or.inl rfl) (pe_ix ix_tup (pv 0) pe_int (fun _ _ => rfl)))
      (pss_one (ps_ret (pe_and (pe_lo l_is_between (hr.mono (by decide)) (by rfl) (pa_cons (pv 1) (pa_cons pe_int (pa_cons (pe_op op_sub (pe_callB call_len_seq (by rfl) T.b_len boot'_len (pa_cons (pv 2) pa_nil)) pe_int) pa_nil)))) (pe_one (pe_cmpR op_notN1 (pe_ix ix_tup (pv 2) (pv 1) (fun _ _ => rfl)) pe_non (nomark _))))))), ?_⟩
    refine x_start (σ' := [some (.ref D), some v, none]) rfl ?_
    try dsimp only [cxOf]
    repeat walk_at "rd"
    refine ⟨v, d, _, _, rfl, hd, ?_⟩
    rw [hl]
    cases hb : btw 0 ((slots.length : Nat) - 1 : Int) d with
    | false =>
      repeat walk_at "rd"
      have : liveD slots d = false := by
        cases d with
        | int i =>
          rw [btw_int] at hb
          rw [liveD_int]
          by_cases h0 : 0 ≤ i
          · rw [decide_eq_true h0, Bool.true_and] at hb
            have := of_decide_eq_false hb
            rw [List.getElem?_eq_none (by omega)]
            simp
          · rw [decide_eq_false h0, Bool.false_and]
        | _ => rfl
      rw [this] at k
      exact k
    | true =>
      cases hd with
      | int i =>
        rw [btw_int, Bool.and_eq_true] at hb
        have h0 := of_decide_eq_true hb.1
        have h1 := of_decide_eq_true hb.2
        obtain ⟨n, rfl⟩ : ∃ n : Nat, i = n := ⟨i.toNat, by omega⟩
        have hn : n < slots.length := by omega
        have es := List.getElem?_eq_getElem hn
        repeat walk_at "rd"
        rcases hv n _ es with ⟨e, z⟩ | ⟨r, row, e, z, _⟩
        · have hz : atI vs (n : Int) = some .non := atI_nat z
          repeat walk_at "rd"
          have : liveD slots (.int (n : Int)) = false := by
            rw [liveD_int, Int.toNat_natCast, es, e]
            simp
          rw [this] at k
          exact k
        · have hz : atI vs (n : Int) = some (.ref r) := atI_nat z
          repeat walk_at "rd"
          have : liveD slots (.int (n : Int)) = true := by
            rw [liveD_int, Int.toNat_natCast, es, e]
            simp
          rw [this] at k
          exact k
      | _ => cases hb
def spNeedL (K : PySem.W.Frag) : Sp := fun vs H Q _ => ∃ (D : Addr) (v : V) (d : PyData) (slots : List (Option Rw)) (outs : List Int), vs = [.ref D, v] ∧ HeapT K H D slots outs ∧ Dp K H v d ∧ liveD slots d = true ∧ Q .non H
theorem ok_needL {f : Addr} {fd : FuncData} (F : Fun K "need_live" "need_live" sNeedLive f fd) (T : Txt mg) (l_is_live : Lo P w K mg base "is_live" 3 ["heap", "value"] (spIsLive K)) : FnOk P w K mg base CX0 4 f fd ["heap", "node"] (spNeedL K) := by
  refine F.ok scNeedLive (fun vs H Q E h => ?_) (fun cdv A outer s H vs Q E hr h => ?_)
  · obtain ⟨D, v, d, slots, outs, rfl, _⟩ := h
    rfl
  · obtain ⟨D, v, d, slots, outs, rfl, hT, hd, hl, k⟩ := h
    refine ⟨_, (pss_one (ps_if (pt_not (pt_val (pe_lo l_is_live (hr.mono (by decide)) (by rfl) (pa_cons (pv 0) (pa_cons (pv 1) pa_nil))))) (pss_one ps_never) pss_nil)), ?_⟩
    refine x_start (σ' := [some (.ref D), some v]) rfl ?_
    try dsimp only [cxOf]
    repeat walk_at "rd"
    refine ⟨D, v, d, slots, outs, rfl, hT, hd, ?_⟩
    rw [hl]
    repeat walk_at "rd"
    refine iteN (by decide) ?_
    repeat walk_at "rd"
    exact k
/-- a live node passes; what is none is refused -/
def spNeedLX (K : PySem.W.Frag) (C : Addr) : Sp := fun vs H Q E => ∃ (D : Addr) (v : V) (d : PyData) (slots : List (Option Rw)) (outs : List Int), vs = [.ref D, v] ∧ HeapT K H D slots outs ∧ Dp K H v d ∧ ((liveD slots d = true ∧ Q .non H) ∨
  (liveD slots d = false ∧ ∀ dd H', H' dd = some (.xd [("node", v)]) → Kx [] H H' → E (.ref C) (some dd) H'))
theorem ok_needLX {f C_NoNode : Addr} {fd : FuncData} (F : Fun K "need_live" "need_live" sNeedLive f fd) (T : Txt mg) (l_is_live : Lo P w K mg base "is_live" 3 ["heap", "value"] (spIsLive K))
    (n_NoNode : LxB P w K mg base "NoNode" C_NoNode 1 ["self", "node"] (spI1 C_NoNode "node") bmLE "LookupError.__new__") : FnOk P w K mg base (L2.CX P w) 4 f fd ["heap", "node"] (spNeedLX K C_NoNode) := by
  refine F.okX scNeedLive (fun vs H Q E h => ?_) (fun cdv A outer s H vs Q E hr h => ?_)
  · obtain ⟨D, v, d, slots, outs, rfl, _⟩ := h
    rfl
  · obtain ⟨D, v, d, slots, outs, rfl, hT, hd, hk⟩ := h
    refine ⟨_, (pss_one (ps_if (pt_not (pt_val (pe_lo l_is_live (hr.mono (by decide)) (by rfl) (pa_cons (pv 0) (pa_cons (pv 1) pa_nil))))) (pss_one (ps_raise rfl (takes_of rfl rfl rfl rfl) (pmk_lx n_NoNode (hr.mono (by decide)) (by rfl) (pa_cons (pv 1) pa_nil)))) pss_nil)), ?_⟩
    refine x_start (σ' := [some (.ref D), some v]) rfl ?_
    try dsimp only [cxOf]
    repeat walk_at "rd"
    refine ⟨D, v, d, slots, outs, rfl, hT, hd, ?_⟩
    rcases hk with ⟨hl, q⟩ | ⟨hl, k⟩
    · rw [hl]
      repeat walk_at "rd"
      refine iteN (by decide) ?_
      repeat walk_at "rd"
      exact q
    · rw [hl]
      repeat walk_at "rd"
      refine iteP (by decide) ?_
      refine x_mk ?_
      repeat walk_at "rd"
      exact x_mkE fun dd H' nd e k' => k dd H' e k'
end

section
variable {P : Program} {w : World} {K : PySem.W.Frag} {mg : Str → Option Value} {base : Heap}

theorem ok_iNN {f : Addr} {fd : FuncData} {C : Addr} (F : Fun K "__init__" "NoNode.__init__" sNoNodeInit f fd) (t : ExB K C bmLE "LookupError.__new__") (hno : PySem.W.takerIn K C "node" = some none) : FnOk P w K mg base CX0 1 f fd ["self", "node"] (spI1 C "node") := by
  refine F.ok scNoNodeInit (fun vs H Q E h => ?_) (fun cdv A outer s H vs Q E hr h => ?_)
  · obtain ⟨a, v, rfl, _⟩ := h
    rfl
  · obtain ⟨a, v, rfl, ha, k⟩ := h
    refine ⟨_, (pss_one (ps_stB exF_LE (pv 0) (pv 1))), ?_⟩
    refine x_start (σ' := [some (.ref a), some v]) rfl ?_
    try dsimp only [cxOf]
    refine ⟨v, rfl, .ref a, rfl, a, C, rfl, t, hno, ha, fun dx hd hne => ?_⟩
    exact k dx hd hne
end


section
variable {P : Program} {w : World} {K : PySem.W.Frag} {mg : Str → Option Value} {base : Heap}

/-- pairs of ints lie at ys, as tuples -/
def PairsAt (H : Hp) (ys : List V) (ps : List (Nat × Nat)) : Prop := ys.length = ps.length ∧ ∀ (j : Nat) (p : Nat × Nat), ps[j]? = some p → ∃ r : Addr, ys[j]? = some (.ref r) ∧ H r = some (.tup [.int p.1, .int p.2])
theorem PairsAt.nil {H : Hp} : PairsAt H [] [] := ⟨rfl, fun j p h => by cases h⟩
theorem PairsAt.keep {H H' : Hp} {ys : List V} {ps : List (Nat × Nat)} (h : PairsAt H ys ps) (k : ∀ b xs, H b = some (.tup xs) → H' b = some (.tup xs)) : PairsAt H' ys ps := ⟨h.1, fun j p hp => by
  obtain ⟨r, e1, e2⟩ := h.2 j p hp
  exact ⟨r, e1, k _ _ e2⟩⟩
theorem PairsAt.snoc {H : Hp} {ys : List V} {ps : List (Nat × Nat)} {r : Addr} {p : Nat × Nat} (h : PairsAt H ys ps) (e : H r = some (.tup [.int p.1, .int p.2])) : PairsAt H (ys ++ [.ref r]) (ps ++ [p]) := by
  refine ⟨by rw [List.length_append, List.length_append, h.1]; rfl, fun j q hq => ?_⟩
  rcases Nat.lt_trichotomy j ps.length with lt | rfl | gt
  · rw [List.getElem?_append_left lt] at hq
    obtain ⟨r', e1, e2⟩ := h.2 j q hq
    exact ⟨r', by rw [List.getElem?_append_left (by rw [h.1]; exact lt)]; exact e1, e2⟩
  · rw [List.getElem?_append_right (Nat.le_refl _), Nat.sub_self] at hq
    cases hq
    exact ⟨r, by rw [← h.1, List.getElem?_append_right (Nat.le_refl _), Nat.sub_self]; rfl, e⟩
  · rw [List.getElem?_eq_none (by rw [List.length_append, List.length_singleton]; omega)] at hq
    cases hq
def pairsD (ps : List (Nat × Nat)) : PyData := .list (ps.map fun p => PyData.tuple [.int p.1, .int p.2])
theorem PairsAt.dp {H : Hp} {ys : List V} {ps : List (Nat × Nat)} (h : PairsAt H ys ps) : DpAll K H ys (ps.map fun p => PyData.tuple [.int p.1, .int p.2]) := by
  refine dpAll_at (by rw [h.1, List.length_map]) fun i d hd => ?_
  rw [List.getElem?_map] at hd
  cases e : ps[i]? with
  | none => rw [e] at hd; cases hd
  | some p =>
    rw [e] at hd
    cases Option.some.inj hd
    obtain ⟨r, e1, e2⟩ := h.2 i p e
    exact ⟨_, e1, .tup (SqT.of e2) (.cons (.int _) (.cons (.int _) .nil))⟩
/-- the places below n of a row of m that hold k -/
def hitsN (k m : Nat) (row : Rw) (n : Nat) : List (Nat × Nat) := ((List.range n).filter fun j => row[j]? == some (some k)).map fun j => (m, j)
theorem hitsN_succ (k m : Nat) (row : Rw) (n : Nat) : hitsN k m row (n + 1) = if row[n]? = some (some k) then hitsN k m row n ++ [(m, n)] else hitsN k m row n := by
  unfold hitsN
  rw [List.range_succ, List.filter_append, List.map_append]
  by_cases h : row[n]? = some (some k)
  · rw [if_pos h]
    simp [List.filter, h]
  · rw [if_neg h]
    have hb : (row[n]? == some (some k)) = false := by simpa using h
    simp [List.filter, hb]
theorem hitsN_len (k m : Nat) (row : Rw) (n : Nat) : (hitsN k m row n).length ≤ n := by
  unfold hitsN
  rw [List.length_map]
  exact Nat.le_trans (List.length_filter_le _ _) (by rw [List.length_range]; exact Nat.le_refl _)
def hit (slots : List (Option Rw)) (k m : Nat) : List (Nat × Nat) := match slots[m]? with
  | some (some row) => hitsN k m row row.length
  | _ => []
def holdL (slots : List (Option Rw)) (k n : Nat) : List (Nat × Nat) := (List.range n).flatMap (hit slots k)
theorem holdL_succ (slots : List (Option Rw)) (k n : Nat) : holdL slots k (n + 1) = holdL slots k n ++ hit slots k n := by
  unfold holdL
  rw [List.range_succ, List.flatMap_append]
  simp
theorem hit_len {slots : List (Option Rw)} (h : ∀ row, some row ∈ slots → row.length ≤ 40) (k m : Nat) : (hit slots k m).length ≤ 40 := by
  unfold hit
  split
  · rename_i row e
    exact Nat.le_trans (hitsN_len _ _ _ _) (h row (List.mem_of_getElem? e))
  · exact Nat.zero_le _
theorem holdL_len {slots : List (Option Rw)} (h : ∀ row, some row ∈ slots → row.length ≤ 40) (k : Nat) : ∀ n : Nat, (holdL slots k n).length ≤ 40 * n
  | 0 => Nat.zero_le _
  | n + 1 => by
    rw [holdL_succ, List.length_append]
    have := holdL_len h k n
    have := hit_len h k n
    omega
/-- the first t live nodes' hits -/
def liveN (slots : List (Option Rw)) (n : Nat) : List Nat := (List.range n).filter (isLive slots)
theorem liveUp_eq (slots : List (Option Rw)) (n : Nat) : liveUp slots n = (liveN slots n).map fun (m : Nat) => (m : Int) := rfl
theorem hold_live (slots : List (Option Rw)) (k : Nat) : ∀ n : Nat, (liveN slots n).flatMap (hit slots k) = holdL slots k n
  | 0 => rfl
  | n + 1 => by
    rw [holdL_succ, ← hold_live slots k n]
    unfold liveN
    rw [List.range_succ, List.filter_append, List.flatMap_append]
    congr 1
    cases h : isLive slots n with
    | true => simp [List.filter, h]
    | false =>
      have : hit slots k n = [] := by
        unfold hit
        unfold isLive at h
        split
        · rename_i row e
          rw [e] at h
          cases h
        · rfl
      simp [List.filter, h, this]
theorem flat_len {slots : List (Option Rw)} (h : ∀ row, some row ∈ slots → row.length ≤ 40) (k : Nat) : ∀ l : List Nat, (l.flatMap (hit slots k)).length ≤ 40 * l.length
  | [] => Nat.zero_le _
  | a :: l => by
    rw [List.flatMap_cons, List.length_append, List.length_cons]
    have := flat_len h k l
    have := hit_len h k a
    omega
theorem size4000 {n : Nat} (h : n < 4000) : n < sizeLine := by
  rw [sizeLine_eq]
  omega
theorem kt_upd {H : Hp} {D : Addr} {ys zs : List V} (e : H D = some (.lst ys)) : ∀ b xs, H b = some (.tup xs) → (upd H D (.lst zs)) b = some (.tup xs) := fun b xs h => by
  rw [upd_ne (fun z => by rw [z, e] at h; cases h)]
  exact h
def spHold (K : PySem.W.Frag) : Sp := fun vs H Q _ => ∃ (D : Addr) (k : Nat) (slots : List (Option Rw)) (outs : List Int), vs = [.ref D, .int k] ∧ HeapT K H D slots outs ∧ Wf slots outs ∧ isLive slots k = true ∧
  ∀ p H' ys, H p = none → Kx [] H H' → H' p = some (.lst ys) → PairsAt H' ys (holdL slots k slots.length) → Q (.ref p) H'
theorem ok_hold {f C : Addr} {fd : FuncData} (F : Fun K "holders" "holders" sHolders f fd) (T : Txt mg) (l_need_live : Lo P w K mg base "need_live" 4 ["heap", "node"] (spNeedL K)) (l_live_nodes : Lo P w K mg base "live_nodes" 1 ["heap"] (spLive K)) : FnOk P w K mg base CX0 5 f fd ["heap", "node"] (spHold K) := by
  refine F.ok scHolders (fun vs H Q E h => ?_) (fun cdv A outer s H vs Q E hr h => ?_)
  · obtain ⟨D, k, slots, outs, rfl, _⟩ := h
    rfl
  · obtain ⟨D, kk, slots, outs, rfl, hT, wf, hlv, k⟩ := h
    refine ⟨_, (pss_cons (ps_expr (pe_lo l_need_live (hr.mono (by decide)) (by rfl) (pa_cons (pv 0) (pa_cons (pv 1) pa_nil))))
      (pss_one (ps_ret (pe_lc2 (own := [("holder", 2), ("slot", 3), ("held", 4)]) (vs1 := [3, 4]) rfl scHolders.nd (pi_list (pe_lo l_live_nodes (hr.mono (by decide)) (by rfl) (pa_cons (pv 0) pa_nil))) (blkOk_by (N := ["heap", "node", "holder", "slot", "held"]) (sc := defScope sHolders) (by decide +kernel)) (by decide) (fun _ _ _ _ _ => (pg_name (i := 2) scHolders.nd rfl (Or.inl rfl))) (fun _ _ _ _ _ => pts_nil) (fun _ _ _ _ _ => (pi_enumTK (K := K) (by rfl) T.b_enumerate (pa_cons (pe_ix ix_tupK (pe_ix ix_tupK (pv 0) pe_int (fun _ _ => rfl)) (pv 2) (fun _ _ => rfl)) pa_nil))) (fun _ _ _ _ _ => (pg_tupK (K := K) (n := 2) rfl rfl (pgs_cons (pg_name (i := 3) scHolders.nd rfl (Or.inl rfl)) (pgs_cons (pg_name (i := 4) scHolders.nd rfl (Or.inl rfl)) pgs_nil)))) (fun _ _ _ _ _ => (pts_one (pt_cmpR op_eq (pv 4) (pv 1) (nomark _)))) (fun _ _ _ _ _ => (pe_tup (pa_cons (pv 2) (pa_cons (pv 3) pa_nil)))))))), ?_⟩
    refine x_start (σ' := [some (.ref D), some (.int kk), none, none, none]) rfl ?_
    try dsimp only [cxOf]
    repeat walk_at "rd"
    refine ⟨D, _, _, slots, outs, rfl, hT, .int _, by rw [liveD_int, Int.toNat_natCast]; unfold isLive at hlv; rw [hlv]; simp, ?_⟩
    repeat walk_at "rd"
    refine x_lc2 ?_
    repeat walk_at "rd"
    refine ⟨D, slots, outs, rfl, hT, wf, fun Z H1 nZ k1 hZ => ?_⟩
    obtain ⟨S, O, vs, hD, hS, hO, hl, hv⟩ := (hT.keep k1).ex
    refine y_lc2L (SqL.of hZ) fun L nL => ⟨fun t H2 => Kx [] H H2 ∧ Kx [] H1 H2 ∧ ∃ ys, H2 L = some (.lst ys) ∧ PairsAt H2 ys (((liveN slots slots.length).take t).flatMap (hit slots kk)), ⟨k1.new nL, (Kx.refl [] H1).new nL, [], upd_same, .nil⟩, ?_, ?_, ?_⟩
    · rintro t H2 ht ⟨_, k2, _⟩
      exact k2.sqL (by simp) (SqL.of hZ)
    · rintro t x H2 H2' ht ⟨kA, k2, ys, eL, hP⟩ ⟨rfl, hx⟩
      obtain ⟨m, rfl, hm⟩ : ∃ m : Nat, x = .int m ∧ (liveN slots slots.length)[t]? = some m := by
        rw [liveUp_eq, List.map_map, List.getElem?_map] at hx
        cases e : (liveN slots slots.length)[t]? with
        | none => rw [e] at hx; cases hx
        | some m => rw [e] at hx; exact ⟨m, (Option.some.inj hx).symm, rfl⟩
      have hml := List.mem_filter.mp (List.mem_of_getElem? hm)
      obtain ⟨row, hrow⟩ : ∃ row, slots[m]? = some (some row) := by
        have h := hml.2
        unfold isLive at h
        cases e : slots[m]? with
        | none => rw [e] at h; cases h
        | some o =>
          rw [e] at h
          cases o with
          | none => cases h
          | some row => exact ⟨row, rfl⟩
      have hrl := wf.row row (List.mem_of_getElem? hrow)
      have h40 := wf.most
      have htl : t < slots.length := by
        have := (List.getElem?_eq_some_iff.mp hm).1
        have h2 : (liveN slots slots.length).length ≤ slots.length := Nat.le_trans (List.length_filter_le _ _) (by rw [List.length_range]; exact Nat.le_refl _)
        omega
      rcases hv m _ hrow with ⟨e, _⟩ | ⟨r, row', e, hz, hr⟩
      · cases e
      cases e
      have hz' : atI vs (m : Int) = some (.ref r) := atI_nat hz
      have hD2 := k2.sqT (by simp) hD
      have hS2 := k2.sqT (by simp) hS
      have hr2 := k2.sqT (by simp) hr
      have nL0 := k1.fresh (by simp) nL
      repeat walk_at "rd"
      refine ⟨rfl, ?_⟩
      repeat walk_at "rd"
      generalize hB : ((liveN slots slots.length).take t).flatMap (hit slots kk) = B at *
      have hBl : B.length ≤ 40 * t := by
        rw [← hB]
        have := flat_len wf.row kk ((liveN slots slots.length).take t)
        rw [List.length_take] at this
        omega
      refine y_inET hr2 ⟨fun j H3 => Kx [] H H3 ∧ Kx [] H1 H3 ∧ ∃ ys, H3 L = some (.lst ys) ∧ PairsAt H3 ys (B ++ hitsN kk m row j), ⟨kA, k2, ys, eL, by simpa [hitsN] using hP⟩, ?_, ?_, ?_⟩
      · rintro j H3 hj ⟨_, k3, _⟩
        exact k3.sqT (by simp) hr
      · rintro j x H3 H3' hj ⟨kA3, k3, ys3, eL3, hP3⟩ ⟨U, x1, x2, rfl, nU, rfl, f1, f2⟩
        cases f1
        have hj2 : j < row.length := by
          have : (rowV row).length = row.length := by unfold rowV; rw [List.length_map]
          omega
        have ej := List.getElem?_eq_getElem hj2
        have f3 : x2 = slotV row[j] := by
          have f2 : (rowV row)[j]? = some x2 := f2
          unfold rowV at f2
          rw [List.getElem?_map, ej] at f2
          exact (Option.some.inj f2).symm
        subst f3
        have hlen := hitsN_len kk m row j
        have hyl : ys3.length < 4000 := by
          rw [hP3.1, List.length_append]
          omega
        have es := hitsN_succ kk m row j
        have eLU := lk_ne (o := .tup [V.int (j : Nat), slotV row[j]]) eL3 nU
        have kA4 := kA3.new (o := .tup [V.int (j : Nat), slotV row[j]]) nU
        have k4 := k3.new (o := .tup [V.int (j : Nat), slotV row[j]]) nU
        have hP4 := hP3.keep (H' := upd H3 U (.tup [V.int (j : Nat), slotV row[j]])) (fun b xs h => lk_ne h nU)
        have hT4 := upd_same (H := H3) (a := U) (o := .tup [V.int (j : Nat), slotV row[j]])
        generalize upd H3 U (.tup [V.int (j : Nat), slotV row[j]]) = H4 at *
        cases eo : row[j] with
        | none =>
          rw [eo] at ej hT4
          rw [ej, if_neg (by simp)] at es
          repeat walk_at "rd"
          refine ⟨rfl, ?_⟩
          repeat walk_at "rd"
          refine iteN (by simp [slotV]) ⟨kA4, k4, ys3, eLU, ?_⟩
          rw [es]
          exact hP4
        | some e =>
          rw [eo] at ej hT4
          repeat walk_at "rd"
          refine ⟨rfl, ?_⟩
          repeat walk_at "rd"
          by_cases hk : e = kk
          · subst hk
            rw [ej, if_pos rfl] at es
            refine iteP (by simp [slotV]) ?_
            repeat walk_at "rd"
            rename_i q nq
            refine ⟨ys3, lk_ne eLU nq, size4000 hyl, (kA4.new nq).wr (.inl nL0), (k4.new nq).wr (.inl nL), ys3 ++ [.ref q], upd_same, ?_⟩
            rw [es, ← List.append_assoc]
            exact ((hP4.keep (fun b xs h => lk_ne h nq)).snoc (p := (m, j)) (r := q) upd_same).keep (kt_upd (lk_ne eLU nq))
          · rw [ej, if_neg (fun z => hk (by simpa using z))] at es
            refine iteN (by simp [slotV]; omega) ⟨kA4, k4, ys3, eLU, ?_⟩
            rw [es]
            exact hP4
      · rintro H3 ⟨kA3, k3, ys3, eL3, hP3⟩
        refine ⟨kA3, k3, ys3, eL3, ?_⟩
        have er : (rowV row).length = row.length := by unfold rowV; rw [List.length_map]
        rw [er] at hP3
        have eh : hit slots kk m = hitsN kk m row row.length := by
          unfold hit
          rw [hrow]
        rw [List.take_add_one, hm, List.flatMap_append, hB]
        simpa [eh] using hP3
    · rintro H2 ⟨kA, k2, ys, eL, hP⟩
      have nL0 := k1.fresh (by simp) nL
      rw [liveUp_eq, List.length_map, List.length_map, List.take_length, hold_live] at hP
      exact k L H2 ys nL0 kA eL hP
def spHoldX (K : PySem.W.Frag) (C : Addr) : Sp := fun vs H Q E => ∃ (D : Addr) (v : V) (d : PyData) (slots : List (Option Rw)) (outs : List Int), vs = [.ref D, v] ∧ HeapT K H D slots outs ∧ Dp K H v d ∧ liveD slots d = false ∧ ∀ dd H', H' dd = some (.xd [("node", v)]) → Kx [] H H' → E (.ref C) (some dd) H'
theorem ok_holdX {f C_NoNode : Addr} {fd : FuncData} (F : Fun K "holders" "holders" sHolders f fd) (T : Txt mg) (e_need_live : LoX P w K mg base "need_live" 4 ["heap", "node"] (spNeedLX K C_NoNode)) (l_live_nodes : Lo P w K mg base "live_nodes" 1 ["heap"] (spLive K)) : FnOk P w K mg base (L2.CX P w) 5 f fd ["heap", "node"] (spHoldX K C_NoNode) := by
  refine F.okX scHolders (fun vs H Q E h => ?_) (fun cdv A outer s H vs Q E hr h => ?_)
  · obtain ⟨D, v, d, slots, outs, rfl, _⟩ := h
    rfl
  · obtain ⟨D, v, d, slots, outs, rfl, hT, hd, hl, k⟩ := h
    refine ⟨_, (pss_cons (ps_expr (pe_loX e_need_live (takes_of rfl rfl rfl rfl) (hr.mono (by decide)) (by rfl) (pa_cons (pv 0) (pa_cons (pv 1) pa_nil))))
      (pss_one (ps_ret (pe_lc2 (own := [("holder", 2), ("slot", 3), ("held", 4)]) (vs1 := [3, 4]) rfl scHolders.nd (pi_list (pe_lo l_live_nodes (hr.mono (by decide)) (by rfl) (pa_cons (pv 0) pa_nil))) (blkOk_by (N := ["heap", "node", "holder", "slot", "held"]) (sc := defScope sHolders) (by decide +kernel)) (by decide) (fun _ _ _ _ _ => (pg_name (i := 2) scHolders.nd rfl (Or.inl rfl))) (fun _ _ _ _ _ => pts_nil) (fun _ _ _ _ _ => (pi_enumTK (K := K) (by rfl) T.b_enumerate (pa_cons (pe_ix ix_tupK (pe_ix ix_tupK (pv 0) pe_int (fun _ _ => rfl)) (pv 2) (fun _ _ => rfl)) pa_nil))) (fun _ _ _ _ _ => (pg_tupK (K := K) (n := 2) rfl rfl (pgs_cons (pg_name (i := 3) scHolders.nd rfl (Or.inl rfl)) (pgs_cons (pg_name (i := 4) scHolders.nd rfl (Or.inl rfl)) pgs_nil)))) (fun _ _ _ _ _ => (pts_one (pt_cmpR op_eq (pv 4) (pv 1) (nomark _)))) (fun _ _ _ _ _ => (pe_tup (pa_cons (pv 2) (pa_cons (pv 3) pa_nil)))))))), ?_⟩
    refine x_start (σ' := [some (.ref D), some v, none, none, none]) rfl ?_
    try dsimp only [cxOf]
    repeat walk_at "rd"
    refine x_cW ?_
    repeat walk_at "rd"
    exact ⟨D, v, d, slots, outs, rfl, hT, hd, .inr ⟨hl, k⟩⟩
end


/-! ### what can be reached -/
def rowOf (slots : List (Option Rw)) (h : Nat) : Rw := ((slots[h]?).getD none).getD []
inductive Reach (slots : List (Option Rw)) (outs : List Int) : Nat → Prop
  | src {m : Nat} {z : Int} : isLive slots m = true → outs[m]? = some z → 0 < z → Reach slots outs m
  | step {h m : Nat} : Reach slots outs h → some m ∈ rowOf slots h → Reach slots outs m
/-- the state of a walk: ks found, ps to do, cur being done -/
structure WIr (slots : List (Option Rw)) (outs : List Int) (ks ps : List Int) (cur : Option Nat) : Prop where
  nd : ks.Nodup
  re : ∀ z ∈ ks, ∃ n : Nat, z = n ∧ Reach slots outs n
  sub : ∀ z ∈ ps, z ∈ ks
  src : ∀ (n : Nat) (z : Int), isLive slots n = true → outs[n]? = some z → 0 < z → (n : Int) ∈ ks
  cl : ∀ h : Nat, (h : Int) ∈ ks → (h : Int) ∈ ps ∨ cur = some h ∨ ∀ m : Nat, some m ∈ rowOf slots h → (m : Int) ∈ ks
section
variable {slots : List (Option Rw)} {outs : List Int} {ks ps : List Int} {cur : Option Nat}
theorem WIr.add (h : WIr slots outs ks ps cur) {m : Nat} (r : Reach slots outs m) (n : (m : Int) ∉ ks) : WIr slots outs (ks ++ [(m : Int)]) (ps ++ [(m : Int)]) cur := by
  refine ⟨?_, ?_, ?_, fun a z h1 h2 h3 => List.mem_append_left _ (h.src a z h1 h2 h3), ?_⟩
  · rw [List.nodup_append]
    refine ⟨h.nd, by simp, fun a ha b hb => ?_⟩
    rw [List.mem_singleton.mp hb]
    rintro rfl
    exact n ha
  · intro z hz
    rcases List.mem_append.mp hz with hz | hz
    · exact h.re z hz
    · exact ⟨m, List.mem_singleton.mp hz, r⟩
  · intro z hz
    rcases List.mem_append.mp hz with hz | hz
    · exact List.mem_append_left _ (h.sub z hz)
    · exact List.mem_append_right _ hz
  · intro a ha
    rcases List.mem_append.mp ha with ha | ha
    · rcases h.cl a ha with c | c | c
      · exact .inl (List.mem_append_left _ c)
      · exact .inr (.inl c)
      · exact .inr (.inr fun k hk => List.mem_append_left _ (c k hk))
    · exact .inl (List.mem_append_right _ ha)
theorem WIr.pop (h : WIr slots outs ks ps none) {a : Nat} {ps' : List Int} (s : ∀ z ∈ ps', z ∈ ps) (t : ∀ z ∈ ps, z ∈ ps' ∨ z = (a : Int)) : WIr slots outs ks ps' (some a) := by
  refine ⟨h.nd, h.re, fun z hz => h.sub z (s z hz), h.src, fun b hb => ?_⟩
  rcases h.cl b hb with c | c | c
  · rcases t _ c with c | c
    · exact .inl c
    · exact .inr (.inl (by rw [Int.ofNat.inj c]))
  · cases c
  · exact .inr (.inr c)
theorem WIr.done {a : Nat} (h : WIr slots outs ks ps (some a)) (c : ∀ m : Nat, some m ∈ rowOf slots a → (m : Int) ∈ ks) : WIr slots outs ks ps none := by
  refine ⟨h.nd, h.re, h.sub, h.src, fun b hb => ?_⟩
  rcases h.cl b hb with d | d | d
  · exact .inl d
  · cases d
    exact .inr (.inr c)
  · exact .inr (.inr d)
theorem WIr.all (h : WIr slots outs ks [] none) {m : Nat} (r : Reach slots outs m) : (m : Int) ∈ ks := by
  induction r with
  | src h1 h2 h3 => exact h.src _ _ h1 h2 h3
  | step _ hm ih =>
    rcases h.cl _ ih with c | c | c
    · cases c
    · cases c
    · exact c _ hm
/-- the ascending list of what can be reached -/
structure IsR (slots : List (Option Rw)) (outs : List Int) (ns : List Int) : Prop where
  up : ns.Pairwise (· ≤ ·)
  nd : ns.Nodup
  mem : ∀ z, z ∈ ns ↔ ∃ n : Nat, z = n ∧ Reach slots outs n
theorem IsR.of (h : WIr slots outs ks [] none) {ns : List Int} (p : ns.Perm ks) (u : ns.Pairwise (· ≤ ·)) : IsR slots outs ns := by
  refine ⟨u, p.symm.nodup h.nd, fun z => ?_⟩
  rw [p.mem_iff]
  constructor
  · exact h.re z
  · rintro ⟨n, rfl, r⟩
    exact h.all r
theorem IsR.uniq {ns ms : List Int} (h : IsR slots outs ns) (g : IsR slots outs ms) : ns = ms := by
  have p : ns.Perm ms := (List.perm_ext_iff_of_nodup h.nd g.nd).mpr fun z => by rw [h.mem, g.mem]
  exact p.eq_of_pairwise (fun a b _ _ h1 h2 => Int.le_antisymm h1 h2) h.up g.up
theorem Reach.live (wf : Wf slots outs) {m : Nat} (r : Reach slots outs m) : isLive slots m = true := by
  cases r with
  | src h _ _ => exact h
  | @step h _ _ hm =>
    unfold rowOf at hm
    cases e : (slots[h]?).getD none with
    | none => rw [e] at hm; cases hm
    | some row =>
      rw [e] at hm
      have e2 : slots[h]? = some (some row) := by
        cases e3 : slots[h]? with
        | none => rw [e3] at e; cases e
        | some o => rw [e3] at e; exact congrArg some e
      obtain ⟨r2, e4⟩ := wf.live row (List.mem_of_getElem? e2) m hm
      simp [isLive, e4]
theorem live_lt {m : Nat} (h : isLive slots m = true) : ∃ row, slots[m]? = some (some row) ∧ m < slots.length := by
  unfold isLive at h
  cases e : slots[m]? with
  | none => rw [e] at h; cases h
  | some o =>
    cases o with
    | none => rw [e] at h; cases h
    | some row => exact ⟨row, rfl, (List.getElem?_eq_some_iff.mp e).1⟩
theorem nodup_len {n : Nat} : ∀ {zs : List Int}, zs.Nodup → (∀ z ∈ zs, 0 ≤ z ∧ z < n) → zs.length ≤ n := by
  intro zs hn hz
  have hp := hn.length_le_of_subset (l₂ := (List.range n).map fun k : Nat => (k : Int)) fun z h => by
    obtain ⟨h1, h2⟩ := hz z h
    exact List.mem_map.mpr ⟨z.toNat, List.mem_range.mpr (by omega), by omega⟩
  rwa [List.length_map, List.length_range] at hp
theorem WIr.len (wf : Wf slots outs) (h : WIr slots outs ks ps cur) : ks.length ≤ slots.length := by
  refine nodup_len h.nd fun z hz => ?_
  obtain ⟨n, rfl, r⟩ := h.re z hz
  obtain ⟨_, _, hl⟩ := live_lt (r.live wf)
  omega
theorem rowOf_some {h : Nat} {row : Rw} (e : slots[h]? = some (some row)) : rowOf slots h = row := by simp [rowOf, e]
end
/-- the keys of a dict of ints -/
def KeysI (kvs : List (Key × V)) (ks : List Int) : Prop := kvs.map (·.1) = ks.map Sum.inl
theorem KeysI.len {kvs : List (Key × V)} {ks : List Int} (h : KeysI kvs ks) : kvs.length = ks.length := by
  have := congrArg List.length h
  rwa [List.length_map, List.length_map] at this
theorem KeysI.has {ks : List Int} (i : Int) : ∀ {kvs : List (Key × V)}, KeysI kvs ks → (valV kvs (.inl i)).isSome = decide (i ∈ ks) := by
  intro kvs h
  rw [← valV_any]
  have e : (kvs.any fun kv => decide (kv.1 = .inl i)) = (kvs.map (·.1)).any fun k => decide (k = Sum.inl i) := by rw [List.any_map]; rfl
  rw [e, h, List.any_map, Bool.eq_iff_iff]
  simp
theorem KeysI.put {kvs : List (Key × V)} {ks : List Int} (h : KeysI kvs ks) {i : Int} (n : i ∉ ks) (v : V) : KeysI (putK kvs (.inl i) v) (ks ++ [i]) := by
  have e := h.has i
  rw [decide_eq_false n] at e
  rw [putK_new v (Option.isNone_iff_eq_none.mp (by rw [← Option.not_isSome, e]; rfl))]
  unfold KeysI
  rw [List.map_append, List.map_append, h]
  rfl
theorem KeysI.vals {kvs : List (Key × V)} {ks : List Int} (h : KeysI kvs ks) : (kvs.map fun kv => kV kv.1) = ks.map V.int := by
  have e : (kvs.map fun kv => kV kv.1) = (kvs.map (·.1)).map kV := by rw [List.map_map]; rfl
  rw [e, h, List.map_map]
  rfl
theorem liveUp_mem {slots : List (Option Rw)} {n : Nat} {z : Int} : z ∈ liveUp slots n ↔ ∃ m : Nat, z = m ∧ m < n ∧ isLive slots m = true := by
  unfold liveUp
  rw [List.mem_map]
  constructor
  · rintro ⟨m, hm, rfl⟩
    have := List.mem_filter.mp hm
    exact ⟨m, rfl, List.mem_range.mp this.1, this.2⟩
  · rintro ⟨m, rfl, h1, h2⟩
    exact ⟨m, List.mem_filter.mpr ⟨List.mem_range.mpr h1, h2⟩, rfl⟩
theorem liveUp_nd (slots : List (Option Rw)) (n : Nat) : (liveUp slots n).Nodup := by
  unfold liveUp
  refine List.Pairwise.map _ ?_ ((List.nodup_range).filter _)
  intro a b hab e
  exact hab (Int.ofNat.inj e)
def srcUp (slots : List (Option Rw)) (outs : List Int) (i : Nat) : List Int := ((liveUp slots slots.length).take i).filter fun z => decide (0 < (outs[z.toNat]?).getD 0)
theorem srcUp_succ {slots : List (Option Rw)} {outs : List Int} {i : Nat} {z : Int} (h : (liveUp slots slots.length)[i]? = some z) : srcUp slots outs (i + 1) = srcUp slots outs i ++ (if 0 < (outs[z.toNat]?).getD 0 then [z] else []) := by
  unfold srcUp
  rw [List.take_add_one, h, List.filter_append]
  by_cases e : 0 < (outs[z.toNat]?).getD 0
  · simp [List.filter, e]
  · simp [List.filter, e]
theorem srcUp_new {slots : List (Option Rw)} {outs : List Int} {i : Nat} {z : Int} (h : (liveUp slots slots.length)[i]? = some z) : z ∉ srcUp slots outs i := by
  intro hz
  have h1 := (List.mem_filter.mp hz).1
  have nd := liveUp_nd slots slots.length
  obtain ⟨j, hj⟩ := List.mem_iff_getElem?.mp h1
  obtain ⟨hj1, hj2⟩ := List.getElem?_eq_some_iff.mp hj
  rw [List.length_take] at hj1
  rw [List.getElem?_take_of_lt (by omega)] at hj
  have := (List.getElem?_inj (by omega) nd).mp (hj.trans h.symm)
  omega
theorem srcUp_len (slots : List (Option Rw)) (outs : List Int) (i : Nat) : (srcUp slots outs i).length ≤ slots.length := by
  refine Nat.le_trans (List.length_filter_le _ _) (Nat.le_trans (List.length_take_le' _ _) (liveUp_len _ _))
theorem WIr.start {slots : List (Option Rw)} {outs : List Int} : WIr slots outs (srcUp slots outs (liveUp slots slots.length).length) (srcUp slots outs (liveUp slots slots.length).length) none := by
  refine ⟨?_, ?_, fun _ h => h, ?_, fun _ h => .inl h⟩
  · unfold srcUp
    rw [List.take_length]
    exact (liveUp_nd _ _).filter _
  · intro z hz
    unfold srcUp at hz
    rw [List.take_length] at hz
    obtain ⟨h1, h2⟩ := List.mem_filter.mp hz
    obtain ⟨m, rfl, hm, hlv⟩ := liveUp_mem.mp h1
    have h3 := of_decide_eq_true h2
    rw [Int.toNat_natCast] at h3
    cases e : outs[m]? with
    | none => rw [e] at h3; exact absurd h3 (by decide)
    | some z => rw [e] at h3; exact ⟨m, rfl, .src hlv e h3⟩
  · intro n z hlv e hz
    unfold srcUp
    rw [List.take_length]
    obtain ⟨_, _, hl⟩ := live_lt hlv
    exact List.mem_filter.mpr ⟨liveUp_mem.mpr ⟨n, rfl, hl, hlv⟩, by rw [Int.toNat_natCast, e]; exact decide_eq_true hz⟩

/-- n has an outside reference -/
def Src (slots : List (Option Rw)) (outs : List Int) (m : Nat) : Prop := isLive slots m = true ∧ ∃ z, outs[m]? = some z ∧ 0 < z
/-- what is found was found from a holder that stands before it, or is a start -/
def Par (slots : List (Option Rw)) (outs : List Int) (kvs : List (Key × V)) : Prop := ∀ (i : Nat) (kv : Key × V), kvs[i]? = some kv → ∃ m : Nat, kv.1 = .inl (m : Int) ∧ ((kv.2 = .non ∧ Src slots outs m) ∨ ∃ h j : Nat, kv.2 = .int (h : Int) ∧ j < i ∧ (∃ v, kvs[j]? = some (.inl (h : Int), v)) ∧ some m ∈ rowOf slots h)
theorem Par.nil {slots : List (Option Rw)} {outs : List Int} : Par slots outs [] := fun i kv h => by cases h
theorem KeysI.new {kvs : List (Key × V)} {ks : List Int} (h : KeysI kvs ks) {i : Int} (n : i ∉ ks) (v : V) : putK kvs (.inl i) v = kvs ++ [(.inl i, v)] := by
  have e := h.has i
  rw [decide_eq_false n] at e
  exact putK_new v (Option.isNone_iff_eq_none.mp (by rw [← Option.not_isSome, e]; rfl))
theorem Par.put {slots : List (Option Rw)} {outs : List Int} {kvs : List (Key × V)} {ks : List Int} (p : Par slots outs kvs) (h : KeysI kvs ks) {m : Nat} (n : (m : Int) ∉ ks) {v : V}
    (hv : (v = .non ∧ Src slots outs m) ∨ ∃ a : Nat, v = .int (a : Int) ∧ (a : Int) ∈ ks ∧ some m ∈ rowOf slots a) : Par slots outs (putK kvs (.inl (m : Int)) v) := by
  rw [h.new n v]
  intro i kv hi
  rcases Nat.lt_trichotomy i kvs.length with lt | rfl | gt
  · rw [List.getElem?_append_left lt] at hi
    obtain ⟨m', e, q⟩ := p i kv hi
    refine ⟨m', e, q.imp id fun ⟨a, j, e1, e2, ⟨w, e3⟩, e4⟩ => ⟨a, j, e1, e2, ⟨w, ?_⟩, e4⟩⟩
    rw [List.getElem?_append_left (by omega)]
    exact e3
  · rw [List.getElem?_append_right (Nat.le_refl _), Nat.sub_self] at hi
    cases hi
    refine ⟨m, rfl, hv.imp id fun ⟨a, e1, e2, e3⟩ => ?_⟩
    obtain ⟨j, hj⟩ := List.mem_iff_getElem?.mp e2
    have hjl : j < kvs.length := by rw [h.len]; exact (List.getElem?_eq_some_iff.mp hj).1
    have hk : (kvs.map (·.1))[j]? = some (Sum.inl (a : Int)) := by
      unfold KeysI at h
      rw [h, List.getElem?_map, hj]
      rfl
    rw [List.getElem?_map, List.getElem?_eq_getElem hjl] at hk
    have hk2 := Option.some.inj hk
    refine ⟨a, j, e1, hjl, ⟨kvs[j].2, ?_⟩, e3⟩
    rw [List.getElem?_append_left hjl, List.getElem?_eq_getElem hjl, ← hk2]
  · rw [List.getElem?_eq_none (by rw [List.length_append, List.length_singleton]; omega)] at hi
    cases hi
theorem srcUp_src {slots : List (Option Rw)} {outs : List Int} {i : Nat} {z : Int} (h : z ∈ srcUp slots outs i) : ∃ m : Nat, z = m ∧ Src slots outs m := by
  obtain ⟨h1, h2⟩ := List.mem_filter.mp h
  obtain ⟨m, rfl, hm, hlv⟩ := liveUp_mem.mp (List.mem_of_mem_take h1)
  have h3 := of_decide_eq_true h2
  rw [Int.toNat_natCast] at h3
  cases e : outs[m]? with
  | none => rw [e] at h3; exact absurd h3 (by decide)
  | some z => rw [e] at h3; exact ⟨m, rfl, hlv, z, e, h3⟩

def mk0 (z : Int) : Key × V := (.inl z, .non)
def insK (n : Nat) (s : List (Key × V) × List Int) : Option Nat → List (Key × V) × List Int
  | none => s
  | some m => if (valV s.1 (.inl (m : Int))).isSome then s else (putK s.1 (.inl (m : Int)) (.int (n : Int)), s.2 ++ [(m : Int)])
def stpK (slots : List (Option Rw)) (s : List (Key × V) × List Int) : List (Key × V) × List Int :=
  match s.2.getLast? with
  | none => s
  | some z => (rowOf slots z.toNat).foldl (insK z.toNat) (s.1, s.2.dropLast)
def itK (slots : List (Option Rw)) (outs : List Int) : Nat → List (Key × V) × List Int
  | 0 => ((srcUp slots outs (liveUp slots slots.length).length).map mk0, srcUp slots outs (liveUp slots slots.length).length)
  | t + 1 => stpK slots (itK slots outs t)
/-- what the search finds, and in which order -/
def Fnd (slots : List (Option Rw)) (outs : List Int) (kvs : List (Key × V)) : Prop := ∃ t, itK slots outs t = (kvs, [])
theorem itK_stop {slots : List (Option Rw)} {outs : List Int} {kvs : List (Key × V)} {t : Nat} (h : itK slots outs t = (kvs, [])) : ∀ d, itK slots outs (t + d) = (kvs, [])
  | 0 => h
  | d + 1 => by
    show stpK slots (itK slots outs (t + d)) = _
    rw [itK_stop h d]
    rfl
theorem Fnd.uniq {slots : List (Option Rw)} {outs : List Int} {a b : List (Key × V)} (x : Fnd slots outs a) (y : Fnd slots outs b) : a = b := by
  obtain ⟨t, x⟩ := x
  obtain ⟨u, y⟩ := y
  have h1 := itK_stop x u
  have h2 := itK_stop y t
  rw [Nat.add_comm u t] at h2
  exact congrArg Prod.fst (h1.symm.trans h2)
theorem insK_in {n m : Nat} {kvs : List (Key × V)} {ps : List Int} (h : (valV kvs (.inl (m : Int))).isSome = true) : [some m].foldl (insK n) (kvs, ps) = (kvs, ps) := by
  show (if _ then _ else _) = _
  rw [if_pos h]
theorem insK_new {n m : Nat} {kvs : List (Key × V)} {ps : List Int} (h : (valV kvs (.inl (m : Int))).isSome = false) : [some m].foldl (insK n) (kvs, ps) = (putK kvs (.inl (m : Int)) (.int (n : Int)), ps ++ [(m : Int)]) := by
  show (if _ then _ else _) = _
  rw [if_neg (by rw [h]; decide)]
theorem stpK_cat {slots : List (Option Rw)} {n : Nat} {kvs : List (Key × V)} {qs : List Int} : stpK slots (kvs, qs ++ [(n : Int)]) = (rowOf slots n).foldl (insK n) (kvs, qs) := by
  unfold stpK
  simp
theorem iteP_r6 {c : Bool} {A B : Prop} (h : c = true) (q : A) : if c = true then A else B := by rw [if_pos h]; exact q
theorem iteN_r6 {c : Bool} {A B : Prop} (h : c = false) (q : B) : if c = true then A else B := by rw [h]; exact q
section
variable {P : Program} {w : World} {K : PySem.W.Frag} {mg : Str → Option Value} {base : Heap}

def spSrcs (K : PySem.W.Frag) : Sp := fun vs H Q _ => ∃ (D : Addr) (slots : List (Option Rw)) (outs : List Int), vs = [.ref D] ∧ HeapT K H D slots outs ∧ Wf slots outs ∧
  ∀ p H' kvs ks, H p = none → Kx [] H H' → H' p = some (.dK kvs) → KeysI kvs ks → Par slots outs kvs → Fnd slots outs kvs → WIr slots outs ks [] none → Q (.ref p) H'
def spHeld (K : PySem.W.Frag) : Sp := fun vs H Q _ => ∃ (D A : Addr) (slots : List (Option Rw)) (outs : List Int), vs = [.ref D, .ref A] ∧ HeapT K H D slots outs ∧ Wf slots outs ∧ SqL K H A ((srcUp slots outs (liveUp slots slots.length).length).map V.int) ∧
  ∀ p H' kvs ks, H p = none → Kx [] H H' → H' p = some (.dK kvs) → KeysI kvs ks → Par slots outs kvs → Fnd slots outs kvs → WIr slots outs ks [] none → Q (.ref p) H'
theorem ok_held {f : Addr} {fd : FuncData} (F : Fun K "held_from" "held_from" sHeldFrom f fd) (T : Txt mg) : FnOk P w K mg base CX0 1 f fd ["heap", "starts"] (spHeld K) := by
  refine F.ok scHeldFrom (fun vs H Q E h => ?_) (fun cdv A outer s H vs Q E hr h => ?_)
  · obtain ⟨D, A, slots, outs, rfl, _⟩ := h
    rfl
  · obtain ⟨D, A0, slots, outs, rfl, hT, wf, hA, k⟩ := h
    obtain ⟨S, O, vs, hD, hS, hO, hl, hv⟩ := id hT.ex
    refine ⟨_, (pss_cons (ps_setDc (i := 2) (own := [("node", 6)]) rfl scHeldFrom.nd rfl rfl (sw_trueD rfl rfl rfl (by decide +kernel)) (pi_list (pv 1)) (blkOk_by (N := ["heap", "starts", "sources", "pending", "holder", "held", "node"]) (sc := defScope sHeldFrom) (by decide +kernel)) (fun _ _ _ _ _ => (pg_name (i := 6) scHeldFrom.nd rfl (Or.inl rfl))) (fun _ _ _ _ _ => pts_nil) (fun _ _ _ _ _ => (pv 6)) (fun _ _ _ _ _ => pe_non))
      (pss_cons (ps_set (i := 3) scHeldFrom.nd rfl (Or.inl rfl) (pe_callTy (call_list_dK rfl) (by rfl) T.b_list boot'_list (pa_cons (pv 2) pa_nil)))
      (pss_cons (ps_while PassesOwn.never (pt_truth' (pv 3))
      (pss_cons (ps_set (i := 4) scHeldFrom.nd rfl (Or.inl rfl) (pe_bm0 PySem.F.plainAttrs_list PySem.F.slot_list_pop PySem.F.type_list_pop mt_pop (pv 3)))
      (pss_one (ps_for PassesOwn.never rfl (pi_tup (pe_ix ix_tup (pe_ix ix_tup (pv 0) pe_int (fun _ _ => rfl)) (pv 4) (fun _ _ => rfl))) (pg_name (i := 5) scHeldFrom.nd rfl (Or.inl rfl))
      (pss_one (ps_if ((pw_and (pt_cmpR op_notN1 (pv 5) pe_non (nomark _)) (pw_and1 (pt_cmp (pc_dnotin (hu_of hr) (pv 5) (pv 2)))))).pt (pss_cons (ps_dput (hu_of hr) (pv 2) (pv 5) (pv 4) rfl)
      (pss_one (ps_expr (pe_bm PySem.F.plainAttrs_list PySem.F.slot_list_append PySem.F.type_list_append mt_append (pv 3) (pa_cons (pv 5) pa_nil))))) pss_nil))))))
      (pss_one (ps_ret (pv 2)))))), ?_⟩
    refine x_start (σ' := [some (.ref D), some (.ref A0), none, none, none, none, none]) rfl ?_
    dsimp only [cxOf]
    have h40 := wf.most
    have hsl := srcUp_len slots outs (liveUp slots slots.length).length
    have hnd : (srcUp slots outs (liveUp slots slots.length).length).Nodup := WIr.start.nd
    repeat walk_at "rd"
    refine y_dcL hA (fun Dd nD => ⟨fun i H2 => Kx [] H H2 ∧ ∃ kvs, H2 Dd = some (.dK kvs) ∧ KeysI kvs ((srcUp slots outs (liveUp slots slots.length).length).take i) ∧ Par slots outs kvs ∧ kvs = ((srcUp slots outs (liveUp slots slots.length).length).take i).map mk0, ⟨(Kx.refl _ _).new nD, [], upd_same, rfl, Par.nil, by simp⟩, ?_, ?_, ?_⟩)
    · rintro i H2 hi ⟨k2, _⟩
      exact k2.sqL (by simp) hA
    · rintro i x H2 H2' hi ⟨k2, kvs, e2, hk, hpar, hkv⟩ ⟨rfl, hx⟩
      rw [List.length_map] at hi
      have hci := List.getElem?_eq_getElem hi
      have hx2 : ((srcUp slots outs (liveUp slots slots.length).length).map V.int)[i]? = some x := hx
      rw [List.getElem?_map, hci] at hx2
      cases Option.some.inj hx2
      have en : (srcUp slots outs (liveUp slots slots.length).length)[i] ∉ (srcUp slots outs (liveUp slots slots.length).length).take i := fun hm => by
        obtain ⟨j, hj⟩ := List.mem_iff_getElem?.mp hm
        obtain ⟨hj1, hj2⟩ := List.getElem?_eq_some_iff.mp hj
        rw [List.length_take] at hj1
        rw [List.getElem?_take_of_lt (by omega)] at hj
        have := (List.getElem?_inj (by omega) hnd).mp (hj.trans hci.symm)
        omega
      have es : (srcUp slots outs (liveUp slots slots.length).length).take (i + 1) = (srcUp slots outs (liveUp slots slots.length).length).take i ++ [(srcUp slots outs (liveUp slots slots.length).length)[i]] := by rw [List.take_add_one, hci]; rfl
      repeat walk_at "rd"
      refine ⟨rfl, ?_⟩
      repeat walk_at "rd"
      refine ⟨kvs, .inl _, rfl, e2, small1000 (by rw [hk.len, List.length_take]; omega), k2.wr (.inl nD), _, upd_same, ?_, ?_, ?_⟩
      · rw [es]
        exact hk.put en _
      · obtain ⟨m0, em0, hsrc⟩ := srcUp_src (List.getElem_mem hi)
        rw [em0] at en ⊢
        exact hpar.put hk en (.inl ⟨rfl, hsrc⟩)
      · rw [hk.new en, hkv, es, List.map_append]
        rfl
    rintro H2 ⟨k2, kvs0, e2, hk0, hpar0, hkv0⟩
    rw [List.length_map, List.take_length] at hk0 hkv0
    have nD0 : H Dd = none := nD
    have k12 := k2
    repeat walk_at "rd"
    rename_i L nL
    have nDL : Dd ≠ L := ne_of_none e2 nL
    have nL0 : H L = none := k12.fresh (by simp) nL
    refine ⟨fun m σ H3 => ∃ kvs ks ps y5 y6, σ = [some (.ref D), some (.ref A0), some (.ref Dd), some (.ref L), y5, y6, none] ∧ Kx [] H H3 ∧ H3 Dd = some (.dK kvs) ∧ KeysI kvs ks ∧ Par slots outs kvs ∧ (∃ t, itK slots outs t = (kvs, ps)) ∧ H3 L = some (.lst (ps.map V.int)) ∧
      WIr slots outs ks ps none ∧ m = 2 * (40 - ks.length) + ps.length ∧ m ≤ 200, ⟨_, kvs0, _, _, none, none, rfl, k12.new nL, lk_ne e2 nL, hk0, hpar0, ⟨0, by rw [hkv0]; rfl⟩, by rw [upd_same, hk0.vals], WIr.start, rfl, ?_⟩, ?_⟩
    · have := srcUp_len slots outs (liveUp slots slots.length).length
      omega
    rintro m σ H3 ⟨kvs, ks, ps, y5, y6, rfl, k3, e3, hk, hpar, ⟨t0, ht0⟩, eL, wi, rfl, hm200⟩
    repeat walk_at "rd"
    rcases List.eq_nil_or_concat ps with rfl | ⟨qs, z, rfl⟩
    · refine iteF ?_
      repeat walk_at "rd"
      exact k Dd H3 kvs ks nD0 k3 e3 hk hpar ⟨t0, ht0⟩ wi
    · refine iteP (by simp) (x_turn ?_)
      obtain ⟨n, rfl, hR0⟩ := wi.re z (wi.sub z (by simp))
      obtain ⟨row, er, hnl⟩ := live_lt (hR0.live wf)
      have eat : ((qs ++ [(n : Int)]).map V.int)[((qs ++ [(n : Int)]).map V.int).length - 1]? = some (.int n) := by simp
      repeat walk_at "rd"
      refine ⟨ty_list (SqL.of eL), ?_⟩
      rcases hv n _ er with ⟨e', _⟩ | ⟨r, row', e', zr, hR⟩
      · cases e'
      cases Option.some.inj e'
      have at2 : atI vs (n : Int) = some (V.ref r) := atI_nat zr
      rw [List.concat_eq_append] at *
      repeat walk_at "rd"
      have k4 : Kx [] H (upd H3 L (.lst ((qs ++ [(n : Int)]).map V.int).dropLast)) := k3.wr (.inl nL0)
      have e4 : (upd H3 L (.lst ((qs ++ [(n : Int)]).map V.int).dropLast)) Dd = some (.dK kvs) := lk_ne2 nDL e3
      have eL4 : (upd H3 L (.lst ((qs ++ [(n : Int)]).map V.int).dropLast)) L = some (.lst (qs.map V.int)) := by
        rw [upd_same, List.map_append]
        simp
      generalize (upd H3 L (.lst ((qs ++ [(n : Int)]).map V.int).dropLast)) = H4 at *
      have hS4 := k4.sqT (by simp) hS
      have hr4 := k4.sqT (by simp) hR
      have wi0 := wi.pop (a := n) (ps' := qs) (fun z hz => List.mem_append_left _ hz) (fun z hz => by simpa using hz)
      have hlen0 := wi.len wf
      rw [List.length_append, List.length_singleton] at hm200
      repeat walk_at "rd"
      refine y_forT (xs := rowV row) hr4 ⟨fun i σ H5 => ∃ kvs' ks' ps' y6, σ = [some (.ref D), some (.ref A0), some (.ref Dd), some (.ref L), some (.int n), y6, none] ∧ Kx [] H H5 ∧ H5 Dd = some (.dK kvs') ∧ KeysI kvs' ks' ∧ Par slots outs kvs' ∧ (row.take i).foldl (insK n) (kvs, qs) = (kvs', ps') ∧ (n : Int) ∈ ks' ∧
        H5 L = some (.lst (ps'.map V.int)) ∧ WIr slots outs ks' ps' (some n) ∧ (∀ m : Nat, some m ∈ row.take i → (m : Int) ∈ ks') ∧ 2 * (40 - ks'.length) + ps'.length ≤ 2 * (40 - ks.length) + qs.length,
        ⟨kvs, ks, qs, y6, rfl, k4, e4, hk, hpar, rfl, wi.sub _ (by simp), eL4, wi0, by simp, Nat.le_refl _⟩, ?_, ?_, ?_⟩
      · rintro i σ H5 hi ⟨_, _, _, _, rfl, k5, _⟩
        exact k5.sqT (by simp) hR
      · rintro i x σ H5 H5' hi ⟨kvs', ks', ps', y6, rfl, k5, e5, hk5, hpar5, hfo, hnk5, eL5, wi5, hin, hμ⟩ ⟨rfl, hx⟩
        have hi2 : i < row.length := by simpa [rowV] using hi
        have hrow : row[i]? = some row[i] := List.getElem?_eq_getElem hi2
        have hx2 : slotV row[i] = x := by
          unfold rowV at hx
          rw [List.getElem?_map, hrow] at hx
          exact Option.some.inj hx
        have htake : row.take (i + 1) = row.take i ++ [row[i]] := by rw [List.take_add_one, hrow]; rfl
        have hlen5 := wi5.len wf
        cases hc : row[i] with
        | none =>
          rw [hc] at hx2
          obtain rfl : V.non = x := hx2
          repeat walk_at "rd"
          refine iteF ?_
          repeat walk_at "rd"
          refine ⟨kvs', ks', ps', _, rfl, k5, e5, hk5, hpar5, by rw [htake, hc, List.foldl_append, hfo]; rfl, hnk5, eL5, wi5, fun m hm => ?_, hμ⟩
          rw [htake, hc] at hm
          exact hin m (by simpa using hm)
        | some m =>
          rw [hc] at hx2
          obtain rfl : V.int (m : Int) = x := hx2
          have hRm : Reach slots outs m := .step hR0 (by rw [rowOf_some er, ← hc]; exact List.getElem_mem hi2)
          repeat walk_at "rd"
          refine iteT ?_
          repeat walk_at "rd"
          rw [hk5.has]
          by_cases hm0 : (m : Int) ∈ ks'
          · rw [decide_eq_true hm0]
            refine iteF ?_
            repeat walk_at "rd"
            refine ⟨kvs', ks', ps', _, rfl, k5, e5, hk5, hpar5, by rw [htake, hc, List.foldl_append, hfo]; exact insK_in (by rw [hk5.has]; exact decide_eq_true hm0), hnk5, eL5, wi5, fun b hb => ?_, hμ⟩
            rw [htake, hc] at hb
            rcases List.mem_append.mp hb with hb | hb
            · exact hin b hb
            · cases Option.some.inj (List.mem_singleton.mp hb)
              exact hm0
          · rw [decide_eq_false hm0]
            refine iteT ?_
            have hz1 : kvs'.length < sizeLine := small1000 (by rw [hk5.len]; omega)
            have hps : ps'.length ≤ 1000 := by omega
            have hadd := wi5.add hRm hm0
            have hlen6 := hadd.len wf
            rw [List.length_append, List.length_singleton] at hlen6
            repeat walk_at "rd"
            refine ⟨ty_list (SqL.of (lk_ne2 nDL.symm eL5)), ?_⟩
            repeat walk_at "rd"
            refine ⟨_, ks' ++ [(m : Int)], ps' ++ [(m : Int)], _, rfl, (k5.wr (.inl nD0)).wr (.inl nL0), lk_ne2 nDL upd_same, hk5.put hm0 _, hpar5.put hk5 hm0 (.inr ⟨n, rfl, hnk5, by rw [rowOf_some er, ← hc]; exact List.getElem_mem hi2⟩), by rw [htake, hc, List.foldl_append, hfo]; exact insK_new (by rw [hk5.has]; exact decide_eq_false hm0), List.mem_append_left _ hnk5, by rw [upd_same, List.map_append]; rfl, hadd, fun b hb => ?_, ?_⟩
            · rw [htake, hc] at hb
              rcases List.mem_append.mp hb with hb | hb
              · exact List.mem_append_left _ (hin b hb)
              · cases Option.some.inj (List.mem_singleton.mp hb)
                exact List.mem_append_right _ List.mem_cons_self
            · simp only [List.length_append, List.length_singleton]
              omega
      · rintro σ H5 ⟨kvs', ks', ps', y6, rfl, k5, e5, hk5, hpar5, hfo, hnk5, eL5, wi5, hin, hμ⟩
        rw [show (rowV row).length = row.length by simp [rowV], List.take_length] at hin
        rw [show (rowV row).length = row.length by simp [rowV], List.take_length] at hfo
        refine ⟨_, ?_, kvs', ks', ps', _, _, rfl, k5, e5, hk5, hpar5, ⟨t0 + 1, by show stpK slots (itK slots outs t0) = _; rw [ht0, stpK_cat, rowOf_some er, hfo]⟩, eL5, wi5.done fun b hb => hin b (by rw [← rowOf_some er]; exact hb), rfl, by omega⟩
        rw [List.length_append, List.length_singleton]
        omega
theorem ok_srcs {f : Addr} {fd : FuncData} (F : Fun K "_sources" "_sources" sSources f fd) (T : Txt mg) (l_live_nodes : Lo P w K mg base "live_nodes" 1 ["heap"] (spLive K)) (l_held_from : Lo P w K mg base "held_from" 1 ["heap", "starts"] (spHeld K)) : FnOk P w K mg base CX0 2 f fd ["heap"] (spSrcs K) := by
  refine F.ok scSources (fun vs H Q E h => ?_) (fun cdv A outer s H vs Q E hr h => ?_)
  · obtain ⟨D, slots, outs, rfl, _⟩ := h
    rfl
  · obtain ⟨D, slots, outs, rfl, hT, wf, k⟩ := h
    obtain ⟨S, O, vs, hD, hS, hO, hl, hv⟩ := id hT.ex
    refine ⟨_, (pss_one (ps_ret (pe_lo l_held_from (hr.mono (by decide)) (by rfl) (pa_cons (pv 0) (pa_cons (pe_lc (own := [("node", 1)]) rfl scSources.nd (pi_list (pe_lo l_live_nodes (hr.mono (by decide)) (by rfl) (pa_cons (pv 0) pa_nil))) (blkOk_by (N := ["heap", "node"]) (sc := defScope sSources) (by decide +kernel)) (fun _ _ _ _ _ => (pg_name (i := 1) scSources.nd rfl (Or.inl rfl))) (fun _ _ _ _ _ => (pts_one (pt_cmpR op_gt (pe_ix (ix_tupK (K := K)) (pe_ix (ix_tupK (K := K)) (pv 0) pe_int (fun _ _ => rfl)) (pv 1) (fun _ _ => rfl)) pe_int (nomark _)))) (fun _ _ _ _ _ => (pv 1))) pa_nil))))), ?_⟩
    refine x_start (σ' := [some (.ref D), none]) rfl ?_
    dsimp only [cxOf]
    have h40 := wf.most
    repeat walk_at "rd"
    refine ⟨D, slots, outs, rfl, hT, wf, fun Z H1 nZ k1 e1 => ?_⟩
    have hO1 := k1.sqT (by simp) hO
    have hD1 := k1.sqT (by simp) hD
    repeat walk_at "rd"
    refine y_lcL (SqL.of e1) (fun Y nY => ⟨fun i H2 => Kx [] H1 H2 ∧ H2 Y = some (.lst ((srcUp slots outs i).map V.int)), ⟨(Kx.refl _ _).new nY, upd_same⟩, ?_, ?_, ?_⟩)
    · rintro i H2 hi ⟨k2, _⟩
      exact k2.sqL (by simp) (SqL.of e1)
    · rintro i x H2 H2' hi ⟨k2, e2⟩ ⟨rfl, hx⟩
      rw [List.getElem?_map] at hx
      cases ez : (liveUp slots slots.length)[i]? with
      | none => rw [ez] at hx; cases hx
      | some z =>
        rw [ez] at hx
        cases Option.some.inj hx
        obtain ⟨n, rfl, hn, hlv⟩ := liveUp_mem.mp (List.mem_of_getElem? ez)
        have hout : n < outs.length := by rw [wf.len]; exact hn
        have at1 : atI (outs.map V.int) (n : Int) = some (.int outs[n]) := atI_nat (by rw [List.getElem?_map, List.getElem?_eq_getElem hout]; rfl)
        have hO2 := k2.sqT (by simp) hO1
        have hD2 := k2.sqT (by simp) hD1
        repeat walk_at "rd"
        refine ⟨rfl, ?_⟩
        repeat walk_at "rd"
        have es := srcUp_succ (outs := outs) ez
        have el := srcUp_len slots outs i
        rw [Int.toNat_natCast, List.getElem?_eq_getElem hout] at es
        by_cases h0 : 0 < outs[n]
        · refine iteP (decide_eq_true h0) ?_
          repeat walk_at "rd"
          refine ⟨_, e2, small1000 (by rw [List.length_map]; omega), k2.wr (.inl nY), ?_⟩
          rw [upd_same, es]
          simp only [Option.getD_some, h0, if_true]
          rw [List.map_append]
          rfl
        · refine iteN (decide_eq_false h0) ⟨k2, ?_⟩
          rw [e2, es]
          simp only [Option.getD_some, h0, if_false, List.append_nil]
    rintro H2 ⟨k2, e2⟩
    rw [List.length_map] at e2
    have k12 := k1.trans k2
    repeat walk_at "rd"
    refine ⟨D, Y, slots, outs, rfl, hT.keep k12, wf, SqL.of e2, fun p H3 kvs ks np k3 e3 hk hpar hfd wi => ?_⟩
    repeat walk_at "rd"
    exact k p H3 kvs ks (k12.fresh (by simp) np) (k12.trans k3) e3 hk hpar hfd wi

theorem valV_at {k : Key} {v : V} : ∀ {kvs : List (Key × V)} {j : Nat}, (kvs.map (·.1)).Nodup → kvs[j]? = some (k, v) → valV kvs k = some v
  | [], j, _, h => by cases h
  | kv :: r, 0, _, h => by
    cases h
    exact valV_pos rfl
  | kv :: r, j + 1, hn, h => by
    rw [List.map_cons, List.nodup_cons] at hn
    have h2 : r[j]? = some (k, v) := h
    have hne : ¬ kv.1 = k := fun e => hn.1 (by rw [e]; exact List.mem_map.mpr ⟨(k, v), List.mem_of_getElem? h2, rfl⟩)
    rw [valV_neg hne]
    exact valV_at hn.2 h2
theorem rev_at {ps : List Nat} {i : Nat} (h : i < ps.length) : ps.reverse[i]? = ps[ps.length - 1 - i]? := List.getElem?_reverse h
/-- the path that what was found tells -/
structure PathK (kvs : List (Key × V)) (n : Nat) (ps : List Nat) : Prop where
  ne : ps ≠ []
  src : ∀ m : Nat, ps[0]? = some m → valV kvs (.inl (m : Int)) = some .non
  step : ∀ (i a b : Nat), ps[i]? = some a → ps[i + 1]? = some b → valV kvs (.inl (b : Int)) = some (.int (a : Int))
  last : ps[ps.length - 1]? = some n
theorem pathK_pre {kvs : List (Key × V)} {n : Nat} {ps qs : List Nat} (x : PathK kvs n ps) (y : PathK kvs n qs) (h : ps.length ≤ qs.length) : ∀ i, i < ps.length → ps[ps.length - 1 - i]? = qs[qs.length - 1 - i]?
  | 0, _ => x.last.trans y.last.symm
  | i + 1, hi => by
    have e := pathK_pre x y h i (by omega)
    have a1 : ps.length - 1 - (i + 1) + 1 = ps.length - 1 - i := by omega
    have b1 : qs.length - 1 - (i + 1) + 1 = qs.length - 1 - i := by omega
    have p1 := List.getElem?_eq_getElem (l := ps) (i := ps.length - 1 - (i + 1)) (by omega)
    have p2 := List.getElem?_eq_getElem (l := ps) (i := ps.length - 1 - i) (by omega)
    have q1 := List.getElem?_eq_getElem (l := qs) (i := qs.length - 1 - (i + 1)) (by omega)
    have q2 := e.symm.trans p2
    have s1 := x.step _ _ _ p1 (by rw [a1]; exact p2)
    have s2 := y.step _ _ _ q1 (by rw [b1]; exact q2)
    have s3 := V.int.inj (Option.some.inj (s1.symm.trans s2))
    rw [p1, q1]
    exact congrArg some (by omega)
theorem pathK_le {kvs : List (Key × V)} {n : Nat} {ps qs : List Nat} (x : PathK kvs n ps) (y : PathK kvs n qs) (h : ps.length ≤ qs.length) : ps.length = qs.length := by
  have hp := List.length_pos_iff.mpr x.ne
  rcases Nat.lt_or_ge ps.length qs.length with lt | ge
  · exfalso
    have e := pathK_pre x y h (ps.length - 1) (by omega)
    rw [Nat.sub_self] at e
    have p1 := List.getElem?_eq_getElem (l := ps) (i := 0) hp
    have s1 := x.src _ p1
    have q1 := List.getElem?_eq_getElem (l := qs) (i := qs.length - 1 - (ps.length - 1) - 1) (by omega)
    have s2 := y.step _ _ _ q1 (by rw [show qs.length - 1 - (ps.length - 1) - 1 + 1 = qs.length - 1 - (ps.length - 1) by omega]; exact e.symm.trans p1)
    exact absurd (s1.symm.trans s2) (by simp)
  · omega
theorem PathK.uniq {kvs : List (Key × V)} {n : Nat} {ps qs : List Nat} (x : PathK kvs n ps) (y : PathK kvs n qs) : ps = qs := by
  have hl : ps.length = qs.length := by
    rcases Nat.le_total ps.length qs.length with h | h
    · exact pathK_le x y h
    · exact (pathK_le y x h).symm
  refine List.ext_getElem? fun i => ?_
  rcases Nat.lt_or_ge i ps.length with lt | ge
  · have e := pathK_pre x y (Nat.le_of_eq hl) (ps.length - 1 - i) (by omega)
    rw [show ps.length - 1 - (ps.length - 1 - i) = i by omega, show qs.length - 1 - (ps.length - 1 - i) = i by omega] at e
    exact e
  · rw [List.getElem?_eq_none ge, List.getElem?_eq_none (by omega)]
def spPath (K : PySem.W.Frag) : Sp := fun vs H Q _ => ∃ (p : Addr) (n : Nat) (slots : List (Option Rw)) (outs : List Int) (kvs : List (Key × V)) (ks : List Int), vs = [.int n, .ref p] ∧ H p = some (.dK kvs) ∧ KeysI kvs ks ∧ Par slots outs kvs ∧ ks.length ≤ 40 ∧ ks.Nodup ∧ (n : Int) ∈ ks ∧
  ∀ t H' ps, Kx [] H H' → SqT K H' t (ps.map fun m : Nat => V.int m) → PathK kvs n ps → ps ≠ [] → ps.length ≤ 40 → (∀ m, ps[0]? = some m → Src slots outs m) → (∀ (i a b : Nat), ps[i]? = some a → ps[i + 1]? = some b → some b ∈ rowOf slots a) → ps[ps.length - 1]? = some n → Q (.ref t) H'
theorem ok_path {f : Addr} {fd : FuncData} (F : Fun K "_path_to" "_path_to" sPathTo f fd) (T : Txt mg) : FnOk P w K mg base CX0 1 f fd ["node", "sources"] (spPath K) := by
  refine F.ok scPathTo (fun vs H Q E h => ?_) (fun cdv A outer s H vs Q E hr h => ?_)
  · obtain ⟨p, n, slots, outs, kvs, ks, rfl, _⟩ := h
    rfl
  · obtain ⟨p, n, slots, outs, kvs, ks, rfl, hp, hk, hpar, hkl, hnd, hn, k⟩ := h
    refine ⟨_, (pss_cons (ps_set (i := 2) scPathTo.nd rfl (Or.inl rfl) (pe_lst (pa_cons (pv 0) pa_nil)))
      (pss_cons (ps_while PassesOwn.never (pt_cmpR op_notN1 (pe_dget (hu_of hr) (pv 1) (pe_ix ix_list (pv 2) (pe_un un_neg pe_int) (fun _ _ => rfl)) (fun _ _ => rfl)) pe_non (nomark _))
      (pss_one (ps_expr (pe_bm PySem.F.plainAttrs_list PySem.F.slot_list_append PySem.F.type_list_append mt_append (pv 2) (pa_cons (pe_dget (hu_of hr) (pv 1) (pe_ix ix_list (pv 2) (pe_un un_neg pe_int) (fun _ _ => rfl)) (fun _ _ => rfl)) pa_nil)))))
      (pss_one (ps_ret (pe_callTy call_tuple_of (by rfl) T.b_tuple boot'_tuple (pa_cons (pe_revL (pv 2)) pa_nil)))))), ?_⟩
    refine x_start (σ' := [some (.int n), some (.ref p), none]) rfl ?_
    try dsimp only [cxOf]
    repeat walk_at "rd"
    rename_i L nL
    have nLp : p ≠ L := ne_of_none hp nL
    have hkn : (kvs.map (·.1)).Nodup := by
      unfold KeysI at hk
      rw [hk]
      exact List.Pairwise.map _ (fun a b hab e => hab (Sum.inl.inj e)) hnd
    have hkl2 := hk.len
    obtain ⟨j0, hj0⟩ := List.mem_iff_getElem?.mp hn
    have hj0l := (List.getElem?_eq_some_iff.mp hj0).1
    have hat0 : ∃ v, kvs[j0]? = some (.inl (n : Int), v) := by
      have hk2 : (kvs.map (·.1))[j0]? = some (Sum.inl (n : Int)) := by
        unfold KeysI at hk
        rw [hk, List.getElem?_map, hj0]
        rfl
      rw [List.getElem?_map, List.getElem?_eq_getElem (by omega)] at hk2
      have hk3 := Option.some.inj hk2
      exact ⟨kvs[j0].2, by rw [List.getElem?_eq_getElem (by omega), ← hk3]⟩
    obtain ⟨v0, hv0⟩ := hat0
    refine ⟨fun m σ H3 => ∃ (is : List Nat) (q : Nat) (v : V), σ = [some (.int n), some (.ref p), some (.ref L)] ∧ Kx [] H H3 ∧ H3 L = some (.lst ((is.map fun m : Nat => V.int m) ++ [.int q])) ∧ kvs[m]? = some (.inl (q : Int), v) ∧ is.length + 1 + m ≤ 40 ∧ (is ++ [q])[0]? = some n ∧
      (∀ (i a b : Nat), (is ++ [q])[i]? = some a → (is ++ [q])[i + 1]? = some b → some a ∈ rowOf slots b ∧ valV kvs (.inl (a : Int)) = some (.int (b : Int))), ⟨j0, [], n, v0, rfl, (Kx.refl [] H).new nL, upd_same, hv0, by simp; omega, rfl, fun i a b h1 h2 => by simp at h2⟩, ?_⟩
    rintro m σ H3 ⟨is, q, v, rfl, k3, eL, hv, hm, h0, hch⟩
    have ep3 := k3 p _ (by simp) hp
    have hat1 : atI ((is.map fun m : Nat => V.int m) ++ [V.int (q : Int)]) (-1) = some (V.int (q : Int)) := atI_last _ _
    have hval := valV_at hkn hv
    obtain ⟨m', e1, hcase⟩ := hpar m _ hv
    obtain rfl : q = m' := by
      have := Sum.inl.inj e1
      omega
    repeat walk_at "rd"
    refine ⟨p, v, rfl, by rw [← hval]; exact DGet.k (k := .inl _) ep3, ?_⟩
    repeat walk_at "rd"
    rcases hcase with ⟨ev, hsrc⟩ | ⟨h, j, ev, hjm, ⟨w', hw⟩, hrow⟩
    · obtain rfl : v = .non := ev
      refine iteN (by simp) ?_
      repeat walk_at "rd"
      refine ⟨L, _, rfl, SqL.of eL, fun R nR => ?_⟩
      have eR : ((is.map fun m : Nat => V.int m) ++ [V.int (q : Int)]).reverse = ((is ++ [q]).reverse.map fun m : Nat => V.int m) := by
        rw [List.map_reverse, List.map_append]
        rfl
      rw [eR]
      have kR : Kx [] H (upd H3 R (.lst ((is ++ [q]).reverse.map fun m : Nat => V.int m))) := k3.new nR
      have eR2 := upd_same (H := H3) (a := R) (o := .lst ((is ++ [q]).reverse.map fun m : Nat => V.int m))
      generalize upd H3 R (.lst ((is ++ [q]).reverse.map fun m : Nat => V.int m)) = H4 at *
      have hlen : (is ++ [q]).length ≤ 40 := by
        rw [List.length_append, List.length_singleton]
        omega
      have hrl : (is ++ [q]).reverse.length = (is ++ [q]).length := List.length_reverse
      have fin : ∀ t H', Kx [] H H' → SqT K H' t ((is ++ [q]).reverse.map fun m : Nat => V.int m) → Q (.ref t) H' := fun t H' kk ht => by
        have hS : ∀ (i a b : Nat), (is ++ [q]).reverse[i]? = some a → (is ++ [q]).reverse[i + 1]? = some b → some b ∈ rowOf slots a ∧ valV kvs (.inl (b : Int)) = some (.int (a : Int)) := fun i a b h1 h2 => by
          have hi2 := (List.getElem?_eq_some_iff.mp h2).1
          rw [hrl] at hi2
          rw [rev_at (by omega)] at h1
          rw [rev_at (by omega)] at h2
          refine hch ((is ++ [q]).length - 1 - (i + 1)) b a h2 ?_
          rw [show (is ++ [q]).length - 1 - (i + 1) + 1 = (is ++ [q]).length - 1 - i by omega]
          exact h1
        have hF : ∀ m, (is ++ [q]).reverse[0]? = some m → q = m := fun m hm => by
          rw [List.reverse_append] at hm
          exact Option.some.inj hm
        have hL : (is ++ [q]).reverse[(is ++ [q]).reverse.length - 1]? = some n := by
          rw [hrl, rev_at (by rw [List.length_append, List.length_singleton]; omega)]
          rw [show (is ++ [q]).length - 1 - ((is ++ [q]).length - 1) = 0 by omega]
          exact h0
        exact k t H' _ kk ht ⟨by simp, fun m hm => hF m hm ▸ hval, fun i a b h1 h2 => (hS i a b h1 h2).2, hL⟩ (by simp) (by rw [hrl]; exact hlen) (fun m hm => hF m hm ▸ hsrc) (fun i a b h1 h2 => (hS i a b h1 h2).1) hL
      repeat walk_at "rd"
      exact fun t nt => fin t _ (kR.new nt) (SqT.of upd_same)
    · obtain rfl : v = .int (h : Int) := ev
      refine iteP (by simp) (x_turn ?_)
      repeat walk_at "rd"
      refine ⟨ty_list (SqL.of eL), ?_⟩
      repeat walk_at "rd"
      refine ⟨p, .int (h : Int), rfl, by rw [← hval]; exact DGet.k (k := .inl _) ep3, ?_⟩
      repeat walk_at "rd"
      have eE : ((is.map fun m : Nat => V.int m) ++ [V.int (q : Int)]) ++ [V.int (h : Int)] = ((is ++ [q]).map fun m : Nat => V.int m) ++ [V.int (h : Int)] := by rw [List.map_append]; rfl
      refine ⟨j, hjm, is ++ [q], h, w', rfl, k3.wr (.inl nL), by rw [upd_same, eE], hw, by rw [List.length_append, List.length_singleton]; omega, ?_, fun i a b h1 h2 => ?_⟩
      · rw [List.getElem?_append_left (by simp)]
        exact h0
      · rcases Nat.lt_or_ge (i + 1) (is ++ [q]).length with lt | ge
        · rw [List.getElem?_append_left lt] at h2
          rw [List.getElem?_append_left (by omega)] at h1
          exact hch i a b h1 h2
        · have hi1 : i + 1 = (is ++ [q]).length := by
            have := (List.getElem?_eq_some_iff.mp h2).1
            rw [List.length_append, List.length_singleton] at this
            omega
          rw [hi1, List.getElem?_append_right (Nat.le_refl _), Nat.sub_self] at h2
          cases h2
          rw [List.getElem?_append_left (by omega)] at h1
          have hi2 : i = is.length := by
            rw [List.length_append, List.length_singleton] at hi1
            omega
          rw [hi2, List.getElem?_append_right (Nat.le_refl _), Nat.sub_self] at h1
          cases h1
          exact ⟨hrow, hval⟩
end


section
variable {P : Program} {w : World} {K : PySem.W.Frag} {mg : Str → Option Value} {base : Heap}

/-- a path that reaches n -/
structure PathTo (slots : List (Option Rw)) (outs : List Int) (n : Nat) (ps : List Nat) : Prop where
  ne : ps ≠ []
  len : ps.length ≤ 40
  src : ∀ m, ps[0]? = some m → Src slots outs m
  step : ∀ (i a b : Nat), ps[i]? = some a → ps[i + 1]? = some b → some b ∈ rowOf slots a
  last : ps[ps.length - 1]? = some n
/-- the ascending list of the live nodes that cannot be reached -/
structure Unr (slots : List (Option Rw)) (outs : List Int) (ns : List Nat) : Prop where
  up : ns.Pairwise (· < ·)
  mem : ∀ m, m ∈ ns ↔ isLive slots m = true ∧ ¬ Reach slots outs m
theorem PathTo.reach {slots : List (Option Rw)} {outs : List Int} {n : Nat} {ps : List Nat} (h : PathTo slots outs n ps) : ∀ (i m : Nat), ps[i]? = some m → Reach slots outs m
  | 0, m, hm => by
    obtain ⟨h1, z, h2, h3⟩ := h.src m hm
    exact .src h1 h2 h3
  | i + 1, m, hm => by
    have hi := (List.getElem?_eq_some_iff.mp hm).1
    have hb := List.getElem?_eq_getElem (l := ps) (i := i) (by omega)
    exact .step (h.reach i _ hb) (h.step i _ m hb hm)
theorem PathTo.live {slots : List (Option Rw)} {outs : List Int} {n : Nat} {ps : List Nat} (h : PathTo slots outs n ps) (wf : Wf slots outs) : ∀ m ∈ ps, isLive slots m = true := fun m hm => by
  obtain ⟨i, hi⟩ := List.mem_iff_getElem?.mp hm
  exact (h.reach i m hi).live wf
theorem Unr.uniq {slots : List (Option Rw)} {outs : List Int} {a b : List Nat} (x : Unr slots outs a) (y : Unr slots outs b) : a = b :=
  List.Perm.eq_of_pairwise (le := (· < ·)) (fun a b _ _ h1 h2 => by omega) x.up y.up ((List.perm_ext_iff_of_nodup (x.up.imp fun h => by omega) (y.up.imp fun h => by omega)).mpr fun m => (x.mem m).trans (y.mem m).symm)
/-- the path that the program tells -/
def TheP (slots : List (Option Rw)) (outs : List Int) (n : Nat) (ps : List Nat) : Prop := ∃ kvs, Fnd slots outs kvs ∧ PathK kvs n ps
theorem TheP.uniq {slots : List (Option Rw)} {outs : List Int} {n : Nat} {ps qs : List Nat} (x : TheP slots outs n ps) (y : TheP slots outs n qs) : ps = qs := by
  obtain ⟨k1, f1, p1⟩ := x
  obtain ⟨k2, f2, p2⟩ := y
  cases f1.uniq f2
  exact p1.uniq p2
def spCert (K : PySem.W.Frag) : Sp := fun vs H Q _ => ∃ (D : Addr) (n : Nat) (slots : List (Option Rw)) (outs : List Int), vs = [.ref D, .int n] ∧ HeapT K H D slots outs ∧ Wf slots outs ∧ isLive slots n = true ∧
  (Reach slots outs n → ∀ B t H' ps, Kx [] H H' → H' B = some (.tup [.str "reached", .ref t]) → SqT K H' t (ps.map fun m : Nat => V.int m) → PathTo slots outs n ps → TheP slots outs n ps → Q (.ref B) H') ∧
  (¬ Reach slots outs n → ∀ B t H' ns, Kx [] H H' → H' B = some (.tup [.str "unreached", .ref t]) → SqT K H' t (ns.map fun m : Nat => V.int m) → Unr slots outs ns → Q (.ref B) H')
theorem ok_cert {f : Addr} {fd : FuncData} (F : Fun K "reach_certificate" "reach_certificate" sReachCertificate f fd) (T : Txt mg) (l_need_live : Lo P w K mg base "need_live" 4 ["heap", "node"] (spNeedL K)) (l_live_nodes : Lo P w K mg base "live_nodes" 1 ["heap"] (spLive K)) (l_sources : Lo P w K mg base "_sources" 2 ["heap"] (spSrcs K)) (l_path_to : Lo P w K mg base "_path_to" 1 ["node", "sources"] (spPath K)) : FnOk P w K mg base CX0 5 f fd ["heap", "node"] (spCert K) := by
  refine F.ok scReachCertificate (fun vs H Q E h => ?_) (fun cdv A outer s H vs Q E hr h => ?_)
  · obtain ⟨D, n, slots, outs, rfl, _⟩ := h
    rfl
  · obtain ⟨D, n, slots, outs, rfl, hT, wf, hlv, kr, ku⟩ := h
    refine ⟨_, (pss_cons (ps_expr (pe_lo l_need_live (hr.mono (by decide)) (by rfl) (pa_cons (pv 0) (pa_cons (pv 1) pa_nil))))
      (pss_cons (ps_set (i := 2) scReachCertificate.nd rfl (Or.inr rfl) (pe_lo l_sources (hr.mono (by decide)) (by rfl) (pa_cons (pv 0) pa_nil)))
      (pss_cons (ps_if (pt_cmp (pc_din (hu_of hr) (pv 1) (pv 2))) (pss_one (ps_ret (pe_tup (pa_cons pe_str (pa_cons (pe_lo l_path_to (hr.mono (by decide)) (by rfl) (pa_cons (pv 1) (pa_cons (pv 2) pa_nil))) pa_nil))))) pss_nil)
      (pss_one (ps_ret (pe_tup (pa_cons pe_str (pa_cons (pe_callTy call_tuple_of (by rfl) T.b_tuple boot'_tuple (pa_cons (pe_lc (own := [("other", 3)]) rfl scReachCertificate.nd (pi_list (pe_lo l_live_nodes (hr.mono (by decide)) (by rfl) (pa_cons (pv 0) pa_nil))) (blkOk_by (N := ["heap", "node", "sources", "other"]) (sc := defScope sReachCertificate) (by decide +kernel)) (fun _ _ _ _ _ => (pg_name (i := 3) scReachCertificate.nd rfl (Or.inl rfl))) (fun _ _ _ _ _ => (pts_one (pt_cmp (pc_dnotin (hu_of hr) (pv 3) (pv 2))))) (fun _ _ _ _ _ => (pv 3))) pa_nil)) pa_nil)))))))), ?_⟩
    refine x_start (σ' := [some (.ref D), some (.int n), none, none]) rfl ?_
    try dsimp only [cxOf]
    repeat walk_at "rd"
    refine ⟨D, _, _, slots, outs, rfl, hT, .int _, by rw [liveD_int, Int.toNat_natCast]; unfold isLive at hlv; rw [hlv]; simp, ?_⟩
    repeat walk_at "rd"
    refine ⟨D, slots, outs, rfl, hT, wf, fun p H1 kvs ks np k1 ep hk hpar hfd wi => ?_⟩
    repeat walk_at "rd"
    rw [hk.has]
    have hR : ∀ m : Nat, (m : Int) ∈ ks ↔ Reach slots outs m := fun m => ⟨fun h => by
      obtain ⟨m', e, r⟩ := wi.re _ h
      have : m = m' := by omega
      exact this ▸ r, fun r => wi.all r⟩
    have h40 := wf.most
    by_cases hin : (n : Int) ∈ ks
    · refine iteP (decide_eq_true hin) ?_
      repeat walk_at "rd"
      have hlen := wi.len wf
      refine ⟨p, n, slots, outs, kvs, ks, rfl, ep, hk, hpar, by omega, wi.nd, hin, fun t H2 ps k2 ht hpk h1 h2 h3 h4 h5 => ?_⟩
      repeat walk_at "rd"
      rename_i B nB
      exact kr ((hR n).mp hin) B t _ ps ((k1.trans k2).new nB) upd_same (((Kx.refl [] H2).new nB).sqT (by simp) ht) ⟨h1, h2, h3, h4, h5⟩ ⟨kvs, hfd, hpk⟩
    · refine iteN (decide_eq_false hin) ?_
      repeat walk_at "rd"
      refine ⟨D, slots, outs, rfl, hT.keep k1, wf, fun Z H2 nZ k2 eZ => ?_⟩
      have ep2 := k2 p _ (by simp) ep
      have hLn : (liveN slots slots.length).length ≤ slots.length := Nat.le_trans (List.length_filter_le _ _) (by rw [List.length_range]; exact Nat.le_refl _)
      repeat walk_at "rd"
      refine y_lcL (SqL.of eZ) (fun U nU => ⟨fun t H3 => Kx [] H2 H3 ∧ H3 U = some (.lst ((((liveN slots slots.length).take t).filter fun m : Nat => !decide ((m : Int) ∈ ks)).map fun m : Nat => V.int m)), ⟨(Kx.refl _ _).new nU, upd_same⟩, ?_, ?_, ?_⟩)
      · rintro t H3 ht ⟨k3, _⟩
        exact k3.sqL (by simp) (SqL.of eZ)
      · rintro t x H3 H3' ht ⟨k3, eU⟩ ⟨rfl, hx⟩
        obtain ⟨m, rfl, hm⟩ : ∃ m : Nat, x = .int m ∧ (liveN slots slots.length)[t]? = some m := by
          rw [liveUp_eq, List.map_map, List.getElem?_map] at hx
          cases e : (liveN slots slots.length)[t]? with
          | none => rw [e] at hx; cases hx
          | some m => rw [e] at hx; exact ⟨m, (Option.some.inj hx).symm, rfl⟩
        have htk : (liveN slots slots.length).take (t + 1) = (liveN slots slots.length).take t ++ [m] := by rw [List.take_add_one, hm]; rfl
        have htl := (List.getElem?_eq_some_iff.mp hm).1
        have ep3 := k3 p _ (by simp) ep2
        have hul : ((((liveN slots slots.length).take t).filter fun m : Nat => !decide ((m : Int) ∈ ks)).map fun m : Nat => V.int m).length < sizeLine := small1000 (by
          rw [List.length_map]
          refine Nat.le_trans (List.length_filter_le _ _) ?_
          rw [List.length_take]
          omega)
        repeat walk_at "rd"
        refine ⟨rfl, ?_⟩
        repeat walk_at "rd"
        rw [hk.has]
        by_cases hmk : (m : Int) ∈ ks
        · refine iteN (by simp [hmk]) ⟨k3, ?_⟩
          rw [htk, List.filter_append]
          simpa [List.filter, hmk] using eU
        · refine iteP (by simp [hmk]) ?_
          repeat walk_at "rd"
          refine ⟨_, eU, hul, k3.wr (.inl nU), ?_⟩
          rw [upd_same, htk, List.filter_append, List.map_append]
          simp [List.filter, hmk]
      rintro H3 ⟨k3, eU⟩
      rw [liveUp_eq, List.length_map, List.length_map, List.take_length] at eU
      repeat walk_at "rd"
      intro t nt
      repeat walk_at "rd"
      rename_i B nB
      refine ku (fun r => hin ((hR n).mpr r)) B t _ ((liveN slots slots.length).filter fun m : Nat => !decide ((m : Int) ∈ ks)) ((((k1.trans k2).trans k3).new nt).new nB) upd_same (SqT.of (lk_ne upd_same nB)) ⟨?_, fun m => ?_⟩
      · exact ((List.pairwise_lt_range).filter _).filter _
      · rw [List.mem_filter]
        unfold liveN
        rw [List.mem_filter, List.mem_range, ← hR m]
        constructor
        · rintro ⟨⟨_, h2⟩, h3⟩
          exact ⟨h2, by simpa using h3⟩
        · rintro ⟨h2, h3⟩
          obtain ⟨_, _, hl⟩ := live_lt h2
          exact ⟨⟨hl, h2⟩, by simpa using h3⟩
end


section
variable {P : Program} {w : World} {K : PySem.W.Frag} {mg : Str → Option Value} {base : Heap}

theorem flat_row (row : Rw) : (rowV row).all flatV = true := by
  rw [List.all_eq_true]
  intro v hv
  obtain ⟨o, _, rfl⟩ := List.mem_map.mp hv
  cases o <;> rfl
theorem in_row {m : Nat} {row : Rw} (h : some m ∈ row) : inV (.int (m : Int)) (rowV row) = true := by
  unfold inV
  rw [List.any_eq_true]
  exact ⟨.int (m : Int), List.mem_map.mpr ⟨some m, h, rfl⟩, by simp [eqV]⟩
theorem x_isiTup {H : Hp} {Q : VK} {a : Addr} {xs : List V} (h : SqT K H a xs) (q : Q (.bl true) H) : rIsi K [.ref a, .ty "tuple"] H Q := x_isi (b := true) (tyT h) (kit_ty (by decide +kernel)) q
def spPair (K : PySem.W.Frag) : Sp := fun vs H Q _ => ∃ (B : Addr) (xs : List V), vs = [.ref B] ∧ SqT K H B xs ∧ xs.length = 2 ∧ Q (.bl true) H
theorem ok_pair {f : Addr} {fd : FuncData} (F : Fun K "is_pair" "is_pair" sIsPair f fd) (T : Txt mg) : FnOk P w K mg base CX0 1 f fd ["value"] (spPair K) := by
  refine F.ok scIsPair (fun vs H Q E h => ?_) (fun cdv A outer s H vs Q E hr h => ?_)
  · obtain ⟨B, xs, rfl, _⟩ := h
    rfl
  · obtain ⟨B, xs, rfl, hB, hl, k⟩ := h
    refine ⟨_, (pss_one (ps_ret (pe_and (pe_callB call_isi (by rfl) T.b_isinstance boot'_isinstance (pa_cons (pv 0) (pa_cons (pe_bltn (v := .ty "tuple") (by rfl) T.b_tuple boot'_tuple rfl) pa_nil))) (pe_one (pe_cmpR op_eq (pe_callB call_len_seq (by rfl) T.b_len boot'_len (pa_cons (pv 0) pa_nil)) pe_int (nomark _)))))), ?_⟩
    refine x_start (σ' := [some (.ref B)]) rfl ?_
    try dsimp only [cxOf]
    repeat walk_at "rd"
    refine x_isiTup hB ?_
    repeat walk_at "rd"
    rw [hl]
    exact k
/-- a label and a tuple that is not empty -/
def spLab (K : PySem.W.Frag) : Sp := fun vs H Q _ => ∃ (B t lt : Addr) (wd : Str) (xs : List V), vs = [.ref B, .ref lt] ∧ SqT K H B [.str wd, .ref t] ∧ SqT K H t xs ∧ xs ≠ [] ∧ SqT K H lt [.str "reached", .str "unreached"] ∧ (wd = "reached" ∨ wd = "unreached") ∧ Q (.bl true) H
theorem ok_lab {f : Addr} {fd : FuncData} (F : Fun K "is_labelled" "is_labelled" sIsLabelled f fd) (T : Txt mg) (l_is_pair : Lo P w K mg base "is_pair" 1 ["value"] (spPair K)) : FnOk P w K mg base CX0 2 f fd ["value", "labels"] (spLab K) := by
  refine F.ok scIsLabelled (fun vs H Q E h => ?_) (fun cdv A outer s H vs Q E hr h => ?_)
  · obtain ⟨B, t, lt, wd, xs, rfl, _⟩ := h
    rfl
  · obtain ⟨B, t, lt, wd, xs, rfl, hB, ht, hx, hlt, hw, k⟩ := h
    refine ⟨_, (pss_one (ps_ret (pe_and (pe_lo l_is_pair (hr.mono (by decide)) (by rfl) (pa_cons (pv 0) pa_nil)) (pe_and (pe_cmpR op_in_seq (pe_ix ix_tup (pv 0) pe_int (fun _ _ => rfl)) (pv 1) (by with_unfolding_all rfl)) (pe_and (pe_callB call_isi (by rfl) T.b_isinstance boot'_isinstance (pa_cons (pe_ix ix_tup (pv 0) pe_int (fun _ _ => rfl)) (pa_cons (pe_bltn (v := .ty "tuple") (by rfl) T.b_tuple boot'_tuple rfl) pa_nil))) (pe_one (pe_cmpR op_gt (pe_callB call_len_seq (by rfl) T.b_len boot'_len (pa_cons (pe_ix ix_tup (pv 0) pe_int (fun _ _ => rfl)) pa_nil)) pe_int (nomark _)))))))), ?_⟩
    refine x_start (σ' := [some (.ref B), some (.ref lt)]) rfl ?_
    try dsimp only [cxOf]
    repeat walk_at "rd"
    refine ⟨B, _, rfl, hB, rfl, ?_⟩
    repeat walk_at "rd"
    refine ⟨lt, _, rfl, .inr hlt, rfl, rfl, ?_⟩
    have hin : inV (.str wd) [.str "reached", .str "unreached"] = true := by
      rcases hw with rfl | rfl <;> decide +kernel
    rw [hin]
    refine ⟨true, rfl, ?_⟩
    refine iteP rfl ?_
    repeat walk_at "rd"
    refine x_isiTup ht ?_
    have hl : 0 < xs.length := List.length_pos_iff.mpr hx
    repeat walk_at "rd"
    rw [decide_eq_true (show (0 : Int) < (xs.length : Nat) by omega)]
    exact k
/-- a right path passes -/
def spChkPath (K : PySem.W.Frag) : Sp := fun vs H Q _ => ∃ (D t : Addr) (n : Nat) (slots : List (Option Rw)) (outs : List Int) (ps : List Nat), vs = [.ref D, .int n, .ref t] ∧ HeapT K H D slots outs ∧ Wf slots outs ∧ SqT K H t (ps.map fun m : Nat => V.int m) ∧ PathTo slots outs n ps ∧ (∀ m ∈ ps, isLive slots m = true) ∧ ∀ H', Kx [] H H' → Q .non H'
theorem ok_chkPath {f C : Addr} {fd : FuncData} (F : Fun K "_check_path" "_check_path" sCheckPath f fd) (T : Txt mg) (l_is_live : Lo P w K mg base "is_live" 3 ["heap", "value"] (spIsLive K)) : FnOk P w K mg base CX0 4 f fd ["heap", "node", "path"] (spChkPath K) := by
  refine F.ok scCheckPath (fun vs H Q E h => ?_) (fun cdv A outer s H vs Q E hr h => ?_)
  · obtain ⟨D, t, n, slots, outs, ps, rfl, _⟩ := h
    rfl
  · obtain ⟨D, t, n, slots, outs, ps, rfl, hT, wf, ht, hp, hlv, k⟩ := h
    refine ⟨_, (pss_cons (ps_asg (pv 0) (pg_tup rfl (pgs_cons (pg_name (i := 3) scCheckPath.nd rfl (Or.inl rfl)) (pgs_cons (pg_name (i := 4) scCheckPath.nd rfl (Or.inl rfl)) pgs_nil))))
      (pss_cons (ps_for PassesOwn.never rfl (pi_enumT (by rfl) T.b_enumerate (pa_cons (pv 2) pa_nil)) (pg_tup rfl (pgs_cons (pg_name (i := 5) scCheckPath.nd rfl (Or.inl rfl)) (pgs_cons (pg_name (i := 6) scCheckPath.nd rfl (Or.inl rfl)) pgs_nil)))
      (pss_cons (ps_if (pt_not (pt_val (pe_lo l_is_live (hr.mono (by decide)) (by rfl) (pa_cons (pv 0) (pa_cons (pv 6) pa_nil))))) (pss_one ps_never) pss_nil)
      (pss_one (ps_if (pt_cmpR op_eq (pv 5) pe_int (nomark _)) (pss_one (ps_if (pt_cmpR op_eq (pe_ix ix_tup (pv 4) (pv 6) (fun _ _ => rfl)) pe_int (nomark _)) (pss_one ps_never) pss_nil)) (pss_one (ps_if (pt_cmpR op_notIn_seq (pv 6) (pe_ix ix_tup (pv 3) (pe_ix ix_tup (pv 2) (pe_op op_sub (pv 5) pe_int) (fun _ _ => rfl)) (fun _ _ => rfl)) (by with_unfolding_all rfl)) (pss_one ps_never) pss_nil))))))
      (pss_one (ps_if (pt_cmpR op_ne (pe_ix ix_tup (pv 2) (pe_un un_neg pe_int) (fun _ _ => rfl)) (pv 1) (nomark _)) (pss_one ps_never) pss_nil)))), ?_⟩
    refine x_start (σ' := [some (.ref D), some (.int n), some (.ref t), none, none, none, none]) rfl ?_
    try dsimp only [cxOf]
    obtain ⟨S, O, vs, hD, hS, hO, hvl, hv⟩ := id hT.ex
    have hlen : (ps.map fun m : Nat => V.int m).length = ps.length := List.length_map _
    repeat walk_at "rd"
    refine y_forET ht ⟨fun i σ H1 => ∃ (y5 y6 : Option V), σ = [some (.ref D), some (.int n), some (.ref t), some (.ref S), some (.ref O), y5, y6] ∧ Kx [] H H1, ⟨_, _, rfl, Kx.refl [] H⟩, ?_, ?_, ?_⟩
    · rintro i σ H1 hi ⟨y5, y6, rfl, k1⟩
      exact k1.sqT (by simp) ht
    · rintro i x σ H1 H1' hi ⟨y5, y6, rfl, k1⟩ ⟨U, x1, x2, rfl, nU, rfl, f1, f2⟩
      cases f1
      replace f2 : (ps.map fun m : Nat => V.int m)[i]? = some x2 := f2
      rw [hlen] at hi
      rw [List.getElem?_map, List.getElem?_eq_getElem hi] at f2
      cases Option.some.inj f2
      have k2 := k1.new (o := .tup [.int (i : Nat), .int (ps[i] : Nat)]) nU
      have hl := hlv _ (List.getElem_mem hi)
      have eU2 := upd_same (H := H1) (a := U) (o := .tup [.int (i : Nat), .int (ps[i] : Nat)])
      have hps := List.getElem?_eq_getElem hi
      have hT2 := hT.keep k2
      have ht2 := k2.sqT (by simp) ht
      have hS2 := k2.sqT (by simp) hS
      have hO2 := k2.sqT (by simp) hO
      generalize ps[i] = m at *
      generalize upd H1 U (.tup [.int (i : Nat), .int (m : Nat)]) = H2 at *
      repeat walk_at "rd"
      refine ⟨D, _, _, slots, outs, rfl, hT2, .int _, ?_⟩
      have hld : liveD slots (.int (m : Int)) = true := by rw [liveD_int, Int.toNat_natCast]; unfold isLive at hl; rw [hl]; simp
      rw [hld]
      repeat walk_at "rd"
      refine iteN (by decide) ?_
      repeat walk_at "rd"
      by_cases h0 : i = 0
      · subst h0
        obtain ⟨_, z, ez, hz⟩ := hp.src m hps
        have hatO : atI (outs.map V.int) (m : Int) = some (.int z) := atI_nat (by rw [List.getElem?_map, ez]; rfl)
        refine iteP (by simp) ?_
        repeat walk_at "rd"
        refine iteN (decide_eq_false fun e => by have := V.int.inj e; omega) ?_
        repeat walk_at "rd"
        exact ⟨_, _, rfl, k2⟩
      · refine iteN (decide_eq_false fun e => by have := V.int.inj e; omega) ?_
        have hb : i - 1 < ps.length := by omega
        have hpb := List.getElem?_eq_getElem hb
        have hstep := hp.step (i - 1) ps[i - 1] m hpb (by rw [show i - 1 + 1 = i by omega]; exact hps)
        have hlb := hlv _ (List.getElem_mem hb)
        have hatT : atI (ps.map fun m : Nat => V.int m) ((i : Int) - 1) = some (.int (ps[i - 1] : Nat)) := by
          rw [show ((i : Nat) : Int) - 1 = ((i - 1 : Nat) : Int) by omega]
          exact atI_nat (by rw [List.getElem?_map, hpb]; rfl)
        generalize ps[i - 1] = b at *
        obtain ⟨row, er, _⟩ := live_lt hlb
        rcases hv b _ er with ⟨e', _⟩ | ⟨r, row', e', zr, hR⟩
        · cases e'
        cases Option.some.inj e'
        have hatS : atI vs (b : Int) = some (V.ref r) := atI_nat zr
        have hR2 := k2.sqT (by simp) hR
        repeat walk_at "rd"
        rw [rowOf_some er] at hstep
        refine ⟨r, _, rfl, .inr hR2, rfl, flat_row row, ?_⟩
        rw [in_row hstep]
        refine ⟨false, rfl, ?_⟩
        refine iteN rfl ?_
        repeat walk_at "rd"
        exact ⟨_, _, rfl, k2⟩
    · rintro σ H1 ⟨y5, y6, rfl, k1⟩
      have ht1 := k1.sqT (by simp) ht
      have hpl : (ps.map fun m : Nat => V.int m) = ((ps.dropLast.map fun m : Nat => V.int m) ++ [.int (n : Nat)]) := by
        have hne := hp.ne
        have hl9 : ps.getLast hne = n := by
          have := hp.last
          rw [List.getLast_eq_getElem]
          rw [List.getElem?_eq_getElem (by have := List.length_pos_iff.mpr hne; omega)] at this
          exact Option.some.inj this
        conv => lhs; rw [← List.dropLast_concat_getLast hne, hl9]
        rw [List.map_append]
        rfl
      rw [hpl] at ht1
      have hatL : atI ((ps.dropLast.map fun m : Nat => V.int m) ++ [V.int (n : Nat)]) (-1) = some (.int (n : Nat)) := atI_last _ _
      repeat walk_at "rd"
      try refine iteN (by simp) ?_
      repeat walk_at "rd"
      exact k _ k1
end


section
variable {P : Program} {w : World} {K : PySem.W.Frag} {mg : Str → Option Value} {base : Heap}

theorem hold_mem {slots : List (Option Rw)} {m n : Nat} {p : Nat × Nat} (h : p ∈ holdL slots m n) : ∃ row, slots[p.1]? = some (some row) ∧ some m ∈ row := by
  unfold holdL at h
  obtain ⟨a, ha, h⟩ := List.mem_flatMap.mp h
  unfold hit at h
  split at h
  · rename_i row e
    unfold hitsN at h
    obtain ⟨j, hj, rfl⟩ := List.mem_map.mp h
    have := (List.mem_filter.mp hj).2
    exact ⟨row, e, List.mem_of_getElem? (i := j) (by simpa using this)⟩
  · cases h
theorem in_nats (h : Nat) (A : List Nat) : inV (.int (h : Int)) (A.map fun m : Nat => V.int m) = decide (h ∈ A) := by
  have e := in_int (n := (h : Int)) (A.map fun m : Nat => (m : Int))
  rw [List.map_map] at e
  refine e.trans ?_
  by_cases hh : h ∈ A
  · rw [decide_eq_true hh, decide_eq_true (List.mem_map.mpr ⟨h, hh, rfl⟩)]
  · rw [decide_eq_false hh, decide_eq_false fun z => by
      obtain ⟨m, hm, e⟩ := List.mem_map.mp z
      have : m = h := by omega
      exact hh (this ▸ hm)]
theorem flat_natsV (A : List Nat) : (A.map fun m : Nat => V.int m).all flatV = true := by
  rw [List.all_eq_true]
  intro v hv
  obtain ⟨o, _, rfl⟩ := List.mem_map.mp hv
  rfl
theorem x_anyF {H : Hp} {Q : VK} {a : Addr} {n : Nat} (h : SqL K H a ((List.replicate n false).map V.bl)) (q : Q (.bl false) H) : rAny K [.ref a] H Q := by
  refine ⟨a, _, rfl, h, ?_⟩
  rw [show (List.replicate n false).any id = false by rw [List.any_eq_false]; intro x hx; rw [List.eq_of_mem_replicate hx]; simp]
  exact q
def spAsc (K : PySem.W.Frag) : Sp := fun vs H Q _ => ∃ (D t : Addr) (slots : List (Option Rw)) (outs : List Int) (ns : List Nat), vs = [.ref D, .ref t] ∧ HeapT K H D slots outs ∧ SqT K H t (ns.map fun m : Nat => V.int m) ∧ ns.Pairwise (· < ·) ∧ (∀ m ∈ ns, isLive slots m = true) ∧ ∀ H', Kx [] H H' → Q .non H'
theorem ok_asc {f : Addr} {fd : FuncData} (F : Fun K "_check_ascending" "_check_ascending" sCheckAscending f fd) (T : Txt mg) (l_is_live : Lo P w K mg base "is_live" 3 ["heap", "value"] (spIsLive K)) : FnOk P w K mg base CX0 4 f fd ["heap", "entries"] (spAsc K) := by
  refine F.ok scCheckAscending (fun vs H Q E h => ?_) (fun cdv A outer s H vs Q E hr h => ?_)
  · obtain ⟨D, t, slots, outs, ns, rfl, _⟩ := h
    rfl
  · obtain ⟨D, t, slots, outs, ps, rfl, hT, ht, hup, hlv, k⟩ := h
    refine ⟨_, (pss_one (ps_for PassesOwn.never rfl (pi_enumT (by rfl) T.b_enumerate (pa_cons (pv 1) pa_nil)) (pg_tup rfl (pgs_cons (pg_name (i := 2) scCheckAscending.nd rfl (Or.inl rfl)) (pgs_cons (pg_name (i := 3) scCheckAscending.nd rfl (Or.inl rfl)) pgs_nil)))
      (pss_cons (ps_if (pt_not (pt_val (pe_lo l_is_live (hr.mono (by decide)) (by rfl) (pa_cons (pv 0) (pa_cons (pv 3) pa_nil))))) (pss_one ps_never) pss_nil)
      (pss_one (ps_if ((pw_and (pt_cmpR op_gt (pv 2) pe_int (nomark _)) (pw_and1 (pt_cmpR op_le (pv 3) (pe_ix ix_tup (pv 1) (pe_op op_sub (pv 2) pe_int) (fun _ _ => rfl)) (nomark _))))).pt (pss_one ps_never) pss_nil))))), ?_⟩
    refine x_start (σ' := [some (.ref D), some (.ref t), none, none]) rfl ?_
    try dsimp only [cxOf]
    have hlen : (ps.map fun m : Nat => V.int m).length = ps.length := List.length_map _
    repeat walk_at "rd"
    refine y_forET ht ⟨fun i σ H1 => ∃ (y5 y6 : Option V), σ = [some (.ref D), some (.ref t), y5, y6] ∧ Kx [] H H1, ⟨_, _, rfl, Kx.refl [] H⟩, ?_, ?_, ?_⟩
    · rintro i σ H1 hi ⟨y5, y6, rfl, k1⟩
      exact k1.sqT (by simp) ht
    · rintro i x σ H1 H1' hi ⟨y5, y6, rfl, k1⟩ ⟨U, x1, x2, rfl, nU, rfl, f1, f2⟩
      cases f1
      replace f2 : (ps.map fun m : Nat => V.int m)[i]? = some x2 := f2
      rw [hlen] at hi
      rw [List.getElem?_map, List.getElem?_eq_getElem hi] at f2
      cases Option.some.inj f2
      have k2 := k1.new (o := .tup [.int (i : Nat), .int (ps[i] : Nat)]) nU
      have hl := hlv _ (List.getElem_mem hi)
      have eU2 := upd_same (H := H1) (a := U) (o := .tup [.int (i : Nat), .int (ps[i] : Nat)])
      have hT2 := hT.keep k2
      have ht2 := k2.sqT (by simp) ht
      have hpi : 0 < i → ∃ b : Nat, ps[i - 1]? = some b ∧ b < ps[i] := fun h0 => by
        have hb : i - 1 < ps.length := by omega
        exact ⟨_, List.getElem?_eq_getElem hb, List.pairwise_iff_getElem.mp hup (i - 1) i hb hi (by omega)⟩
      generalize ps[i] = m at *
      generalize upd H1 U (.tup [.int (i : Nat), .int (m : Nat)]) = H2 at *
      repeat walk_at "rd"
      refine ⟨D, _, _, slots, outs, rfl, hT2, .int _, ?_⟩
      have hld : liveD slots (.int (m : Int)) = true := by rw [liveD_int, Int.toNat_natCast]; unfold isLive at hl; rw [hl]; simp
      rw [hld]
      repeat walk_at "rd"
      refine iteN (by decide) ?_
      repeat walk_at "rd"
      by_cases h0 : 0 < i
      · refine iteP (decide_eq_true (by omega)) ?_
        obtain ⟨b, hb, hbm⟩ := hpi h0
        have hatT : atI (ps.map fun m : Nat => V.int m) ((i : Int) - 1) = some (.int (b : Nat)) := by
          rw [show ((i : Nat) : Int) - 1 = ((i - 1 : Nat) : Int) by omega]
          exact atI_nat (by rw [List.getElem?_map, hb]; rfl)
        repeat walk_at "rd"
        refine iteN (decide_eq_false (by omega)) ?_
        repeat walk_at "rd"
        exact ⟨_, _, rfl, k2⟩
      · refine iteN (decide_eq_false (by omega)) ?_
        repeat walk_at "rd"
        exact ⟨_, _, rfl, k2⟩
    · rintro σ H1 ⟨y5, y6, rfl, k1⟩
      repeat walk_at "rd"
      exact k _ k1
def spClosed (K : PySem.W.Frag) : Sp := fun vs H Q _ => ∃ (D t : Addr) (slots : List (Option Rw)) (outs : List Int) (ns : List Nat), vs = [.ref D, .ref t] ∧ HeapT K H D slots outs ∧ Wf slots outs ∧ SqT K H t (ns.map fun m : Nat => V.int m) ∧ Unr slots outs ns ∧ ∀ H', Kx [] H H' → Q .non H'
theorem ok_closed {f : Addr} {fd : FuncData} (F : Fun K "_check_closed" "_check_closed" sCheckClosed f fd) (T : Txt mg) (l_holders : Lo P w K mg base "holders" 5 ["heap", "node"] (spHold K)) : FnOk P w K mg base CX0 6 f fd ["heap", "entries"] (spClosed K) := by
  refine F.ok scCheckClosed (fun vs H Q E h => ?_) (fun cdv A outer s H vs Q E hr h => ?_)
  · obtain ⟨D, t, slots, outs, ns, rfl, _⟩ := h
    rfl
  · obtain ⟨D, t, slots, outs, ps, rfl, hT, wf, ht, hun, k⟩ := h
    refine ⟨_, (pss_one (ps_for PassesOwn.never rfl (pi_enumT (by rfl) T.b_enumerate (pa_cons (pv 1) pa_nil)) (pg_tup rfl (pgs_cons (pg_name (i := 2) scCheckClosed.nd rfl (Or.inl rfl)) (pgs_cons (pg_name (i := 3) scCheckClosed.nd rfl (Or.inl rfl)) pgs_nil)))
      (pss_cons (ps_if (pt_cmpR op_gt (pe_ix ix_tup (pe_ix ix_tup (pv 0) pe_int (fun _ _ => rfl)) (pv 3) (fun _ _ => rfl)) pe_int (nomark _)) (pss_one ps_never) pss_nil)
      (pss_one (ps_if (pt_val (pe_callB (cr_any rfl) (by rfl) T.b_any boot'_any (pa_cons (pe_lc (own := [("holder", 4), ("_", 5)]) rfl scCheckClosed.nd (pi_list (pe_lo l_holders (hr.mono (by decide)) (by rfl) (pa_cons (pv 0) (pa_cons (pv 3) pa_nil)))) (blkOk_by (N := ["heap", "entries", "index", "entry", "holder", "_"]) (sc := defScope sCheckClosed) (by decide +kernel)) (fun _ _ _ _ _ => (pg_tupK (K := K) (n := 2) rfl rfl (pgs_cons (pg_name (i := 4) scCheckClosed.nd rfl (Or.inl rfl)) (pgs_cons (pg_name (i := 5) scCheckClosed.nd rfl (Or.inl rfl)) pgs_nil)))) (fun _ _ _ _ _ => pts_nil) (fun _ _ _ _ _ => (pe_cmpR (op_notIn_seqK (K := K)) (pv 4) (pv 1) (by with_unfolding_all rfl)))) pa_nil))) (pss_one ps_never) pss_nil))))), ?_⟩
    refine x_start (σ' := [some (.ref D), some (.ref t), none, none, none, none]) rfl ?_
    try dsimp only [cxOf]
    have hlen : (ps.map fun m : Nat => V.int m).length = ps.length := List.length_map _
    repeat walk_at "rd"
    refine y_forET ht ⟨fun i σ H1 => ∃ (y2 y3 y4 y5 : Option V), σ = [some (.ref D), some (.ref t), y2, y3, y4, y5] ∧ Kx [] H H1, ⟨_, _, _, _, rfl, Kx.refl [] H⟩, ?_, ?_, ?_⟩
    · rintro i σ H1 hi ⟨y2, y3, y4, y5, rfl, k1⟩
      exact k1.sqT (by simp) ht
    · rintro i x σ H1 H1' hi ⟨y2, y3, y4, y5, rfl, k1⟩ ⟨U, x1, x2, rfl, nU, rfl, f1, f2⟩
      cases f1
      replace f2 : (ps.map fun m : Nat => V.int m)[i]? = some x2 := f2
      rw [hlen] at hi
      rw [List.getElem?_map, List.getElem?_eq_getElem hi] at f2
      cases Option.some.inj f2
      have k2 := k1.new (o := .tup [.int (i : Nat), .int (ps[i] : Nat)]) nU
      obtain ⟨hl, hnr⟩ := (hun.mem _).mp (List.getElem_mem hi)
      have eU2 := upd_same (H := H1) (a := U) (o := .tup [.int (i : Nat), .int (ps[i] : Nat)])
      have hT2 := hT.keep k2
      have ht2 := k2.sqT (by simp) ht
      obtain ⟨S, O, vs, hD, hS, hO, hvl, hv⟩ := id hT2.ex
      generalize ps[i] = m at *
      generalize upd H1 U (.tup [.int (i : Nat), .int (m : Nat)]) = H2 at *
      obtain ⟨row, er, hml⟩ := live_lt hl
      obtain ⟨z, ez⟩ : ∃ z, outs[m]? = some z := ⟨_, List.getElem?_eq_getElem (by rw [wf.len]; exact hml)⟩
      have hz0 : ¬ 0 < z := fun hz => hnr (.src hl ez hz)
      have hatO : atI (outs.map V.int) (m : Int) = some (.int z) := atI_nat (by rw [List.getElem?_map, ez]; rfl)
      repeat walk_at "rd"
      refine iteN (decide_eq_false hz0) ?_
      repeat walk_at "rd"
      refine ⟨D, m, slots, outs, rfl, hT2, wf, hl, fun p H3 ys np k3 ep hP => ?_⟩
      have ht3 := k3.sqT (by simp) ht2
      have hyl : ys.length ≤ 1600 := by
        rw [hP.1]
        exact Nat.le_trans (holdL_len wf.row m _) (by have := wf.most; omega)
      repeat walk_at "rd"
      refine y_lcL (SqL.of ep) (fun W nW => ⟨fun j H4 => Kx [] H3 H4 ∧ H4 W = some (.lst ((List.replicate j false).map V.bl)), ⟨(Kx.refl _ _).new nW, upd_same⟩, ?_, ?_, ?_⟩)
      · rintro j H4 hj ⟨k4, _⟩
        exact k4.sqL (by simp) (SqL.of ep)
      · rintro j x H4 H4' hj ⟨k4, eW⟩ ⟨rfl, hx⟩
        have hjl : j < (holdL slots m slots.length).length := by rw [← hP.1]; exact hj
        obtain ⟨r, er1, er2⟩ := hP.2 j _ (List.getElem?_eq_getElem hjl)
        cases Option.some.inj (er1.symm.trans hx)
        have hmem := List.getElem_mem hjl
        generalize (holdL slots m slots.length)[j] = pr at *
        obtain ⟨h, sl⟩ := pr
        have er4 := k4 r _ (by simp) er2
        have ht4 := k4.sqT (by simp) ht3
        repeat walk_at "rd"
        refine ⟨rfl, ?_⟩
        repeat walk_at "rd"
        obtain ⟨rw0, erw, hmr⟩ := hold_mem hmem
        have hin : h ∈ ps := (hun.mem h).mpr ⟨by simp [isLive, erw], fun r => hnr (.step r (by rw [rowOf_some erw]; exact hmr))⟩
        refine ⟨t, _, rfl, .inr ht4, rfl, flat_natsV _, ?_⟩
        rw [in_nats, decide_eq_true hin]
        refine ⟨_, eW, size4000 (by rw [List.length_map, List.length_replicate]; omega), k4.wr (.inl nW), ?_⟩
        rw [upd_same, List.replicate_succ', List.map_append]
        rfl
      rintro H4 ⟨k4, eW⟩
      repeat walk_at "rd"
      refine x_anyF (SqL.of eW) ?_
      repeat walk_at "rd"
      try refine iteN (by decide) ?_
      repeat walk_at "rd"
      exact ⟨_, _, _, _, rfl, (k2.trans k3).trans k4⟩
    · rintro σ H1 ⟨y2, y3, y4, y5, rfl, k1⟩
      repeat walk_at "rd"
      exact k _ k1
/-- a right certificate, and what is said of it -/
def spChk (K : PySem.W.Frag) : Sp := fun vs H Q _ => ∃ (D B t : Addr) (n : Nat) (slots : List (Option Rw)) (outs : List Int) (ps : List Nat) (b : Bool), vs = [.ref D, .int n, .ref B] ∧ HeapT K H D slots outs ∧ Wf slots outs ∧ isLive slots n = true ∧ SqT K H t (ps.map fun m : Nat => V.int m) ∧
  ((b = true ∧ SqT K H B [.str "reached", .ref t] ∧ PathTo slots outs n ps ∧ (∀ m ∈ ps, isLive slots m = true)) ∨ (b = false ∧ SqT K H B [.str "unreached", .ref t] ∧ Unr slots outs ps ∧ ¬ Reach slots outs n)) ∧ ∀ H', Kx [] H H' → Q (.bl b) H'
theorem ok_chk {f C : Addr} {fd : FuncData} (F : Fun K "check_reach" "check_reach" sCheckReach f fd) (T : Txt mg) (l_need_live : Lo P w K mg base "need_live" 4 ["heap", "node"] (spNeedL K)) (l_is_labelled : Lo P w K mg base "is_labelled" 2 ["value", "labels"] (spLab K))
    (l_check_path : Lo P w K mg base "_check_path" 4 ["heap", "node", "path"] (spChkPath K)) (l_check_ascending : Lo P w K mg base "_check_ascending" 4 ["heap", "entries"] (spAsc K)) (l_check_closed : Lo P w K mg base "_check_closed" 6 ["heap", "entries"] (spClosed K)) : FnOk P w K mg base CX0 7 f fd ["heap", "node", "value"] (spChk K) := by
  refine F.ok scCheckReach (fun vs H Q E h => ?_) (fun cdv A outer s H vs Q E hr h => ?_)
  · obtain ⟨D, B, t, n, slots, outs, ps, b, rfl, _⟩ := h
    rfl
  · obtain ⟨D, B, t, n, slots, outs, ps, b, rfl, hT, wf, hlv, ht, hc, k⟩ := h
    refine ⟨_, (pss_cons (ps_expr (pe_lo l_need_live (hr.mono (by decide)) (by rfl) (pa_cons (pv 0) (pa_cons (pv 1) pa_nil))))
      (pss_cons (ps_if (pt_not (pt_val (pe_lo l_is_labelled (hr.mono (by decide)) (by rfl) (pa_cons (pv 2) (pa_cons (pe_tup (pa_cons pe_str (pa_cons pe_str pa_nil))) pa_nil))))) (pss_one ps_never) pss_nil)
      (pss_cons (ps_asg (pv 2) (pg_tup rfl (pgs_cons (pg_name (i := 3) scCheckReach.nd rfl (Or.inl rfl)) (pgs_cons (pg_name (i := 4) scCheckReach.nd rfl (Or.inl rfl)) pgs_nil))))
      (pss_cons (ps_if (pt_cmpR op_eq (pv 3) pe_str (nomark _)) (pss_cons (ps_expr (pe_lo l_check_path (hr.mono (by decide)) (by rfl) (pa_cons (pv 0) (pa_cons (pv 1) (pa_cons (pv 4) pa_nil)))))
      (pss_one (ps_ret pe_bl))) pss_nil)
      (pss_cons (ps_expr (pe_lo l_check_ascending (hr.mono (by decide)) (by rfl) (pa_cons (pv 0) (pa_cons (pv 4) pa_nil))))
      (pss_cons (ps_if (pt_cmpR op_notIn_seq (pv 1) (pv 4) (by with_unfolding_all rfl)) (pss_one ps_never) pss_nil)
      (pss_cons (ps_expr (pe_lo l_check_closed (hr.mono (by decide)) (by rfl) (pa_cons (pv 0) (pa_cons (pv 4) pa_nil))))
      (pss_one (ps_ret pe_bl))))))))), ?_⟩
    refine x_start (σ' := [some (.ref D), some (.int n), some (.ref B), none, none]) rfl ?_
    try dsimp only [cxOf]
    have hld : liveD slots (.int (n : Int)) = true := by rw [liveD_int, Int.toNat_natCast]; unfold isLive at hlv; rw [hlv]; simp
    have hne : (ps.map fun m : Nat => V.int m) ≠ [] := by
      rcases hc with ⟨_, _, hp, _⟩ | ⟨_, _, hu, hn⟩
      · simpa using hp.ne
      · have := (hu.mem n).mpr ⟨hlv, hn⟩
        intro z
        rw [List.map_eq_nil_iff] at z
        rw [z] at this
        cases this
    have hB : ∃ wd : Str, SqT K H B [.str wd, .ref t] ∧ (wd = "reached" ∨ wd = "unreached") ∧ (wd = "reached" → b = true ∧ PathTo slots outs n ps ∧ (∀ m ∈ ps, isLive slots m = true)) ∧ (wd = "unreached" → b = false ∧ Unr slots outs ps ∧ ¬ Reach slots outs n) := by
      rcases hc with ⟨h1, h2, h3, h4⟩ | ⟨h1, h2, h3, h4⟩
      · exact ⟨_, h2, .inl rfl, fun _ => ⟨h1, h3, h4⟩, fun e => absurd e (by decide +kernel)⟩
      · exact ⟨_, h2, .inr rfl, fun e => absurd e (by decide +kernel), fun _ => ⟨h1, h3, h4⟩⟩
    obtain ⟨wd, hB, hw, hw1, hw2⟩ := hB
    repeat walk_at "rd"
    refine ⟨D, _, _, slots, outs, rfl, hT, .int _, hld, ?_⟩
    repeat walk_at "rd"
    rename_i lt nlt
    have k1 : Kx [] H (upd H lt (.tup [.str "reached", .str "unreached"])) := (Kx.refl [] H).new nlt
    have elt := upd_same (H := H) (a := lt) (o := .tup [.str "reached", .str "unreached"])
    have hB1 := k1.sqT (by simp) hB
    have ht1 := k1.sqT (by simp) ht
    have hT1 := hT.keep k1
    generalize upd H lt (.tup [.str "reached", .str "unreached"]) = H1 at *
    refine ⟨B, t, lt, wd, _, rfl, hB1, ht1, hne, SqT.of elt, hw, ?_⟩
    repeat walk_at "rd"
    refine iteN (by decide) ?_
    repeat walk_at "rd"
    rcases hw with rfl | rfl
    · obtain ⟨rfl, hp, hl⟩ := hw1 rfl
      refine iteP (by simp) ?_
      repeat walk_at "rd"
      refine ⟨D, t, n, slots, outs, ps, rfl, hT1, wf, ht1, hp, hl, fun H2 k2 => ?_⟩
      repeat walk_at "rd"
      exact k H2 (k1.trans k2)
    · obtain ⟨rfl, hu, hn⟩ := hw2 rfl
      refine iteN (by decide +kernel) ?_
      repeat walk_at "rd"
      refine ⟨D, t, slots, outs, ps, rfl, hT1, ht1, hu.up, fun m hm => ((hu.mem m).mp hm).1, fun H2 k2 => ?_⟩
      have ht2 := k2.sqT (by simp) ht1
      repeat walk_at "rd"
      refine ⟨t, _, rfl, .inr ht2, rfl, flat_natsV _, ?_⟩
      rw [in_nats, decide_eq_true ((hu.mem n).mpr ⟨hlv, hn⟩)]
      refine ⟨false, rfl, ?_⟩
      refine iteN rfl ?_
      repeat walk_at "rd"
      refine ⟨D, t, slots, outs, ps, rfl, hT1.keep k2, wf, ht2, hu, fun H3 k3 => ?_⟩
      repeat walk_at "rd"
      exact k H3 ((k1.trans k2).trans k3)
end


section
variable {P : Program} {w : World} {K : PySem.W.Frag} {mg : Str → Option Value} {base : Heap}

def spCertX (K : PySem.W.Frag) (C : Addr) : Sp := fun vs H Q E => ∃ (D : Addr) (v : V) (d : PyData) (slots : List (Option Rw)) (outs : List Int), vs = [.ref D, v] ∧ HeapT K H D slots outs ∧ Dp K H v d ∧ liveD slots d = false ∧ ∀ dd H', H' dd = some (.xd [("node", v)]) → Kx [] H H' → E (.ref C) (some dd) H'
theorem ok_certX {f C_NoNode : Addr} {fd : FuncData} (F : Fun K "reach_certificate" "reach_certificate" sReachCertificate f fd) (T : Txt mg) (e_need_live : LoX P w K mg base "need_live" 4 ["heap", "node"] (spNeedLX K C_NoNode)) (l_live_nodes : Lo P w K mg base "live_nodes" 1 ["heap"] (spLive K)) (l_sources : Lo P w K mg base "_sources" 2 ["heap"] (spSrcs K)) (l_path_to : Lo P w K mg base "_path_to" 1 ["node", "sources"] (spPath K)) : FnOk P w K mg base (L2.CX P w) 5 f fd ["heap", "node"] (spCertX K C_NoNode) := by
  refine F.okX scReachCertificate (fun vs H Q E h => ?_) (fun cdv A outer s H vs Q E hr h => ?_)
  · obtain ⟨D, v, d, slots, outs, rfl, _⟩ := h
    rfl
  · obtain ⟨D, v, d, slots, outs, rfl, hT, hd, hl, k⟩ := h
    refine ⟨_, (pss_cons (ps_expr (pe_loX e_need_live (takes_of rfl rfl rfl rfl) (hr.mono (by decide)) (by rfl) (pa_cons (pv 0) (pa_cons (pv 1) pa_nil))))
      (pss_cons (ps_set (i := 2) scReachCertificate.nd rfl (Or.inr rfl) (pe_lo l_sources (hr.mono (by decide)) (by rfl) (pa_cons (pv 0) pa_nil)))
      (pss_cons (ps_if (pt_cmp (pc_din (hu_of hr) (pv 1) (pv 2))) (pss_one (ps_ret (pe_tup (pa_cons pe_str (pa_cons (pe_lo l_path_to (hr.mono (by decide)) (by rfl) (pa_cons (pv 1) (pa_cons (pv 2) pa_nil))) pa_nil))))) pss_nil)
      (pss_one (ps_ret (pe_tup (pa_cons pe_str (pa_cons (pe_callTy call_tuple_of (by rfl) T.b_tuple boot'_tuple (pa_cons (pe_lc (own := [("other", 3)]) rfl scReachCertificate.nd (pi_list (pe_lo l_live_nodes (hr.mono (by decide)) (by rfl) (pa_cons (pv 0) pa_nil))) (blkOk_by (N := ["heap", "node", "sources", "other"]) (sc := defScope sReachCertificate) (by decide +kernel)) (fun _ _ _ _ _ => (pg_name (i := 3) scReachCertificate.nd rfl (Or.inl rfl))) (fun _ _ _ _ _ => (pts_one (pt_cmp (pc_dnotin (hu_of hr) (pv 3) (pv 2))))) (fun _ _ _ _ _ => (pv 3))) pa_nil)) pa_nil)))))))), ?_⟩
    refine x_start (σ' := [some (.ref D), some v, none, none]) rfl ?_
    try dsimp only [cxOf]
    repeat walk_at "rd"
    refine x_cW ?_
    repeat walk_at "rd"
    exact ⟨D, v, d, slots, outs, rfl, hT, hd, .inr ⟨hl, k⟩⟩
def spChkX (K : PySem.W.Frag) (C : Addr) : Sp := fun vs H Q E => ∃ (D : Addr) (v x : V) (d : PyData) (slots : List (Option Rw)) (outs : List Int), vs = [.ref D, v, x] ∧ HeapT K H D slots outs ∧ Dp K H v d ∧ liveD slots d = false ∧ ∀ dd H', H' dd = some (.xd [("node", v)]) → Kx [] H H' → E (.ref C) (some dd) H'
theorem ok_chkX {f C_NoNode : Addr} {fd : FuncData} (F : Fun K "check_reach" "check_reach" sCheckReach f fd) (T : Txt mg) (e_need_live : LoX P w K mg base "need_live" 4 ["heap", "node"] (spNeedLX K C_NoNode)) (l_is_labelled : Lo P w K mg base "is_labelled" 2 ["value", "labels"] (spLab K))
    (l_check_path : Lo P w K mg base "_check_path" 4 ["heap", "node", "path"] (spChkPath K)) (l_check_ascending : Lo P w K mg base "_check_ascending" 4 ["heap", "entries"] (spAsc K)) (l_check_closed : Lo P w K mg base "_check_closed" 6 ["heap", "entries"] (spClosed K)) : FnOk P w K mg base (L2.CX P w) 7 f fd ["heap", "node", "value"] (spChkX K C_NoNode) := by
  refine F.okX scCheckReach (fun vs H Q E h => ?_) (fun cdv A outer s H vs Q E hr h => ?_)
  · obtain ⟨D, v, x, d, slots, outs, rfl, _⟩ := h
    rfl
  · obtain ⟨D, v, x, d, slots, outs, rfl, hT, hd, hl, k⟩ := h
    refine ⟨_, (pss_cons (ps_expr (pe_loX e_need_live (takes_of rfl rfl rfl rfl) (hr.mono (by decide)) (by rfl) (pa_cons (pv 0) (pa_cons (pv 1) pa_nil))))
      (pss_cons (ps_if (pt_not (pt_val (pe_lo l_is_labelled (hr.mono (by decide)) (by rfl) (pa_cons (pv 2) (pa_cons (pe_tup (pa_cons pe_str (pa_cons pe_str pa_nil))) pa_nil))))) (pss_one ps_never) pss_nil)
      (pss_cons (ps_asg (pv 2) (pg_tup rfl (pgs_cons (pg_name (i := 3) scCheckReach.nd rfl (Or.inl rfl)) (pgs_cons (pg_name (i := 4) scCheckReach.nd rfl (Or.inl rfl)) pgs_nil))))
      (pss_cons (ps_if (pt_cmpR op_eq (pv 3) pe_str (nomark _)) (pss_cons (ps_expr (pe_lo l_check_path (hr.mono (by decide)) (by rfl) (pa_cons (pv 0) (pa_cons (pv 1) (pa_cons (pv 4) pa_nil)))))
      (pss_one (ps_ret pe_bl))) pss_nil)
      (pss_cons (ps_expr (pe_lo l_check_ascending (hr.mono (by decide)) (by rfl) (pa_cons (pv 0) (pa_cons (pv 4) pa_nil))))
      (pss_cons (ps_if (pt_cmpR op_notIn_seq (pv 1) (pv 4) (by with_unfolding_all rfl)) (pss_one ps_never) pss_nil)
      (pss_cons (ps_expr (pe_lo l_check_closed (hr.mono (by decide)) (by rfl) (pa_cons (pv 0) (pa_cons (pv 4) pa_nil))))
      (pss_one (ps_ret pe_bl))))))))), ?_⟩
    refine x_start (σ' := [some (.ref D), some v, some x, none, none]) rfl ?_
    try dsimp only [cxOf]
    repeat walk_at "rd"
    refine x_cW ?_
    repeat walk_at "rd"
    exact ⟨D, v, d, slots, outs, rfl, hT, hd, .inr ⟨hl, k⟩⟩
end


section
variable {P : Program} {w : World} {K : PySem.W.Frag} {mg : Str → Option Value} {base : Heap}

/-- what the text says of the class -/
structure NNx (K : PySem.W.Frag) (C_HeapError C_MissingError C_NoNode C_NoPosition C_NoReference C_NoSlot C_NotFreed C_UndoError : Addr) : Prop where
  xf : XfC K C_NoNode
  ec : ExcC K C_NoNode
  hno : PySem.W.findIn K (.ref C_NoNode) "node" = some none
  i1 : PySem.W.kitOne K (.ref C_NoNode) (.ref C_NoNode) = some true
  i2 : PySem.W.kitOne K (.ref C_NoNode) (.ref C_NoReference) = some false
  i3 : PySem.W.kitOne K (.ref C_NoNode) (.ref C_NoSlot) = some false
  i4 : PySem.W.kitAny K (.ref C_NoNode) [.ref C_HeapError, .ref C_NotFreed, .ref C_NoPosition, .ref C_UndoError] = some false
  i5 : PySem.W.kitOne K (.ref C_NoNode) (.type "LookupError") = some true
  te : PySem.W.exmAny K (.ref C_NoNode) [.ref C_HeapError, .ref C_MissingError] = some true
/-- the lambda's run ends in NoNode(v); back comes ("node", v) -/
def TTmiss (C : Addr) : (XK → Hp → VK → Prop) → Hp → VK → Prop := fun tl H Q => ∃ v : V, (∀ (E : XK) (Qn : VK), (∀ dd H', H' dd = some (.xd [("node", v)]) → Kx [] H H' → E (.ref C) (some dd) H') → tl E H Qn) ∧
  ∀ L H', H L = none → Kx [] H H' → H' L = some (.tup [.str "node", v]) → Q (.ref L) H'
theorem gives_missing {X : Cx} {C_HeapError C_MissingError C_NoNode C_NoPosition C_NoReference C_NoSlot C_NotFreed C_UndoError g : Addr} {cdg : Value} {q : Str} {k : Nat} (T : Txt X.mg) (c_HeapError : X.mg "HeapError" = some (.ref C_HeapError)) (c_MissingError : X.mg "MissingError" = some (.ref C_MissingError)) (c_NoNode : X.mg "NoNode" = some (.ref C_NoNode)) (c_NoPosition : X.mg "NoPosition" = some (.ref C_NoPosition)) (c_NoReference : X.mg "NoReference" = some (.ref C_NoReference)) (c_NoSlot : X.mg "NoSlot" = some (.ref C_NoSlot)) (c_NotFreed : X.mg "NotFreed" = some (.ref C_NotFreed)) (c_UndoError : X.mg "UndoError" = some (.ref C_UndoError)) (N : NNx X.K C_HeapError C_MissingError C_NoNode C_NoPosition C_NoReference C_NoSlot C_NotFreed C_UndoError) : Gives X ["_law_call", "_law_caught", "error", "_law_marks", "_law_others"] "_law_missing" sQMissing g cdg "_law_call" q k (TTmiss C_NoNode) := by
  rintro f c' s H Q tl hr act hc ⟨v, hraise, hq⟩
  generalize X.prog = P at *
  generalize X.w = w at *
  generalize X.K = K at *
  generalize X.mg = mg at *
  generalize X.base = base at *
  generalize X.A = A at *
  generalize X.stack = stk at *
  refine ⟨_, (pss_cons (ps_set (i := 1) scQMissing.nd rfl (Or.inl rfl) pe_non)
      (pss_cons (ps_try_kp2 (i := 2) rfl rfl rfl scQMissing.nd rfl rfl ⟨rfl, by decide, Or.inl c_HeapError⟩ ⟨rfl, by decide, Or.inl c_MissingError⟩ (fun W pn xe tk po => (pss_one (ps_act (act W pn xe _ _ tk)))) (fun a oe cls d pn hz hf => by exact (pss_one (ps_set (i := 1) scQMissing.nd rfl (Or.inl rfl) (pv 2)))))
      (pss_cons (ps_if (pt_cmpR op_isN1 (pv 1) pe_non (nomark _)) (pss_one (ps_ret pe_non)) pss_nil)
      (pss_cons (ps_set (i := 3) scQMissing.nd rfl (Or.inl rfl) (pe_lst (pa_cons (pe_callB call_isK (by rfl) T.b_isinstance boot'_isinstance (pa_cons (pv 1) (pa_cons (pe_glob (v := .ref C_NoNode) (by rfl) c_NoNode rfl) pa_nil))) (pa_cons (pe_callB call_isK (by rfl) T.b_isinstance boot'_isinstance (pa_cons (pv 1) (pa_cons (pe_glob (v := .ref C_NoReference) (by rfl) c_NoReference rfl) pa_nil))) (pa_cons (pe_callB call_isK (by rfl) T.b_isinstance boot'_isinstance (pa_cons (pv 1) (pa_cons (pe_glob (v := .ref C_NoSlot) (by rfl) c_NoSlot rfl) pa_nil))) pa_nil)))))
      (pss_cons (ps_set (i := 4) scQMissing.nd rfl (Or.inl rfl) (pe_callB call_isK (by rfl) T.b_isinstance boot'_isinstance (pa_cons (pv 1) (pa_cons (pe_tup (pa_cons (pe_glob (v := .ref C_HeapError) (by rfl) c_HeapError rfl) (pa_cons (pe_glob (v := .ref C_NotFreed) (by rfl) c_NotFreed rfl) (pa_cons (pe_glob (v := .ref C_NoPosition) (by rfl) c_NoPosition rfl) (pa_cons (pe_glob (v := .ref C_UndoError) (by rfl) c_UndoError rfl) pa_nil))))) pa_nil))))
      (pss_cons (ps_if (PW.pt (pw_or (pt_cmpR op_ne (pe_bm PySem.F.plainAttrs_list PySem.F.slot_list_count PySem.F.type_list_count (mt_countB hr.units) (pv 3) (pa_cons pe_bl pa_nil)) pe_int (nomark _)) (pw_or (pt_val (pv 4)) (pw_or1 (pt_not (pt_val (pe_callB call_isK (by rfl) T.b_isinstance boot'_isinstance (pa_cons (pv 1) (pa_cons (pe_bltn (v := .ty "LookupError") (by rfl) T.b_LookupError boot'_LookupError rfl) pa_nil))))))))) (pss_one (ps_ret (pe_tup (pa_cons pe_str pa_nil)))) pss_nil)
      (pss_cons (ps_if (pt_val (pe_ix ix_list (pv 3) pe_int (fun _ _ => rfl))) (pss_one (ps_ret (pe_tup (pa_cons pe_str (pa_cons (pe_xk (pv 1)) pa_nil))))) pss_nil)
      (pss_one (ps_ret (pe_tup (pa_cons (pe_ix ix_list (pe_lst (pa_cons pe_str (pa_cons pe_str pa_nil))) (pe_bm PySem.F.plainAttrs_list PySem.F.slot_list_index PySem.F.type_list_index mt_index (pv 3) (pa_cons pe_bl pa_nil)) (fun _ _ => rfl)) (pa_cons (pe_xk (pv 1)) pa_nil)))))))))))), ?_⟩
  refine x_start (σ' := [some (.ref f), none, none, none, none]) rfl ?_
  try dsimp only [cxOf]
  repeat walk_at "rd"
  refine ⟨rfl, hc, hraise _ _ fun dd H4 edd k4 => ?_⟩
  refine ⟨N.te, fun a4 na4 => ?_⟩
  repeat walk_at "rd"
  have k5 := k4.new (o := exk a4 (.ref C_NoNode) (some dd)) na4
  have ea : upd H4 a4 (exk a4 (.ref C_NoNode) (some dd)) a4 = some (exk a4 (.ref C_NoNode) (some dd)) := upd_same
  have ed := lk_ne (o := exk a4 (.ref C_NoNode) (some dd)) edd na4
  generalize upd H4 a4 (exk a4 (.ref C_NoNode) (some dd)) = H5 at *
  refine iteN (by simp) ?_
  repeat walk_at "rd"
  refine x_isK1 N.ec ea ed (fun u h => h) N.i1 ?_
  repeat walk_at "rd"
  refine x_isK1 N.ec ea ed (fun u h => h) N.i2 ?_
  repeat walk_at "rd"
  refine x_isK1 N.ec ea ed (fun u h => h) N.i3 ?_
  repeat walk_at "rd"
  rename_i M nM tt ntt
  have ea6 := lk_ne (o := .tup [V.ref C_HeapError, V.ref C_NotFreed, V.ref C_NoPosition, V.ref C_UndoError]) (lk_ne (o := .lst [V.bl true, V.bl false, V.bl false]) ea nM) ntt
  have ed6 := lk_ne (o := .tup [V.ref C_HeapError, V.ref C_NotFreed, V.ref C_NoPosition, V.ref C_UndoError]) (lk_ne (o := .lst [V.bl true, V.bl false, V.bl false]) ed nM) ntt
  have eM6 := lk_ne (o := .tup [V.ref C_HeapError, V.ref C_NotFreed, V.ref C_NoPosition, V.ref C_UndoError]) (upd_same (H := H5) (a := M) (o := .lst [V.bl true, V.bl false, V.bl false])) ntt
  have et6 := upd_same (H := upd H5 M (.lst [V.bl true, V.bl false, V.bl false])) (a := tt) (o := .tup [V.ref C_HeapError, V.ref C_NotFreed, V.ref C_NoPosition, V.ref C_UndoError])
  have k6 := (k5.new (o := .lst [V.bl true, V.bl false, V.bl false]) nM).new (o := .tup [V.ref C_HeapError, V.ref C_NotFreed, V.ref C_NoPosition, V.ref C_UndoError]) ntt
  generalize upd (upd H5 M (.lst [V.bl true, V.bl false, V.bl false])) tt (.tup [V.ref C_HeapError, V.ref C_NotFreed, V.ref C_NoPosition, V.ref C_UndoError]) = H6 at *
  refine x_isKT N.ec ea6 ed6 (SqT.of et6) (vals_refs [C_HeapError, C_NotFreed, C_NoPosition, C_UndoError]) N.i4 ?_
  repeat walk_at "rd"
  refine ⟨ty_list (SqL.of eM6), ?_⟩
  repeat walk_at "rd"
  refine ⟨M, [true, false, false], true, rfl, rfl, SqL.of eM6, ?_⟩
  repeat walk_at "rd"
  refine iteN (by decide) ?_
  repeat walk_at "rd"
  refine x_isK1 N.ec ea6 ed6 (fun u h => h) N.i5 ?_
  repeat walk_at "rd"
  refine iteN (by decide) ?_
  repeat walk_at "rd"
  rename_i W nW
  have ea7 := lk_ne (o := .lst [V.str "node", V.str "reference"]) ea6 nW
  have ed7 := lk_ne (o := .lst [V.str "node", V.str "reference"]) ed6 nW
  have eM7 := lk_ne (o := .lst [V.str "node", V.str "reference"]) eM6 nW
  have eW7 := upd_same (H := H6) (a := W) (o := .lst [V.str "node", V.str "reference"])
  have k7 := k6.new (o := .lst [V.str "node", V.str "reference"]) nW
  generalize upd H6 W (.lst [V.str "node", V.str "reference"]) = H7 at *
  refine ⟨ty_list (SqL.of eM7), ?_⟩
  repeat walk_at "rd"
  refine ⟨M, _, _, 0, _, rfl, rfl, SqL.of eM7, rfl, rfl, rfl, rfl, fun m z h => absurd h (Nat.not_lt_zero _), ?_⟩
  refine ⟨W, _, _, _, rfl, rfl, SqL.of eW7, rfl, ?_⟩
  repeat walk_at "rd"
  refine x_xk ?_
  repeat walk_at "rd"
  refine ⟨a4, C_NoNode, dd, _, v, rfl, N.xf, N.hno, ea7, ed7, rfl, ?_⟩
  repeat walk_at "rd"
  rename_i L nL
  exact hq L _ (k7.fresh (by simp) nL) (k7.new nL) upd_same
end


section
variable {P : Program} {w : World} {K : PySem.W.Frag} {mg : Str → Option Value} {base : Heap}

/-- all but the tables of code objects and S stay -/
def Ky (S : List Addr) (H H' : Hp) : Prop := ∀ b o, b ∉ S → H b = some o → (∀ ps, o ≠ .tbl ps) → H' b = some o
theorem Ky.of {S : List Addr} {H H' : Hp} (k : Kx S H H') : Ky S H H' := fun b o n e _ => k b o n e
theorem Ky.ext {S : List Addr} {H H' : Hp} (e : LamX.ExtN H H') : Ky S H H' := fun b o _ h n => e b o h n
theorem Ky.trans {S : List Addr} {H H1 H2 : Hp} (a : Ky S H H1) (b : Ky S H1 H2) : Ky S H H2 := fun c o n e t => b c o n (a c o n e t) t
theorem Ky.extN {H H' : Hp} (k : Ky [] H H') : LamX.ExtN H H' := fun b o e n => k b o (by simp) e n
theorem extN_dummy : True := trivial
/-- v is the data d, as long as what lies at L stays -/
structure St (K : PySem.W.Frag) (H : Hp) (v : V) (d : PyData) (L : List Addr) : Prop where
  has : ∀ b ∈ L, ∃ o, H b = some o ∧ ∀ ps, o ≠ .tbl ps
  dp : ∀ H3, (∀ b ∈ L, H3 b = H b) → Dp K H3 v d
theorem St.keep {K : PySem.W.Frag} {H H' : Hp} {v : V} {d : PyData} {L : List Addr} (h : St K H v d L) (k : ∀ b ∈ L, ∀ o, H b = some o → (∀ ps, o ≠ .tbl ps) → H' b = some o) : St K H' v d L := by
  have e : ∀ b ∈ L, H' b = H b := fun b hb => by
    obtain ⟨o, e1, e2⟩ := h.has b hb
    rw [e1, k b hb o e1 e2]
  exact ⟨fun b hb => by rw [e b hb]; exact h.has b hb, fun H3 x => h.dp H3 fun b hb => (x b hb).trans (e b hb)⟩
theorem St.kx {K : PySem.W.Frag} {H H' : Hp} {v : V} {d : PyData} {L S : List Addr} (h : St K H v d L) (k : Kx S H H') (hL : ∀ b ∈ L, b ∉ S) : St K H' v d L := h.keep fun b hb o e _ => k b o (hL b hb) e
theorem St.ext {K : PySem.W.Frag} {H H' : Hp} {v : V} {d : PyData} {L : List Addr} (h : St K H v d L) (x : LamX.ExtN H H') : St K H' v d L := h.keep fun b _ o e n => x b o e n
theorem St.now {K : PySem.W.Frag} {H : Hp} {v : V} {d : PyData} {L : List Addr} (h : St K H v d L) : Dp K H v d := h.dp H fun _ _ => rfl
theorem GoodN.list {L : Nat} {ds : List PyData} {k w n : Nat} (h : ∀ d ∈ ds, GoodN L d k w) (hn : ds.length ≤ n) : GoodN L (.list ds) (k + 1) (n * (w + 1)) := by
  obtain ⟨a1, a2, a3, a4, a5⟩ := goodN_all h
  exact ⟨by simpa only [PyData.showable] using a1, by simpa only [PyData.hasDict] using a2, by simp only [PyData.depth]; omega, by simpa only [PyData.leavesShort] using a4, by simp only [PyData.weight]; exact Nat.le_trans a5 (Nat.mul_le_mul_right _ hn)⟩
theorem GoodN.mono {L : Nat} {d : PyData} {k w k' w' : Nat} (h : GoodN L d k w) (a : k ≤ k') (b : w ≤ w') : GoodN L d k' w' := ⟨h.sh, h.nd, Nat.le_trans h.dp a, h.sl, Nat.le_trans h.wt b⟩
theorem liveD_out {slots : List (Option Rw)} {i : Int} (h : i < 0 ∨ (slots.length : Int) ≤ i) : liveD slots (.int i) = false := by
  rw [liveD_int]
  rcases h with h | h
  · rw [decide_eq_false (by omega), Bool.false_and]
  · rw [List.getElem?_eq_none (by omega)]
    simp
def spOdd (K : PySem.W.Frag) : Sp := fun vs H Q _ => ∃ (p c : Addr) (n m : Nat), vs = [.ref p, .int m] ∧ PenAt H p c n ∧ n < 900000 ∧ m ≤ 40 ∧
  ∀ v d (L : List Addr) H', Kx [p] H H' → PenAt H' p c (n + 1) → (∀ b ∈ L, H b = none) → St K H' v d L → GoodN 130 d 1 1000 → (∀ slots : List (Option Rw), slots.length = m → liveD slots d = false) → Q v H'
theorem ok_odd {f : Addr} {fd : FuncData} (F : Fun K "_law_odd" "_law_odd" sQOdd f fd) (T : Txt mg) (l_law_draw : Lo P w K mg base "_law_draw" 1 ["_law_pen_here", "_law_most_one"] spDraw) : FnOk P w K mg base CX0 2 f fd ["_law_pen_here", "_law_size"] (spOdd K) := by
  refine F.ok scQOdd (fun vs H Q E h => ?_) (fun cdv A outer s H vs Q E hr h => ?_)
  · obtain ⟨p, c, n, m, rfl, _⟩ := h
    rfl
  · obtain ⟨p, c, n, m, rfl, hpen, hn, hm, k⟩ := h
    have e30 : (10 : Int) ^ (30 : Int).toNat = 1000000000000000000000000000000 := by decide +kernel
    have e60 : (10 : Int) ^ (60 : Int).toNat = 1000000000000000000000000000000000000000000000000000000000000 := by decide +kernel
    refine ⟨_, (pss_one (ps_ret (pe_ix ix_list (pe_lst (pa_cons (pv 1) (pa_cons (pe_un un_neg pe_int) (pa_cons pe_bl (pa_cons pe_bl (pa_cons pe_non (pa_cons pe_str (pa_cons (pe_tup (pa_cons pe_int pa_nil)) (pa_cons (pe_lst (pa_cons pe_int pa_nil)) (pa_cons (pe_op op_pow pe_int pe_int) (pa_cons (pe_op op_sub pe_int (pe_op op_pow pe_int pe_int)) (pa_cons (pe_tup pa_nil) (pa_cons pe_int pa_nil))))))))))))) (pe_lo l_law_draw (hr.mono (by decide)) (by rfl) (pa_cons (pv 0) (pa_cons pe_int pa_nil))) (fun _ _ => rfl)))), ?_⟩
    refine x_start (σ' := [some (.ref p), some (.int m)]) rfl ?_
    try dsimp only [cxOf]
    repeat walk_at "rd"
    rw [e30, e60]
    rename_i t1 nt1 l1 nl1 t2 nt2 q nq
    generalize hzs : [V.int (m : Nat), V.int (-1), V.bl true, V.bl false, V.non, V.str "0", V.ref t1, V.ref l1, V.int 1000000000000000000000000000000, V.int (0 - 1000000000000000000000000000000000000000000000000000000000000), V.ref t2, V.int 41] = zs at *
    have hzl : zs.length = 12 := by rw [← hzs]; rfl
    have et1 := lk_ne (o := .lst zs) (lk_ne (o := .tup []) (lk_ne (o := .lst [.int 0]) (upd_same (H := H) (a := t1) (o := .tup [.int 0])) nl1) nt2) nq
    have el1 := lk_ne (o := .lst zs) (lk_ne (o := .tup []) (upd_same (H := upd H t1 (.tup [.int 0])) (a := l1) (o := .lst [.int 0])) nt2) nq
    have et2 := lk_ne (o := .lst zs) (upd_same (H := upd (upd H t1 (.tup [.int 0])) l1 (.lst [.int 0])) (a := t2) (o := .tup [])) nq
    have eq := upd_same (H := upd (upd (upd H t1 (.tup [.int 0])) l1 (.lst [.int 0])) t2 (.tup [])) (a := q) (o := .lst zs)
    have kk := ((((Kx.refl [] H).new (o := .tup [.int 0]) nt1).new (o := .lst [.int 0]) nl1).new (o := .tup []) nt2).new (o := .lst zs) nq
    obtain ⟨⟨op, hp⟩, _⟩ := hpen.some
    have npt : ∀ b, H b = none → b ≠ p := fun b hb z => by rw [z, hp] at hb; cases hb
    have fl1 := ((Kx.refl [] H).new (o := .tup [.int 0]) nt1).fresh (by simp) nl1
    have ft2 := (((Kx.refl [] H).new (o := .tup [.int 0]) nt1).new (o := .lst [.int 0]) nl1).fresh (by simp) nt2
    have t1p := npt _ nt1
    have l1p : l1 ≠ p := npt _ (((Kx.refl [] H).new (o := .tup [.int 0]) nt1).fresh (by simp) nl1)
    have t2p : t2 ≠ p := npt _ ((((Kx.refl [] H).new (o := .tup [.int 0]) nt1).new (o := .lst [.int 0]) nl1).fresh (by simp) nt2)
    have qp : q ≠ p := npt _ (((((Kx.refl [] H).new (o := .tup [.int 0]) nt1).new (o := .lst [.int 0]) nl1).new (o := .tup []) nt2).fresh (by simp) nq)
    have P1 := hpen.keep (((((Kx.refl [] H).new (o := .tup [.int 0]) nt1).new (o := .lst [.int 0]) nl1).new (o := .tup []) nt2).new (o := .lst zs) nq) (by simp) (by simp) (Nat.le_refl _)
    generalize upd (upd (upd (upd H t1 (.tup [.int 0])) l1 (.lst [.int 0])) t2 (.tup [])) q (.lst zs) = H1 at *
    refine x_draw P1 (by omega) (by omega) (by omega) fun i H2 i0 i1 k2 P2 => ?_
    have eq2 := k2 q _ (by simpa using qp) eq
    have et12 := k2 t1 _ (by simpa using t1p) et1
    have el12 := k2 l1 _ (by simpa using l1p) el1
    have et22 := k2 t2 _ (by simpa using t2p) et2
    have hs : ∀ b ∈ [t1, l1, t2], ∃ o, H2 b = some o ∧ ∀ ps, o ≠ .tbl ps := fun b hb => by
      simp only [List.mem_cons, List.not_mem_nil, or_false] at hb
      rcases hb with rfl | rfl | rfl
      · exact ⟨_, et12, fun _ z => nomatch z⟩
      · exact ⟨_, el12, fun _ z => nomatch z⟩
      · exact ⟨_, et22, fun _ z => nomatch z⟩
    have hf : ∀ b ∈ [t1, l1, t2], H b = none := fun b hb => by
      simp only [List.mem_cons, List.not_mem_nil, or_false] at hb
      rcases hb with rfl | rfl | rfl
      · exact nt1
      · exact fl1
      · exact ft2
    have mkS : ∀ {v : V} {d : PyData}, (∀ H3, (∀ b ∈ [t1, l1, t2], H3 b = H2 b) → Dp K H3 v d) → St K H2 v d [t1, l1, t2] := fun h => ⟨hs, h⟩
    obtain ⟨n, rfl⟩ : ∃ n : Nat, i = n := ⟨i.toNat, by omega⟩
    have hn12 : n < 12 := by omega
    have hat : ∃ v d, zs[n]? = some v ∧ St K H2 v d [t1, l1, t2] ∧ GoodN 130 d 1 1000 ∧ (∀ slots : List (Option Rw), slots.length = m → liveD slots d = false) := by
      have hz : ∀ {j : Nat} {v : V}, [V.int (m : Nat), V.int (-1), V.bl true, V.bl false, V.non, V.str "0", V.ref t1, V.ref l1, V.int 1000000000000000000000000000000, V.int (0 - 1000000000000000000000000000000000000000000000000000000000000), V.ref t2, V.int 41][j]? = some v → zs[j]? = some v := fun h => by rw [← hzs]; exact h
      have gi : ∀ {z : Int}, z.natAbs < 2 ^ 400 → GoodN 130 (.int z) 1 1000 := fun h => (GoodN.int h).mono (by decide) (by decide)
      rcases (show n = 0 ∨ n = 1 ∨ n = 2 ∨ n = 3 ∨ n = 4 ∨ n = 5 ∨ n = 6 ∨ n = 7 ∨ n = 8 ∨ n = 9 ∨ n = 10 ∨ n = 11 by omega) with e | e | e | e | e | e | e | e | e | e | e | e <;> subst e
      · exact ⟨_, _, hz rfl, mkS fun _ _ => .int _, gi (Nat.lt_of_le_of_lt (show (m : Int).natAbs ≤ 40 by omega) (by decide +kernel)), fun slots hs => liveD_out (by omega)⟩
      · exact ⟨_, _, hz rfl, mkS fun _ _ => .int _, gi (by decide +kernel), fun slots hs => liveD_out (by omega)⟩
      · exact ⟨_, _, hz rfl, mkS fun _ _ => .bl true, by constructor <;> decide +kernel, fun _ _ => rfl⟩
      · exact ⟨_, _, hz rfl, mkS fun _ _ => .bl false, by constructor <;> decide +kernel, fun _ _ => rfl⟩
      · exact ⟨_, _, hz rfl, mkS fun _ _ => .non, by constructor <;> decide +kernel, fun _ _ => rfl⟩
      · exact ⟨_, _, hz rfl, mkS fun _ _ => .str _, by constructor <;> decide +kernel, fun _ _ => rfl⟩
      · exact ⟨_, .tuple [.int 0], hz rfl, mkS fun _ x => .tup (SqT.of ((x t1 (by simp)).trans et12)) (.cons (.int 0) .nil), by constructor <;> decide +kernel, fun _ _ => rfl⟩
      · exact ⟨_, .list [.int 0], hz rfl, mkS fun _ x => .lst (SqL.of ((x l1 (by simp)).trans el12)) (.cons (.int 0) .nil), by constructor <;> decide +kernel, fun _ _ => rfl⟩
      · exact ⟨_, _, hz rfl, mkS fun _ _ => .int _, gi (by decide +kernel), fun slots hs => liveD_out (by omega)⟩
      · exact ⟨_, _, hz rfl, mkS fun _ _ => .int _, gi (by decide +kernel), fun slots hs => liveD_out (by omega)⟩
      · exact ⟨_, .tuple [], hz rfl, mkS fun _ x => .tup (SqT.of ((x t2 (by simp)).trans et22)) .nil, by constructor <;> decide +kernel, fun _ _ => rfl⟩
      · exact ⟨_, _, hz rfl, mkS fun _ _ => .int _, gi (by decide +kernel), fun slots hs => liveD_out (by omega)⟩
    obtain ⟨v, d, hv, hd, hg, ho⟩ := hat
    exact ⟨q, zs, _, _, rfl, rfl, SqL.of eq2, atI_nat hv, k v d _ H2 ((kk.mono (by simp)).trans k2) P2 hf hd hg ho⟩

/-- what is due: nothing, or a word and a value -/
def outD : Option (Str × PyData) → PyData
  | none => .none
  | some (wd, d) => .tuple [.str wd, d]
def spIsNode (K : PySem.W.Frag) : Sp := fun vs H Q _ => ∃ (D : Addr) (v : V) (d : PyData) (slots : List (Option Rw)) (outs : List Int), vs = [.ref D, v] ∧ HeapT K H D slots outs ∧ Dp K H v d ∧ Q (.bl (liveD slots d)) H
theorem ok_isNode {f : Addr} {fd : FuncData} (F : Fun K "_law_is_node" "_law_is_node" sQIsNode f fd) (T : Txt mg) : FnOk P w K mg base CX0 1 f fd ["_law_base_here", "_law_thing"] (spIsNode K) := by
  refine F.ok scQIsNode (fun vs H Q E h => ?_) (fun cdv A outer s H vs Q E hr h => ?_)
  · obtain ⟨D, v, d, slots, outs, rfl, _⟩ := h
    rfl
  · obtain ⟨D, v, d, slots, outs, rfl, hT, hd, k⟩ := h
    obtain ⟨S, O, vs, hD, hS, hO, hvl, hv⟩ := id hT.ex
    refine ⟨_, (pss_cons (ps_if (PW.pt (pw_or (pt_not (pt_val (pe_callB call_isi (by rfl) T.b_isinstance boot'_isinstance (pa_cons (pv 1) (pa_cons (pe_bltn (v := .ty "int") (by rfl) T.b_int boot'_int rfl) pa_nil))))) (pw_or (pt_val (pe_callB call_isi (by rfl) T.b_isinstance boot'_isinstance (pa_cons (pv 1) (pa_cons (pe_bltn (v := .ty "bool") (by rfl) T.b_bool boot'_bool rfl) pa_nil)))) (pw_or1 (pt_not (pt_chain op_le op_lt pe_int (pv 1) (pe_callB call_len_seq (by rfl) T.b_len boot'_len (pa_cons (pe_ix ix_tup (pv 0) pe_int (fun _ _ => rfl)) pa_nil)))))))) (pss_one (ps_ret pe_bl)) pss_nil)
      (pss_one (ps_ret (pe_cmpR op_notN1 (pe_ix ix_tup (pe_ix ix_tup (pv 0) pe_int (fun _ _ => rfl)) (pv 1) (fun _ _ => rfl)) pe_non (nomark _))))), ?_⟩
    refine x_start (σ' := [some (.ref D), some v]) rfl ?_
    try dsimp only [cxOf]
    repeat walk_at "rd"
    have kf : liveD slots d = false → Q (.bl false) H := fun e => by rw [e] at k; exact k
    cases hI : isIB d with
    | false =>
      refine x_isiDI hd ?_
      rw [hI]
      repeat walk_at "rd"
      try refine iteP (by decide) ?_
      repeat walk_at "rd"
      exact kf (by cases d <;> first | rfl | cases hI)
    | true =>
      refine x_isiDI hd ?_
      rw [hI]
      repeat walk_at "rd"
      refine iteN (by decide) ?_
      repeat walk_at "rd"
      cases hB : isB d with
      | true =>
        refine x_isiDB hd ?_
        rw [hB]
        repeat walk_at "rd"
        try refine iteP (by decide) ?_
        repeat walk_at "rd"
        exact kf (by cases d <;> first | rfl | cases hB)
      | false =>
        have hdi : ∃ i, d = .int i := by
          cases d with
          | int i => exact ⟨i, rfl⟩
          | bool b => cases hB
          | _ => cases hI
        obtain ⟨i, rfl⟩ := hdi
        refine x_isiDB hd ?_
        rw [hB]
        repeat walk_at "rd"
        cases hd
        repeat walk_at "rd"
        by_cases h0 : 0 ≤ i
        · refine iteP (decide_eq_true h0) ?_
          repeat walk_at "rd"
          rw [hvl]
          by_cases h1 : i < (slots.length : Nat)
          · rw [decide_eq_true h1]
            repeat walk_at "rd"
            try refine iteN (by decide) ?_
            repeat walk_at "rd"
            obtain ⟨n, rfl⟩ : ∃ n : Nat, i = n := ⟨i.toNat, by omega⟩
            have hn : n < slots.length := by omega
            have es := List.getElem?_eq_getElem hn
            rcases hv n _ es with ⟨e, z⟩ | ⟨r, row, e, z, _⟩
            · have hz : atI vs (n : Int) = some .non := atI_nat z
              repeat walk_at "rd"
              exact kf (by rw [liveD_int, Int.toNat_natCast, es, e]; simp)
            · have hz : atI vs (n : Int) = some (.ref r) := atI_nat z
              have hl : liveD slots (.int (n : Int)) = true := by rw [liveD_int, Int.toNat_natCast, es, e]; simp
              rw [hl] at k
              repeat walk_at "rd"
              exact k
          · rw [decide_eq_false h1]
            repeat walk_at "rd"
            try refine iteP (by decide) ?_
            repeat walk_at "rd"
            exact kf (by rw [liveD_int, List.getElem?_eq_none (by omega)]; simp)
        · refine iteN (decide_eq_false h0) ?_
          repeat walk_at "rd"
          try refine iteP (by decide) ?_
          repeat walk_at "rd"
          exact kf (by rw [liveD_int, decide_eq_false h0]; rfl)
end


theorem sqT_kx {S : List Addr} {K : PySem.W.Frag} {H H' : Hp} {a : Addr} {xs : List V} (h : SqT K H a xs) (k : Kx S H H') (l : ∀ b ∈ S, ∃ ys : List V, H b = some (.lst ys)) : SqT K H' a xs := by
  rcases h with h | h
  · refine .inl ?_
    rcases h with h | ⟨o, h⟩
    · exact .inl (k _ _ (fun z => by obtain ⟨ys, e⟩ := l _ z; rw [h] at e; cases e) h)
    · exact .inr ⟨o, k _ _ (fun z => by obtain ⟨ys, e⟩ := l _ z; rw [h] at e; cases e) h⟩
  · exact .inr h
theorem sqT_wr {K : PySem.W.Frag} {H : Hp} {a p : Addr} {xs ys : List V} {o : HO} (h : SqT K H a xs) (l : H p = some (.lst ys)) : SqT K (upd H p o) a xs :=
  sqT_kx (S := [p]) h (fun b u hb e => lk_ne2 (fun z => hb (by rw [z]; exact List.mem_cons_self)) e) (fun b hb => by rw [List.mem_singleton.mp hb]; exact ⟨ys, l⟩)
theorem pen_lst {H : Hp} {p c : Addr} {n : Nat} (h : PenAt H p c n) : ∀ b ∈ [p], ∃ ys : List V, H b = some (.lst ys) := by
  obtain ⟨cs, pl, r, hp, _⟩ := h
  intro b hb
  rw [List.mem_singleton.mp hb]
  exact ⟨_, hp⟩
/-- the rows of a heap, in a list of values -/
structure RowsT (K : PySem.W.Frag) (H : Hp) (vs : List V) (slots : List (Option Rw)) : Prop where
  len : vs.length = slots.length
  at_ : ∀ (i : Nat) (o : Option Rw), slots[i]? = some o → (o = none ∧ vs[i]? = some V.non) ∨ ∃ r row, o = some row ∧ vs[i]? = some (.ref r) ∧ SqT K H r (rowV row)
theorem RowsT.kx {S : List Addr} {K : PySem.W.Frag} {H H' : Hp} {vs : List V} {slots : List (Option Rw)} (h : RowsT K H vs slots) (k : Kx S H H') (l : ∀ b ∈ S, ∃ ys : List V, H b = some (.lst ys)) : RowsT K H' vs slots := by
  refine ⟨h.len, fun i o ho => ?_⟩
  rcases h.at_ i o ho with z | ⟨r, row, e1, e2, e3⟩
  · exact .inl z
  · exact .inr ⟨r, row, e1, e2, sqT_kx e3 k l⟩
theorem RowsT.keep {K : PySem.W.Frag} {H H' : Hp} {vs : List V} {slots : List (Option Rw)} (h : RowsT K H vs slots) (k : Kx [] H H') : RowsT K H' vs slots := h.kx k (by simp)
theorem RowsT.wr {K : PySem.W.Frag} {H : Hp} {p : Addr} {ys vs : List V} {o : HO} {slots : List (Option Rw)} (h : RowsT K H vs slots) (l : H p = some (.lst ys)) : RowsT K (upd H p o) vs slots :=
  h.kx (S := [p]) (fun b u hb e => lk_ne2 (fun z => hb (by rw [z]; exact List.mem_cons_self)) e) (fun b hb => by rw [List.mem_singleton.mp hb]; exact ⟨ys, l⟩)
theorem RowsT.set {K : PySem.W.Frag} {H : Hp} {vs : List V} {slots : List (Option Rw)} (h : RowsT K H vs slots) {n : Nat} {t : Addr} {row : Rw} (ht : SqT K H t (rowV row)) (hn : n < slots.length) : RowsT K H (vs.set n (.ref t)) (slots.set n (some row)) := by
  refine ⟨by rw [List.length_set, List.length_set]; exact h.len, fun i o ho => ?_⟩
  by_cases e : i = n
  · subst e
    rw [List.getElem?_set_self hn] at ho
    cases Option.some.inj ho
    exact .inr ⟨t, row, rfl, List.getElem?_set_self (by rw [h.len]; exact hn), ht⟩
  · rw [List.getElem?_set_ne (Ne.symm e)] at ho
    rw [List.getElem?_set_ne (Ne.symm e)]
    exact h.at_ i o ho
theorem rowV_len (a : Rw) : (rowV a).length = a.length := List.length_map _
theorem rowV_app (a b : Rw) : rowV (a ++ b) = rowV a ++ rowV b := List.map_append
/-- a row more in two rows -/
theorem Wf.put {slots : List (Option Rw)} {outs : List Int} (wf : Wf slots outs) {n : Nat} {row row' : Rw} (h : slots[n]? = some (some row)) (hl : row'.length ≤ 40) (hm : ∀ k : Nat, some k ∈ row' → some k ∈ row ∨ ∃ r, slots[k]? = some (some r)) :
    Wf (slots.set n (some row')) outs := by
  have hn := (List.getElem?_eq_some_iff.mp h).1
  have key : ∀ (k : Nat) (r : Rw), slots[k]? = some (some r) → ∃ r, (slots.set n (some row'))[k]? = some (some r) := by
    intro k r hk
    by_cases e : n = k
    · subst e
      exact ⟨row', List.getElem?_set_self hn⟩
    · exact ⟨r, by rw [List.getElem?_set_ne e]; exact hk⟩
  refine ⟨by rw [List.length_set]; exact wf.len, by rw [List.length_set]; exact wf.most, fun m hm2 => ?_, wf.outs, fun r hr => ?_, fun r hr k hk => ?_⟩
  · by_cases e : n = m
    · subst e
      rw [List.getElem?_set_self hn] at hm2
      cases hm2
    · rw [List.getElem?_set_ne e] at hm2
      exact wf.free m hm2
  · rcases List.mem_or_eq_of_mem_set hr with hr | hr
    · exact wf.row r hr
    · cases hr
      exact hl
  · rcases List.mem_or_eq_of_mem_set hr with hr | hr
    · obtain ⟨q, hq⟩ := wf.live r hr k hk
      exact key k q hq
    · cases hr
      rcases hm k hk with h1 | ⟨q, hq⟩
      · obtain ⟨q, hq⟩ := wf.live row (List.mem_of_getElem? h) k h1
        exact key k q hq
      · exact key k q hq
theorem Wf.zero {slots : List (Option Rw)} {outs : List Int} (wf : Wf slots outs) (n : Nat) : Wf slots (outs.set n 0) := by
  refine ⟨by rw [List.length_set]; exact wf.len, wf.most, fun m hm => ?_, fun z hz => ?_, wf.row, wf.live⟩
  · have := wf.free m hm
    by_cases e : n = m
    · subst e
      exact List.getElem?_set_self (List.getElem?_eq_some_iff.mp this).1
    · rw [List.getElem?_set_ne e]
      exact this
  · rcases List.mem_or_eq_of_mem_set hz with hz | rfl
    · exact wf.outs z hz
    · omega
theorem live_set {slots : List (Option Rw)} {n : Nat} {row row' : Rw} (h : slots[n]? = some (some row)) (m : Nat) : isLive (slots.set n (some row')) m = isLive slots m := by
  have hn := (List.getElem?_eq_some_iff.mp h).1
  unfold isLive
  by_cases e : n = m
  · subst e
    rw [List.getElem?_set_self hn, h]
    rfl
  · rw [List.getElem?_set_ne e]
def posUp (outs : List Int) (n : Nat) : List Int := ((List.range n).filter fun m => decide (0 < (outs[m]?).getD 0)).map fun (m : Nat) => (m : Int)
theorem posUp_succ (outs : List Int) (n : Nat) : posUp outs (n + 1) = if 0 < (outs[n]?).getD 0 then posUp outs n ++ [(n : Int)] else posUp outs n := by
  unfold posUp
  rw [List.range_succ, List.filter_append, List.map_append]
  by_cases h : 0 < (outs[n]?).getD 0
  · simp [List.filter, h]
  · simp [List.filter, h]
theorem posUp_len (outs : List Int) (n : Nat) : (posUp outs n).length ≤ n := by
  unfold posUp
  rw [List.length_map]
  exact Nat.le_trans (List.length_filter_le _ _) (by rw [List.length_range]; exact Nat.le_refl _)
theorem WIr.start2 {slots : List (Option Rw)} {outs : List Int} (wf : Wf slots outs) : WIr slots outs (posUp outs outs.length) (posUp outs outs.length) none := by
  have key : ∀ z, z ∈ posUp outs outs.length ↔ ∃ m : Nat, z = m ∧ m < outs.length ∧ 0 < (outs[m]?).getD 0 := by
    intro z
    unfold posUp
    rw [List.mem_map]
    constructor
    · rintro ⟨m, hm, rfl⟩
      have := List.mem_filter.mp hm
      exact ⟨m, rfl, List.mem_range.mp this.1, of_decide_eq_true this.2⟩
    · rintro ⟨m, rfl, h1, h2⟩
      exact ⟨m, List.mem_filter.mpr ⟨List.mem_range.mpr h1, decide_eq_true h2⟩, rfl⟩
  refine ⟨?_, ?_, fun _ h => h, ?_, fun _ h => .inl h⟩
  · unfold posUp
    refine List.Pairwise.map _ ?_ ((List.nodup_range).filter _)
    intro a b hab e
    exact hab (Int.ofNat.inj e)
  · intro z hz
    obtain ⟨m, rfl, hm, hp⟩ := (key z).mp hz
    rw [List.getElem?_eq_getElem hm] at hp
    have hs : m < slots.length := by rw [← wf.len]; exact hm
    refine ⟨m, rfl, .src ?_ (List.getElem?_eq_getElem hm) hp⟩
    cases e : slots[m] with
    | none =>
      have := wf.free m (by rw [List.getElem?_eq_getElem hs, e])
      rw [List.getElem?_eq_getElem hm] at this
      rw [Option.some.inj this] at hp
      exact absurd hp (by decide)
    | some row => simp [isLive, List.getElem?_eq_getElem hs, e]
  · intro n z hlv e hz
    obtain ⟨hm, em⟩ := List.getElem?_eq_some_iff.mp e
    exact (key n).mpr ⟨n, rfl, hm, by rw [e]; exact hz⟩
section
variable {P : Program} {w : World} {K : PySem.W.Frag} {mg : Str → Option Value} {base : Heap}

def spLoose (K : PySem.W.Frag) : Sp := fun vs H Q _ => ∃ (p c D : Addr) (n : Nat) (slots : List (Option Rw)) (outs : List Int), vs = [.ref p, .ref D] ∧ PenAt H p c n ∧ n ≤ 900000 ∧ HeapT K H D slots outs ∧ Wf slots outs ∧ (∃ m, isLive slots m = true) ∧
  ∀ D' slots' outs' H', HeapT K H' D' slots' outs' → Wf slots' outs' → Kx [p] H H' → PenAt H' p c (n + 100) → Q (.ref D') H'
theorem ok_loose {f : Addr} {fd : FuncData} (F : Fun K "_law_loose" "_law_loose" sQLoose f fd) (T : Txt mg) (l_law_draw : Lo P w K mg base "_law_draw" 1 ["_law_pen_here", "_law_most_one"] spDraw) :
    FnOk P w K mg base CX0 2 f fd ["_law_pen_here", "_law_base_here"] (spLoose K) := by
  refine F.ok scQLoose (fun vs H Q E h => ?_) (fun cdv A outer s H vs Q E hr h => ?_)
  · obtain ⟨p, c, D, n, slots, outs, rfl, _⟩ := h
    rfl
  · obtain ⟨p, c, D, n, slots, outs, rfl, hpen, hn, hT, wf, ⟨m0, hm0⟩, k⟩ := h
    obtain ⟨S, O, vs, hD, hS, hO, hl, hv⟩ := id hT.ex
    refine ⟨_, (pss_cons (ps_par (i := 2) (j := 3) rfl scQLoose.nd rfl rfl (by decide) rfl rfl (pa_cons (pe_callTy call_list_of (by rfl) T.b_list boot'_list (pa_cons (pe_ix ix_tup (pv 1) pe_int (fun _ _ => rfl)) pa_nil)) (pa_cons (pe_callTy call_list_of (by rfl) T.b_list boot'_list (pa_cons (pe_ix ix_tup (pv 1) pe_int (fun _ _ => rfl)) pa_nil)) pa_nil)) (by rfl))
      (pss_cons (ps_setLc (i := 4) (own := [("_law_spot", 8), ("_law_row", 9)]) rfl scQLoose.nd rfl rfl (sw_true rfl rfl rfl (by decide +kernel)) (pi_enum (by rfl) T.b_enumerate (pa_cons (pv 2) pa_nil)) (blkOk_by (N := ["_law_pen_here", "_law_base_here", "_law_rows", "_law_handles", "_law_alive", "_law_turn", "_law_one", "_law_other", "_law_spot", "_law_row"]) (sc := defScope sQLoose) (by decide +kernel)) (fun _ _ _ _ _ => (pg_tupK (K := K) (n := 2) rfl rfl (pgs_cons (pg_name (i := 8) scQLoose.nd rfl (Or.inl rfl)) (pgs_cons (pg_name (i := 9) scQLoose.nd rfl (Or.inl rfl)) pgs_nil)))) (fun _ _ _ _ _ => (pts_one (pt_cmpR op_notN1 (pv 9) pe_non (nomark _)))) (fun _ _ _ _ _ => (pv 8)))
      (pss_cons (ps_for PassesOwn.never rfl (pi_range1 (by rfl) T.b_range (pa_cons (pe_ix ix_list (pe_lst (pa_cons pe_int (pa_cons pe_int (pa_cons pe_int (pa_cons pe_int pa_nil))))) (pe_lo l_law_draw (hr.mono (by decide)) (by rfl) (pa_cons (pv 0) (pa_cons pe_int pa_nil))) (fun _ _ => rfl)) pa_nil)) (pg_name (i := 5) scQLoose.nd rfl (Or.inl rfl))
      (pss_cons (ps_set (i := 6) scQLoose.nd rfl (Or.inl rfl) (pe_ix ix_list (pv 4) (pe_lo l_law_draw (hr.mono (by decide)) (by rfl) (pa_cons (pv 0) (pa_cons (pe_callB call_len_seq (by rfl) T.b_len boot'_len (pa_cons (pv 4) pa_nil)) pa_nil))) (fun _ _ => rfl)))
      (pss_cons (ps_set (i := 7) scQLoose.nd rfl (Or.inl rfl) (pe_ix ix_list (pv 4) (pe_lo l_law_draw (hr.mono (by decide)) (by rfl) (pa_cons (pv 0) (pa_cons (pe_callB call_len_seq (by rfl) T.b_len boot'_len (pa_cons (pv 4) pa_nil)) pa_nil))) (fun _ _ => rfl)))
      (pss_one (ps_if (PW.pt (pw_and (pt_cmpR op_lt (pe_callB call_len_seq (by rfl) T.b_len boot'_len (pa_cons (pe_ix ix_list (pv 2) (pv 6) (fun _ _ => rfl)) pa_nil)) (pe_op op_sub pe_int (pe_callTy call_int1 (by rfl) T.b_int boot'_int (pa_cons (pe_cmpR op_eq (pv 6) (pv 7) (nomark _)) pa_nil))) (nomark _)) (pw_and1 (pt_cmpR op_lt (pe_callB call_len_seq (by rfl) T.b_len boot'_len (pa_cons (pe_ix ix_list (pv 2) (pv 7) (fun _ _ => rfl)) pa_nil)) pe_int (nomark _))))) (pss_cons (ps_asg (pe_op op_catA (pe_ix ix_list (pv 2) (pv 6) (fun _ _ => rfl)) (pe_tup (pa_cons (pv 7) pa_nil))) (pg_sub (pv 2) (pv 6) set_list))
      (pss_cons (ps_asg (pe_op op_catA (pe_tup (pa_cons (pv 6) pa_nil)) (pe_ix ix_list (pv 2) (pv 7) (fun _ _ => rfl))) (pg_sub (pv 2) (pv 7) set_list))
      (pss_one (ps_if (pt_cmpR op_gt (pe_lo l_law_draw (hr.mono (by decide)) (by rfl) (pa_cons (pv 0) (pa_cons pe_int pa_nil))) pe_int (nomark _)) (pss_cons (ps_asg pe_int (pg_sub (pv 3) (pv 6) set_list))
      (pss_one (ps_asg pe_int (pg_sub (pv 3) (pv 7) set_list)))) pss_nil)))) pss_nil)))))
      (pss_one (ps_ret (pe_tup (pa_cons (pe_callTy call_tuple_of (by rfl) T.b_tuple boot'_tuple (pa_cons (pv 2) pa_nil)) (pa_cons (pe_callTy call_tuple_of (by rfl) T.b_tuple boot'_tuple (pa_cons (pv 3) pa_nil)) pa_nil)))))))), ?_⟩
    refine x_start (σ' := [some (.ref p), some (.ref D), none, none, none, none, none, none, none, none]) rfl ?_
    dsimp only [cxOf]
    have h40 := wf.most
    repeat walk_at "rd"
    intro R nR
    have hO1 : SqT K (upd H R (.lst vs)) O (outs.map V.int) := ((Kx.refl [] H).new nR).sqT (by simp) hO
    have hD1 : SqT K (upd H R (.lst vs)) D [.ref S, .ref O] := ((Kx.refl [] H).new nR).sqT (by simp) hD
    repeat walk_at "rd"
    intro G nG
    have nRG : R ≠ G := ne_of_none (show (upd H R (.lst vs)) R = some (.lst vs) from upd_same) nG
    have nG0 : H G = none := ((Kx.refl [] H).new nR).fresh (by simp) nG
    have hrt : RowsT K H vs slots := ⟨hl, hv⟩
    repeat walk_at "rd"
    generalize hG0 : upd (upd H R (.lst vs)) G (.lst (outs.map V.int)) = HG
    have k0 : Kx [] H HG := hG0 ▸ ((Kx.refl [] H).new nR).new nG
    have eR0 : HG R = some (.lst vs) := by rw [← hG0]; exact lk_ne2 nRG upd_same
    have eG0 : HG G = some (.lst (outs.map V.int)) := by rw [← hG0]; exact upd_same
    have rt0 := hrt.keep k0
    have hp0 := hpen.keep k0 (by simp) (by simp) (Nat.le_refl _)
    clear hG0
    refine y_lcE (xs := vs) (SqL.of eR0) (fun Z nZ => ⟨fun i H1 => Kx [] HG H1 ∧ H1 Z = some (.lst ((liveUp slots i).map V.int)), ⟨(Kx.refl _ _).new nZ, upd_same⟩, ?_, ?_, ?_⟩)
    · rintro i H1 hi ⟨k1, _⟩
      exact k1.sqL (by simp) (SqL.of eR0)
    · rintro i x H1 H1' hi ⟨k1, e1⟩ ⟨U, x1, x2, rfl, nU, rfl, f1, f2⟩
      cases f1
      have nUZ : Z ≠ U := ne_of_none e1 nU
      repeat walk_at "rd"
      refine ⟨rfl, ?_⟩
      have hs : i < slots.length := by omega
      repeat walk_at "rd"
      have es := List.getElem?_eq_getElem hs
      have hlen := liveUp_len slots i
      rcases hv i _ es with ⟨e, z⟩ | ⟨r, row, e, z, _⟩
      · cases Option.some.inj (z.symm.trans f2)
        refine iteF ⟨(k1.new nU), ?_⟩
        rw [liveUp_succ, if_neg (by simp [isLive, es, e])]
        exact lk_ne e1 nU
      · cases Option.some.inj (z.symm.trans f2)
        refine iteT ?_
        repeat walk_at "rd"
        refine ⟨_, lk_ne e1 nU, small1000 (by rw [List.length_map]; omega), (k1.new nU).wr (.inl nZ), ?_⟩
        rw [upd_same, liveUp_succ, if_pos (by simp [isLive, es, e]), List.map_append]
        rfl
    rintro H1 ⟨k1, eZ⟩
    rw [hl] at eZ
    have nRZ : R ≠ Z := ne_of_none eR0 nZ
    have nGZ : G ≠ Z := ne_of_none eG0 nZ
    have nZ0 : H Z = none := k0.fresh (by simp) nZ
    have k01 := k0.trans k1
    have eR1 := k1 R _ (by simp) eR0
    have eG1 := k1 G _ (by simp) eG0
    have rt1 := rt0.keep k1
    have hp1 := hp0.keep k1 (by simp) (by simp) (Nat.le_refl _)
    have hpn : ∀ {q : Addr}, H q = none → q ≠ p := fun hq e => by
      obtain ⟨⟨o, ho⟩, _⟩ := hpen.some
      rw [e, ho] at hq
      cases hq
    have hcn : ∀ {q : Addr}, H q = none → q ≠ c := fun hq e => by
      obtain ⟨_, o, ho⟩ := hpen.some
      rw [e, ho] at hq
      cases hq
    have nRp := hpn nR
    have nGp := hpn nG0
    have nZp := hpn nZ0
    have nRc := hcn nR
    have nGc := hcn nG0
    clear hrt rt0 hp0 k0 k1
    repeat walk_at "rd"
    rename_i q4 nq4
    refine x_draw (hp1.keep ((Kx.refl [] H1).new nq4) (by simp) (by simp) (Nat.le_refl _)) (by omega) (by omega) (by omega) fun s3 H2 s3l s3h k2 P2 => ?_
    have k02 := ((k01.new nq4).mono (by simp)).trans k2
    have nq4p : q4 ≠ p := fun e => by
      obtain ⟨⟨o, ho⟩, _⟩ := hp1.some
      rw [← e, nq4] at ho
      cases ho
    have hq2 : H2 q4 = some (.lst [V.int 1, V.int 1, V.int 3, V.int 8]) := k2 q4 _ (by simpa using nq4p) upd_same
    have rt2 := (rt1.keep ((Kx.refl [] H1).new nq4)).kx k2 (pen_lst (hp1.keep ((Kx.refl [] H1).new nq4) (by simp) (by simp) (Nat.le_refl _)))
    have eR2 := k2 R _ (by simpa using nRp) (lk_ne eR1 nq4)
    have eG2 := k2 G _ (by simpa using nGp) (lk_ne eG1 nq4)
    have eZ2 := k2 Z _ (by simpa using nZp) (lk_ne eZ nq4)
    obtain ⟨cnt, hat, hc0, hc1⟩ : ∃ cnt, atI [V.int 1, V.int 1, V.int 3, V.int 8] s3 = some (.int cnt) ∧ 0 ≤ cnt ∧ cnt ≤ 8 := by
      obtain ⟨z, hz, _, hz2⟩ := at_ints (zs := [1, 1, 3, 8]) s3l (by simpa using s3h)
      refine ⟨z, hz2, ?_⟩
      simp only [List.mem_cons, List.not_mem_nil, or_false] at hz
      omega
    clear k2 rt1 hp1 eR1 eG1 eZ k01
    repeat walk_at "rd"
    have hlpos : 0 < (liveUp slots slots.length).length := by
      obtain ⟨_, _, hl0⟩ := live_lt hm0
      exact List.length_pos_of_mem (liveUp_mem.mpr ⟨m0, rfl, hl0, hm0⟩)
    have hlle := liveUp_len slots slots.length
    have hpick : ∀ {d : Int}, 0 ≤ d → d < (liveUp slots slots.length).length → ∃ m : Nat, atI ((liveUp slots slots.length).map V.int) d = some (.int (m : Int)) ∧ isLive slots m = true := by
      intro d h0 h1
      obtain ⟨z, hz, _, hz2⟩ := at_ints h0 h1
      obtain ⟨m, rfl, _, hm⟩ := liveUp_mem.mp hz
      exact ⟨m, hz2, hm⟩
    refine y_forR1 hc0 (by omega) ⟨fun i σ H3 => ∃ (slots' : List (Option Rw)) (outs' : List Int) (vs' : List V) (y5 y6 y7 : Option V), σ = [some (.ref p), some (.ref D), some (.ref R), some (.ref G), some (.ref Z), y5, y6, y7, none, none] ∧
      H3 R = some (.lst vs') ∧ RowsT K H3 vs' slots' ∧ H3 G = some (.lst (outs'.map V.int)) ∧ Wf slots' outs' ∧ (∀ m, isLive slots' m = isLive slots m) ∧ H3 Z = some (.lst ((liveUp slots slots.length).map V.int)) ∧ Kx [p] H H3 ∧ PenAt H3 p c (n + 1 + 3 * i),
      ⟨slots, outs, vs, none, none, none, rfl, eR2, rt2, eG2, wf, fun _ => rfl, eZ2, k02, P2.keep (Kx.refl [] _) (by simp) (by simp) (by omega)⟩, fun _ _ _ _ _ => trivial, ?_, ?_⟩
    · rintro i x σ H3 H3' hi ⟨slots', outs', vs', y5, y6, y7, rfl, eR3, rt3, eG3, wf3, lv3, eZ3, k3, P3⟩ ⟨rfl, rfl⟩
      have hi8 : i < 8 := by omega
      repeat walk_at "rd"
      refine x_draw P3 (by omega) (by rw [List.length_map]; omega) (by rw [List.length_map]; omega) fun d1 H4 d1l d1h k4 P4 => ?_
      rw [List.length_map] at d1h
      obtain ⟨m1, hat1, hm1⟩ := hpick d1l d1h
      have k04 := k3.trans k4
      have rt4 := rt3.kx k4 (pen_lst P3)
      have eR4 := k4 R _ (by simpa using nRp) eR3
      have eG4 := k4 G _ (by simpa using nGp) eG3
      have eZ4 := k4 Z _ (by simpa using nZp) eZ3
      clear k4 rt3 eR3 eG3 eZ3 k3 P3
      repeat walk_at "rd"
      refine x_draw P4 (by omega) (by rw [List.length_map]; omega) (by rw [List.length_map]; omega) fun d2 H5 d2l d2h k5 P5 => ?_
      rw [List.length_map] at d2h
      obtain ⟨m2, hat2, hm2⟩ := hpick d2l d2h
      have k05 := k04.trans k5
      have rt5 := rt4.kx k5 (pen_lst P4)
      have eR5 := k5 R _ (by simpa using nRp) eR4
      have eG5 := k5 G _ (by simpa using nGp) eG4
      have eZ5 := k5 Z _ (by simpa using nZp) eZ4
      clear k5 rt4 eR4 eG4 eZ4 k04 P4
      rw [← lv3] at hm1 hm2
      obtain ⟨row1, e1, hl1⟩ := live_lt hm1
      obtain ⟨row2, e2, hl2⟩ := live_lt hm2
      rcases rt5.at_ m1 _ e1 with ⟨e', _⟩ | ⟨r1, _, e', z1, t1⟩
      · cases e'
      cases Option.some.inj e'
      rcases rt5.at_ m2 _ e2 with ⟨e', _⟩ | ⟨r2, _, e', z2, t2⟩
      · cases e'
      cases Option.some.inj e'
      have a1 : atI vs' (m1 : Int) = some (.ref r1) := atI_nat z1
      have a2 : atI vs' (m2 : Int) = some (.ref r2) := atI_nat z2
      have g1 := wf3.row row1 (List.mem_of_getElem? e1)
      have g2 := wf3.row row2 (List.mem_of_getElem? e2)
      repeat walk_at "rd"
      have hsame : ∃ (slots' : List (Option Rw)) (outs' : List Int) (vs' : List V) (y5 y6 y7 : Option V), [some (V.ref p), some (V.ref D), some (V.ref R), some (V.ref G), some (V.ref Z), some (V.int (0 + (i : Int))), some (V.int (m1 : Int)), some (V.int (m2 : Int)), none, none] = [some (.ref p), some (.ref D), some (.ref R), some (.ref G), some (.ref Z), y5, y6, y7, none, none] ∧
          H5 R = some (.lst vs') ∧ RowsT K H5 vs' slots' ∧ H5 G = some (.lst (outs'.map V.int)) ∧ Wf slots' outs' ∧ (∀ m, isLive slots' m = isLive slots m) ∧ H5 Z = some (.lst ((liveUp slots slots.length).map V.int)) ∧ Kx [p] H H5 ∧ PenAt H5 p c (n + 1 + 3 * (i + 1)) :=
        ⟨slots', outs', vs', _, _, _, rfl, eR5, rt5, eG5, wf3, lv3, eZ5, k05, P5.keep (Kx.refl [] _) (by simp) (by simp) (by omega)⟩
      by_cases hc1 : ((rowV row1).length : Int) < 40 - if decide (V.int (m1 : Int) = V.int (m2 : Int)) = true then 1 else 0
      · refine iteP (decide_eq_true hc1) ?_
        repeat walk_at "rd"
        by_cases hc2 : ((rowV row2).length : Int) < 40
        · refine iteP (decide_eq_true hc2) ?_
          clear hsame
          repeat walk_at "rd"
          rename_i t nt
          rw [rowV_len] at hc1 hc2
          have b1 : row1.length < 40 := by split at hc1 <;> omega
          have kt := (Kx.refl [] H5).new (o := .tup [V.int (m2 : Int)]) nt
          refine x_cat (kt.sqT (by simp) t1) (SqT.of upd_same) (Nat.le_of_lt (small1000 (by rw [rowV_len]; show row1.length + 1 ≤ 1000; omega))) fun q H6 hq k6 => ?_
          replace k6 := kt.trans k6
          have hq6 : SqT K H6 q (rowV (row1 ++ [some m2])) := by rw [rowV_app]; exact hq
          have rt6 := (rt5.keep k6).set hq6 hl1
          have eR6 := k6 R _ (by simp) eR5
          have eG6 := k6 G _ (by simp) eG5
          have eZ6 := k6 Z _ (by simp) eZ5
          have P6 := P5.keep k6 (by simp) (by simp) (Nat.le_refl _)
          have k06 := k05.trans (k6.mono (by simp))
          have hix1 : ixN vs'.length (m1 : Int) = some m1 := ix_nat (by rw [rt5.len]; exact hl1)
          have wf6 := wf3.put e1 (row' := row1 ++ [some m2]) (by rw [List.length_append]; show row1.length + 1 ≤ 40; omega) (fun k hk => by
            rcases List.mem_append.mp hk with h | h
            · exact .inl h
            · cases Option.some.inj (List.mem_singleton.mp h)
              exact .inr ⟨row2, e2⟩)
          have lv6 : ∀ m, isLive (slots'.set m1 (some (row1 ++ [some m2]))) m = isLive slots m := fun m => (live_set e1 m).trans (lv3 m)
          obtain ⟨row3, e3, hl3⟩ := live_lt (m := m2) (by rw [lv6, ← lv3]; exact hm2)
          have b3 : row3.length < 40 := by
            by_cases e : m1 = m2
            · subst e
              rw [List.getElem?_set_self hl1] at e3
              cases Option.some.inj (Option.some.inj e3)
              rw [if_pos (by simp)] at hc1
              rw [List.length_append]
              show row1.length + 1 < 40
              omega
            · rw [List.getElem?_set_ne e, e2] at e3
              cases Option.some.inj (Option.some.inj e3)
              omega
          have hl13 : m1 < (slots'.set m1 (some (row1 ++ [some m2]))).length := by rw [List.length_set]; exact hl1
          have hl23 : m2 < (slots'.set m1 (some (row1 ++ [some m2]))).length := by rw [List.length_set]; exact hl2
          have e13 : ∃ r, (slots'.set m1 (some (row1 ++ [some m2])))[m1]? = some (some r) := ⟨_, List.getElem?_set_self hl1⟩
          clear hq kt t1 t2 rt5 eR5 eG5 eZ5 P5 k05 k6 a1 a2 hc1 hc2
          repeat walk_at "rd"
          rename_i t' nt'
          have rt7 := rt6.wr (o := .lst (vs'.set m1 (.ref q))) eR6
          have eR7 : upd H6 R (.lst (vs'.set m1 (.ref q))) R = _ := upd_same
          have eG7 := lk_ne2 (o := .lst (vs'.set m1 (.ref q))) nRG.symm eG6
          have eZ7 := lk_ne2 (o := .lst (vs'.set m1 (.ref q))) nRZ.symm eZ6
          have P7 := P6.up (upd_ne (o := .lst (vs'.set m1 (.ref q))) nRp.symm) (upd_ne nRc.symm) (Nat.le_refl _)
          have k07 := k06.wr (p := R) (o := .lst (vs'.set m1 (.ref q))) (.inl nR)
          generalize upd H6 R (.lst (vs'.set m1 (.ref q))) = H7 at *
          clear rt6 eR6 eG6 eZ6 P6 k06 hq6
          generalize hS1 : slots'.set m1 (some (row1 ++ [some m2])) = S1 at *
          generalize hvs1 : vs'.set m1 (.ref q) = vs1 at *
          rcases rt7.at_ m2 _ e3 with ⟨e', _⟩ | ⟨r3, _, e', z3, t3⟩
          · cases e'
          cases Option.some.inj e'
          have a3 : atI vs1 (m2 : Int) = some (.ref r3) := atI_nat z3
          have hix2 : ixN vs1.length (m2 : Int) = some m2 := ix_nat (by rw [rt7.len]; exact hl23)
          repeat walk_at "rd"
          have kt := (Kx.refl [] H7).new (o := .tup [V.int (m1 : Int)]) nt'
          refine x_cat (SqT.of upd_same) (kt.sqT (by simp) t3) (Nat.le_of_lt (small1000 (by rw [rowV_len]; show 1 + row3.length ≤ 1000; omega))) fun q2 H8 hq k8 => ?_
          replace k8 := kt.trans k8
          have hq8 : SqT K H8 q2 (rowV (some m1 :: row3)) := hq
          have rt8 := (rt7.keep k8).set hq8 hl23
          have eR8 := k8 R _ (by simp) eR7
          have eG8 := k8 G _ (by simp) eG7
          have eZ8 := k8 Z _ (by simp) eZ7
          have P8 := P7.keep k8 (by simp) (by simp) (Nat.le_refl _)
          have k08 := k07.trans (k8.mono (by simp))
          have wf8 := wf6.put e3 (row' := some m1 :: row3) (by show row3.length + 1 ≤ 40; omega) (fun k hk => by
            rcases List.mem_cons.mp hk with h | h
            · cases Option.some.inj h
              exact .inr e13
            · exact .inl h)
          have lv8 : ∀ m, isLive (S1.set m2 (some (some m1 :: row3))) m = isLive slots m := fun m => (live_set e3 m).trans (lv6 m)
          have hlo1 : m1 < outs'.length := by rw [wf3.len]; exact hl1
          have hlo2 : m2 < outs'.length := by rw [wf3.len]; exact hl2
          clear hq kt t3 rt7 eR7 eG7 eZ7 P7 k07 k8 a3 hq8
          repeat walk_at "rd"
          have rt9 := rt8.wr (o := .lst (vs1.set m2 (.ref q2))) eR8
          have eR9 : upd H8 R (.lst (vs1.set m2 (.ref q2))) R = _ := upd_same
          have eG9 := lk_ne2 (o := .lst (vs1.set m2 (.ref q2))) nRG.symm eG8
          have eZ9 := lk_ne2 (o := .lst (vs1.set m2 (.ref q2))) nRZ.symm eZ8
          have P9 := P8.up (upd_ne (o := .lst (vs1.set m2 (.ref q2))) nRp.symm) (upd_ne nRc.symm) (Nat.le_refl _)
          have k09 := k08.wr (p := R) (o := .lst (vs1.set m2 (.ref q2))) (.inl nR)
          generalize upd H8 R (.lst (vs1.set m2 (.ref q2))) = H9 at *
          clear rt8 eR8 eG8 eZ8 P8 k08
          generalize hS2 : S1.set m2 (some (some m1 :: row3)) = S2 at *
          generalize hvs2 : vs1.set m2 (.ref q2) = vs2 at *
          refine x_draw P9 (by omega) (by omega) (by omega) fun d3 HA d3l d3h kA PA => ?_
          have k0A := k09.trans kA
          have rtA := rt9.kx kA (pen_lst P9)
          have eRA := kA R _ (by simpa using nRp) eR9
          have eGA := kA G _ (by simpa using nGp) eG9
          have eZA := kA Z _ (by simpa using nZp) eZ9
          clear kA rt9 eR9 eG9 eZ9 k09 P9
          have hj1 : ixN (outs'.map V.int).length (m1 : Int) = some m1 := ix_nat (by rw [List.length_map]; exact hlo1)
          have hj2 : ixN ((outs'.map V.int).set m1 (.int 0)).length (m2 : Int) = some m2 := ix_nat (by rw [List.length_set, List.length_map]; exact hlo2)
          repeat walk_at "rd"
          by_cases hd : 0 < d3
          · refine iteP (decide_eq_true hd) ?_
            repeat walk_at "rd"
            refine ⟨S2, (outs'.set m1 0).set m2 0, vs2, _, _, _, rfl, lk_ne2 nRG (lk_ne2 nRG eRA), (rtA.wr eGA).wr upd_same, by rw [upd_same, List.map_set, List.map_set], (wf8.zero m1).zero m2, lv8, lk_ne2 nGZ.symm (lk_ne2 nGZ.symm eZA), (k0A.wr (.inl nG0)).wr (.inl nG0), ?_⟩
            exact (PA.up (upd_ne nGp.symm) (upd_ne nGc.symm) (Nat.le_refl _)).up (upd_ne nGp.symm) (upd_ne nGc.symm) (by omega)
          · refine iteN (decide_eq_false hd) ?_
            repeat walk_at "rd"
            exact ⟨S2, outs', vs2, _, _, _, rfl, eRA, rtA, eGA, wf8, lv8, eZA, k0A, PA.keep (Kx.refl [] _) (by simp) (by simp) (by omega)⟩
        · refine iteN (decide_eq_false hc2) ?_
          repeat walk_at "rd"
          exact hsame
      · refine iteN (decide_eq_false hc1) ?_
        refine iteF ?_
        repeat walk_at "rd"
        exact hsame
    · rintro σ H3 ⟨slots', outs', vs', y5, y6, y7, rfl, eR3, rt3, eG3, wf3, lv3, eZ3, k3, P3⟩
      repeat walk_at "rd"
      intro S' nS
      repeat walk_at "rd"
      intro O' nO
      repeat walk_at "rd"
      rename_i D' nD
      have kf : Kx [] H3 (upd (upd (upd H3 S' (.tup vs')) O' (.tup (outs'.map V.int))) D' (.tup [.ref S', .ref O'])) := (((Kx.refl [] H3).new nS).new nO).new nD
      have rtf := rt3.keep kf
      exact k D' slots' outs' _ ⟨S', O', vs', SqT.of upd_same, SqT.of (by walk_at "lk"), SqT.of (by walk_at "lk"), rtf.len, rtf.at_⟩ wf3 (k3.trans (kf.mono (by simp))) (P3.keep kf (by simp) (by simp) (by omega))
def spReached (K : PySem.W.Frag) : Sp := fun vs H Q _ => ∃ (D : Addr) (slots : List (Option Rw)) (outs : List Int), vs = [.ref D] ∧ HeapT K H D slots outs ∧ Wf slots outs ∧
  ∀ p H' ns, H p = none → Kx [] H H' → H' p = some (.lst (ns.map V.int)) → IsR slots outs ns → Q (.ref p) H'
theorem ok_reached {f : Addr} {fd : FuncData} (F : Fun K "_law_reached" "_law_reached" sQReached f fd) (T : Txt mg) : FnOk P w K mg base CX0 1 f fd ["_law_base_here"] (spReached K) := by
  refine F.ok scQReached (fun vs H Q E h => ?_) (fun cdv A outer s H vs Q E hr h => ?_)
  · obtain ⟨D, slots, outs, rfl, _⟩ := h
    rfl
  · obtain ⟨D, slots, outs, rfl, hT, wf, k⟩ := h
    obtain ⟨S, O, vs, hD, hS, hO, hl, hv⟩ := id hT.ex
    refine ⟨_, (pss_cons (ps_asg (pv 0) (pg_tup rfl (pgs_cons (pg_name (i := 1) scQReached.nd rfl (Or.inl rfl)) (pgs_cons (pg_name (i := 2) scQReached.nd rfl (Or.inl rfl)) pgs_nil))))
      (pss_cons (ps_setLc (i := 3) (own := [("_law_spot", 6), ("_law_number", 7)]) rfl scQReached.nd rfl rfl (sw_true rfl rfl rfl (by decide +kernel)) (pi_enumT (by rfl) T.b_enumerate (pa_cons (pv 2) pa_nil)) (blkOk_by (N := ["_law_base_here", "_law_rows", "_law_handles", "_law_found", "_law_at", "_law_entry", "_law_spot", "_law_number"]) (sc := defScope sQReached) (by decide +kernel)) (fun _ _ _ _ _ => (pg_tupK (K := K) (n := 2) rfl rfl (pgs_cons (pg_name (i := 6) scQReached.nd rfl (Or.inl rfl)) (pgs_cons (pg_name (i := 7) scQReached.nd rfl (Or.inl rfl)) pgs_nil)))) (fun _ _ _ _ _ => (pts_one (pt_cmpR op_gt (pv 7) pe_int (nomark _)))) (fun _ _ _ _ _ => (pv 6)))
      (pss_cons (ps_set (i := 4) scQReached.nd rfl (Or.inl rfl) pe_int)
      (pss_cons (ps_while PassesOwn.never (pt_cmpR op_lt (pv 4) (pe_callB call_len_seq (by rfl) T.b_len boot'_len (pa_cons (pv 3) pa_nil)) (nomark _))
      (pss_cons (ps_for PassesOwn.never rfl (pi_tup (pe_ix ix_tup (pv 1) (pe_ix ix_list (pv 3) (pv 4) (fun _ _ => rfl)) (fun _ _ => rfl))) (pg_name (i := 5) scQReached.nd rfl (Or.inl rfl))
      (pss_one (ps_if (PW.pt (pw_and (pt_cmpR op_notN1 (pv 5) pe_non (nomark _)) (pw_and1 (pt_cmpR op_notIn_seq (pv 5) (pv 3) (by with_unfolding_all rfl))))) (pss_one (ps_expr (pe_bm PySem.F.plainAttrs_list PySem.F.slot_list_append PySem.F.type_list_append mt_append (pv 3) (pa_cons (pv 5) pa_nil)))) pss_nil)))
      (pss_one (ps_set (i := 4) scQReached.nd rfl (Or.inl rfl) (pe_op op_add (pv 4) pe_int)))))
      (pss_one (ps_ret (pe_callB cr_sortedI (by rfl) T.b_sorted boot'_sorted (pa_cons (pv 3) pa_nil)))))))), ?_⟩
    refine x_start (σ' := [some (.ref D), none, none, none, none, none, none, none]) rfl ?_
    dsimp only [cxOf]
    have h40 := wf.most
    repeat walk_at "rd"
    refine y_lcET (xs := outs.map V.int) hO (fun Z nZ => ⟨fun i H1 => Kx [] H H1 ∧ H1 Z = some (.lst ((posUp outs i).map V.int)), ⟨(Kx.refl _ _).new nZ, upd_same⟩, ?_, ?_, ?_⟩)
    · rintro i H1 hi ⟨k1, _⟩
      exact k1.sqT (by simp) hO
    · rintro i x H1 H1' hi ⟨k1, e1⟩ ⟨U, x1, x2, rfl, nU, rfl, f1, f2⟩
      cases f1
      rw [List.length_map] at hi
      replace f2 : (outs.map V.int)[i]? = some x2 := f2
      rw [List.getElem?_map, List.getElem?_eq_getElem hi] at f2
      cases Option.some.inj f2
      have nUZ : Z ≠ U := ne_of_none e1 nU
      have hlo := wf.len
      repeat walk_at "rd"
      refine ⟨rfl, ?_⟩
      have hlen := posUp_len outs i
      repeat walk_at "rd"
      by_cases h0 : 0 < outs[i]
      · refine iteP (decide_eq_true h0) ?_
        repeat walk_at "rd"
        refine ⟨_, lk_ne e1 nU, small1000 (by rw [List.length_map]; omega), (k1.new nU).wr (.inl nZ), ?_⟩
        rw [upd_same, posUp_succ, if_pos (by rw [List.getElem?_eq_getElem hi]; exact h0), List.map_append]
        rfl
      · refine iteN (decide_eq_false h0) ⟨k1.new nU, ?_⟩
        rw [posUp_succ, if_neg (by rw [List.getElem?_eq_getElem hi]; exact h0)]
        exact lk_ne e1 nU
    rintro H1 ⟨k1, e1⟩
    rw [List.length_map] at e1
    have nZ0 : H Z = none := by assumption
    repeat walk_at "rd"
    refine ⟨fun m σ H3 => ∃ (ks : List Int) (at' : Nat) (y5 : Option V), σ = [some (.ref D), some (.ref S), some (.ref O), some (.ref Z), some (.int (at' : Int)), y5, none, none] ∧ Kx [] H H3 ∧ H3 Z = some (.lst (ks.map V.int)) ∧
      WIr slots outs ks (ks.drop at') none ∧ at' ≤ ks.length ∧ m = slots.length - at', ⟨_, _, 0, none, rfl, k1, e1, WIr.start2 wf, Nat.zero_le _, rfl⟩, ?_⟩
    rintro m σ H3 ⟨ks, at', y5, rfl, k3, e3, wi, hat, rfl⟩
    have hk40 := wi.len wf
    repeat walk_at "rd"
    rw [List.length_map]
    by_cases hlt : at' < ks.length
    · refine iteP (decide_eq_true (by omega)) (x_turn ?_)
      obtain ⟨n, en, hR0⟩ := wi.re ks[at'] (List.getElem_mem hlt)
      obtain ⟨row, er, hnl⟩ := live_lt (hR0.live wf)
      have at1 : atI (ks.map V.int) (at' : Int) = some (.int (n : Int)) := atI_nat (by rw [List.getElem?_map, List.getElem?_eq_getElem hlt, en]; rfl)
      rcases hv n _ er with ⟨e', _⟩ | ⟨r, row', e', zr, hR⟩
      · cases e'
      cases Option.some.inj e'
      have at2 : atI vs (n : Int) = some (V.ref r) := atI_nat zr
      have hS3 := k3.sqT (by simp) hS
      have hr3 := k3.sqT (by simp) hR
      have hdr : ks.drop at' = (n : Int) :: ks.drop (at' + 1) := by rw [← en]; exact List.drop_eq_getElem_cons hlt
      have wi0 := wi.pop (a := n) (ps' := ks.drop (at' + 1)) (fun z hz => by rw [hdr]; exact List.mem_cons_of_mem _ hz) (fun z hz => by
        rw [hdr] at hz
        rcases List.mem_cons.mp hz with h | h
        · exact .inr h
        · exact .inl h)
      repeat walk_at "rd"
      refine y_forT (xs := rowV row) hr3 ⟨fun i σ H5 => ∃ (ks' : List Int) (y5 : Option V), σ = [some (.ref D), some (.ref S), some (.ref O), some (.ref Z), some (.int (at' : Int)), y5, none, none] ∧ Kx [] H H5 ∧
        H5 Z = some (.lst (ks'.map V.int)) ∧ WIr slots outs ks' (ks'.drop (at' + 1)) (some n) ∧ at' < ks'.length ∧ (∀ m : Nat, some m ∈ row.take i → (m : Int) ∈ ks'),
        ⟨ks, y5, rfl, k3, e3, wi0, hlt, by simp⟩, ?_, ?_, ?_⟩
      · rintro i σ H5 hi ⟨_, _, rfl, k5, _⟩
        exact k5.sqT (by simp) hR
      · rintro i x σ H5 H5' hi ⟨ks', y5, rfl, k5, e5, wi5, hlt5, hin⟩ ⟨rfl, hx⟩
        have hi2 : i < row.length := by simpa [rowV] using hi
        have hrow : row[i]? = some row[i] := List.getElem?_eq_getElem hi2
        have hx2 : slotV row[i] = x := by
          unfold rowV at hx
          rw [List.getElem?_map, hrow] at hx
          exact Option.some.inj hx
        have htake : row.take (i + 1) = row.take i ++ [row[i]] := by rw [List.take_add_one, hrow]; rfl
        have hlen5 := wi5.len wf
        cases hc : row[i] with
        | none =>
          rw [hc] at hx2
          obtain rfl : V.non = x := hx2
          repeat walk_at "rd"
          refine iteF ?_
          repeat walk_at "rd"
          refine ⟨ks', _, rfl, k5, e5, wi5, hlt5, fun m hm => ?_⟩
          rw [htake, hc] at hm
          exact hin m (by simpa using hm)
        | some m =>
          rw [hc] at hx2
          obtain rfl : V.int (m : Int) = x := hx2
          have hRm : Reach slots outs m := .step hR0 (by rw [rowOf_some er, ← hc]; exact List.getElem_mem hi2)
          repeat walk_at "rd"
          refine iteT ?_
          repeat walk_at "rd"
          rw [in_int]
          by_cases hm0 : (m : Int) ∈ ks'
          · rw [decide_eq_true hm0]
            refine iteF ?_
            repeat walk_at "rd"
            refine ⟨ks', _, rfl, k5, e5, wi5, hlt5, fun b hb => ?_⟩
            rw [htake, hc] at hb
            rcases List.mem_append.mp hb with hb | hb
            · exact hin b hb
            · cases Option.some.inj (List.mem_singleton.mp hb)
              exact hm0
          · rw [decide_eq_false hm0]
            refine iteT ?_
            have hadd := wi5.add hRm hm0
            have hz1 : (ks'.map V.int).length < sizeLine := small1000 (by rw [List.length_map]; omega)
            repeat walk_at "rd"
            refine ⟨ty_list (SqL.of e5), ?_⟩
            repeat walk_at "rd"
            refine ⟨ks' ++ [(m : Int)], _, rfl, k5.wr (.inl nZ0), by rw [upd_same, List.map_append]; rfl, by rw [List.drop_append_of_le_length (by omega)]; exact hadd, by rw [List.length_append]; omega, fun b hb => ?_⟩
            rw [htake, hc] at hb
            rcases List.mem_append.mp hb with hb | hb
            · exact List.mem_append_left _ (hin b hb)
            · cases Option.some.inj (List.mem_singleton.mp hb)
              exact List.mem_append_right _ List.mem_cons_self
      · rintro σ H5 ⟨ks', y5, rfl, k5, e5, wi5, hlt5, hin⟩
        rw [rowV_len, List.take_length] at hin
        have hlen5 := wi5.len wf
        repeat walk_at "rd"
        exact ⟨slots.length - (at' + 1), by omega, ks', at' + 1, _, rfl, k5, e5, wi5.done fun b hb => hin b (by rw [← rowOf_some er]; exact hb), hlt5, rfl⟩
    · refine iteN (decide_eq_false (by omega)) ?_
      have hd : ks.drop at' = [] := List.drop_eq_nil_of_le (by omega)
      rw [hd] at wi
      repeat walk_at "rd"
      refine x_sortedL (SqL.of e3) fun ns q pm up nq => ?_
      exact k q _ ns (k3.fresh (by simp) nq) (k3.new nq) upd_same (IsR.of wi pm up)
end


section
variable {P : Program} {w : World} {K : PySem.W.Frag} {mg : Str → Option Value} {base : Heap}

def spPF (K : PySem.W.Frag) : Sp := fun vs H Q _ => ∃ (D t : Addr) (n : Nat) (slots : List (Option Rw)) (outs : List Int) (ps : List Nat), vs = [.ref D, .int n, .ref t] ∧ HeapT K H D slots outs ∧ Wf slots outs ∧ SqT K H t (ps.map fun m : Nat => V.int m) ∧ PathTo slots outs n ps ∧ (∀ m ∈ ps, isLive slots m = true) ∧ ∀ H', Kx [] H H' → Q .non H'
theorem path_last {slots : List (Option Rw)} {outs : List Int} {n : Nat} {ps : List Nat} (hp : PathTo slots outs n ps) : (ps.map fun m : Nat => V.int m) = ((ps.dropLast.map fun m : Nat => V.int m) ++ [.int (n : Nat)]) := by
  have hne := hp.ne
  have hl9 : ps.getLast hne = n := by
    have := hp.last
    rw [List.getLast_eq_getElem]
    rw [List.getElem?_eq_getElem (by have := List.length_pos_iff.mpr hne; omega)] at this
    exact Option.some.inj this
  conv => lhs; rw [← List.dropLast_concat_getLast hne, hl9]
  rw [List.map_append]
  rfl
theorem ok_pf {f : Addr} {fd : FuncData} (F : Fun K "_law_path_fault" "_law_path_fault" sQPathFault f fd) (T : Txt mg) (l_law_is_node : Lo P w K mg base "_law_is_node" 1 ["_law_base_here", "_law_thing"] (spIsNode K)) : FnOk P w K mg base CX0 2 f fd ["_law_base_here", "_law_spot", "_law_path"] (spPF K) := by
  refine F.ok scQPathFault (fun vs H Q E h => ?_) (fun cdv A outer s H vs Q E hr h => ?_)
  · obtain ⟨D, t, n, slots, outs, ps, rfl, _⟩ := h
    rfl
  · obtain ⟨D, t, n, slots, outs, ps, rfl, hT, wf, ht, hp, hlv, k⟩ := h
    refine ⟨_, (pss_cons (ps_for PassesOwn.never rfl (pi_enumT (by rfl) T.b_enumerate (pa_cons (pv 2) pa_nil)) (pg_tup rfl (pgs_cons (pg_name (i := 3) scQPathFault.nd rfl (Or.inl rfl)) (pgs_cons (pg_name (i := 4) scQPathFault.nd rfl (Or.inl rfl)) pgs_nil)))
      (pss_cons (ps_if (pt_not (pt_val (pe_lo l_law_is_node (hr.mono (by decide)) (by rfl) (pa_cons (pv 0) (pa_cons (pv 4) pa_nil))))) (pss_one (ps_ret (pe_tup (pa_cons pe_str (pa_cons (pv 3) pa_nil))))) pss_nil)
      (pss_cons (ps_if ((pw_and (pt_cmpR op_eq (pv 3) pe_int (nomark _)) (pw_and1 (pt_cmpR op_eq (pe_ix ix_tup (pe_ix ix_tup (pv 0) pe_int (fun _ _ => rfl)) (pv 4) (fun _ _ => rfl)) pe_int (nomark _))))).pt (pss_one (ps_ret (pe_tup (pa_cons pe_str (pa_cons pe_int pa_nil))))) pss_nil)
      (pss_one (ps_if ((pw_and (pt_cmpR op_gt (pv 3) pe_int (nomark _)) (pw_and1 (pt_cmpR op_notIn_seq (pv 4) (pe_ix ix_tup (pe_ix ix_tup (pv 0) pe_int (fun _ _ => rfl)) (pe_ix ix_tup (pv 2) (pe_op op_sub (pv 3) pe_int) (fun _ _ => rfl)) (fun _ _ => rfl)) (by with_unfolding_all rfl))))).pt (pss_one (ps_ret (pe_tup (pa_cons pe_str (pa_cons (pv 3) pa_nil))))) pss_nil)))))
      (pss_one (ps_ret (pe_ifExp (pt_cmpR op_eq (pe_ix ix_tup (pv 2) (pe_un un_neg pe_int) (fun _ _ => rfl)) (pv 1) (nomark _)) pe_non (pe_tup (pa_cons pe_str (pa_cons (pe_un un_neg pe_int) pa_nil))))))), ?_⟩
    refine x_start (σ' := [some (.ref D), some (.int n), some (.ref t), none, none]) rfl ?_
    try dsimp only [cxOf]
    obtain ⟨S, O, vs, hD, hS, hO, hvl, hv⟩ := id hT.ex
    have hlen : (ps.map fun m : Nat => V.int m).length = ps.length := List.length_map _
    repeat walk_at "rd"
    refine y_forET ht ⟨fun i σ H1 => ∃ (y5 y6 : Option V), σ = [some (.ref D), some (.int n), some (.ref t), y5, y6] ∧ Kx [] H H1, ⟨_, _, rfl, Kx.refl [] H⟩, ?_, ?_, ?_⟩
    · rintro i σ H1 hi ⟨y5, y6, rfl, k1⟩
      exact k1.sqT (by simp) ht
    · rintro i x σ H1 H1' hi ⟨y5, y6, rfl, k1⟩ ⟨U, x1, x2, rfl, nU, rfl, f1, f2⟩
      cases f1
      replace f2 : (ps.map fun m : Nat => V.int m)[i]? = some x2 := f2
      rw [hlen] at hi
      rw [List.getElem?_map, List.getElem?_eq_getElem hi] at f2
      cases Option.some.inj f2
      have k2 := k1.new (o := .tup [.int (i : Nat), .int (ps[i] : Nat)]) nU
      have hl := hlv _ (List.getElem_mem hi)
      have eU2 := upd_same (H := H1) (a := U) (o := .tup [.int (i : Nat), .int (ps[i] : Nat)])
      have hps := List.getElem?_eq_getElem hi
      have hT2 := hT.keep k2
      have hD2 := k2.sqT (by simp) hD
      have ht2 := k2.sqT (by simp) ht
      have hS2 := k2.sqT (by simp) hS
      have hO2 := k2.sqT (by simp) hO
      generalize ps[i] = m at *
      generalize upd H1 U (.tup [.int (i : Nat), .int (m : Nat)]) = H2 at *
      repeat walk_at "rd"
      refine ⟨D, _, _, slots, outs, rfl, hT2, .int _, ?_⟩
      have hld : liveD slots (.int (m : Int)) = true := by rw [liveD_int, Int.toNat_natCast]; unfold isLive at hl; rw [hl]; simp
      rw [hld]
      repeat walk_at "rd"
      refine iteN (by decide) ?_
      repeat walk_at "rd"
      by_cases h0 : i = 0
      · subst h0
        obtain ⟨_, z, ez, hz⟩ := hp.src m hps
        have hatO : atI (outs.map V.int) (m : Int) = some (.int z) := atI_nat (by rw [List.getElem?_map, ez]; rfl)
        refine iteP (by simp) ?_
        repeat walk_at "rd"
        refine iteN (decide_eq_false fun e => by have := V.int.inj e; omega) ?_
        repeat walk_at "rd"
        refine iteN (by decide) ?_
        repeat walk_at "rd"
        exact ⟨_, _, rfl, k2⟩
      · refine iteN (decide_eq_false fun e => by have := V.int.inj e; omega) ?_
        have hb : i - 1 < ps.length := by omega
        have hpb := List.getElem?_eq_getElem hb
        have hstep := hp.step (i - 1) ps[i - 1] m hpb (by rw [show i - 1 + 1 = i by omega]; exact hps)
        have hlb := hlv _ (List.getElem_mem hb)
        have hatT : atI (ps.map fun m : Nat => V.int m) ((i : Int) - 1) = some (.int (ps[i - 1] : Nat)) := by
          rw [show ((i : Nat) : Int) - 1 = ((i - 1 : Nat) : Int) by omega]
          exact atI_nat (by rw [List.getElem?_map, hpb]; rfl)
        generalize ps[i - 1] = b at *
        obtain ⟨row, er, _⟩ := live_lt hlb
        rcases hv b _ er with ⟨e', _⟩ | ⟨r, row', e', zr, hR⟩
        · cases e'
        cases Option.some.inj e'
        have hatS : atI vs (b : Int) = some (V.ref r) := atI_nat zr
        have hR2 := k2.sqT (by simp) hR
        repeat walk_at "rd"
        refine iteP (decide_eq_true (by omega)) ?_
        repeat walk_at "rd"
        rw [rowOf_some er] at hstep
        refine ⟨r, _, rfl, .inr hR2, rfl, flat_row row, ?_⟩
        rw [in_row hstep]
        refine ⟨false, rfl, ?_⟩
        refine iteN rfl ?_
        repeat walk_at "rd"
        exact ⟨_, _, rfl, k2⟩
    · rintro σ H1 ⟨y5, y6, rfl, k1⟩
      have ht1 := k1.sqT (by simp) ht
      rw [path_last hp] at ht1
      have hatL : atI ((ps.dropLast.map fun m : Nat => V.int m) ++ [V.int (n : Nat)]) (-1) = some (.int (n : Nat)) := atI_last _ _
      repeat walk_at "rd"
      try refine iteP (by simp) ?_
      repeat walk_at "rd"
      exact k _ k1
def spCF (K : PySem.W.Frag) : Sp := fun vs H Q _ => ∃ (D t : Addr) (n : Nat) (slots : List (Option Rw)) (outs : List Int) (ns : List Nat), vs = [.ref D, .int n, .ref t] ∧ HeapT K H D slots outs ∧ Wf slots outs ∧ SqT K H t (ns.map fun m : Nat => V.int m) ∧ Unr slots outs ns ∧ n ∈ ns ∧ ∀ H', Kx [] H H' → Q .non H'
theorem ok_cf {f : Addr} {fd : FuncData} (F : Fun K "_law_closed_fault" "_law_closed_fault" sQClosedFault f fd) (T : Txt mg) (l_law_is_node : Lo P w K mg base "_law_is_node" 1 ["_law_base_here", "_law_thing"] (spIsNode K)) : FnOk P w K mg base CX0 2 f fd ["_law_base_here", "_law_spot", "_law_some"] (spCF K) := by
  refine F.ok scQClosedFault (fun vs H Q E h => ?_) (fun cdv A outer s H vs Q E hr h => ?_)
  · obtain ⟨D, t, n, slots, outs, ns, rfl, _⟩ := h
    rfl
  · obtain ⟨D, t, n, slots, outs, ps, rfl, hT, wf, ht, hun, hn, k⟩ := h
    refine ⟨_, (pss_cons (ps_for PassesOwn.never rfl (pi_enumT (by rfl) T.b_enumerate (pa_cons (pv 2) pa_nil)) (pg_tup rfl (pgs_cons (pg_name (i := 3) scQClosedFault.nd rfl (Or.inl rfl)) (pgs_cons (pg_name (i := 4) scQClosedFault.nd rfl (Or.inl rfl)) pgs_nil)))
      (pss_one (ps_if ((pw_or (pt_not (pt_val (pe_lo l_law_is_node (hr.mono (by decide)) (by rfl) (pa_cons (pv 0) (pa_cons (pv 4) pa_nil))))) (pw_or1 ((pw_and (pt_cmpR op_gt (pv 3) pe_int (nomark _)) (pw_and1 (pt_cmpR op_le (pv 4) (pe_ix ix_tup (pv 2) (pe_op op_sub (pv 3) pe_int) (fun _ _ => rfl)) (nomark _))))).pt))).pt (pss_one (ps_ret (pe_tup (pa_cons pe_str (pa_cons (pv 3) pa_nil))))) pss_nil)))
      (pss_cons (ps_if (pt_cmpR op_notIn_seq (pv 1) (pv 2) (by with_unfolding_all rfl)) (pss_one (ps_ret (pe_tup (pa_cons pe_str (pa_cons (pe_un un_neg pe_int) pa_nil))))) pss_nil)
      (pss_cons (ps_for PassesOwn.never rfl (pi_enumT (by rfl) T.b_enumerate (pa_cons (pv 2) pa_nil)) (pg_tup rfl (pgs_cons (pg_name (i := 3) scQClosedFault.nd rfl (Or.inl rfl)) (pgs_cons (pg_name (i := 4) scQClosedFault.nd rfl (Or.inl rfl)) pgs_nil)))
      (pss_cons (ps_if (pt_cmpR op_gt (pe_ix ix_tup (pe_ix ix_tup (pv 0) pe_int (fun _ _ => rfl)) (pv 4) (fun _ _ => rfl)) pe_int (nomark _)) (pss_one (ps_ret (pe_tup (pa_cons pe_str (pa_cons (pv 3) pa_nil))))) pss_nil)
      (pss_one (ps_for PassesOwn.never rfl (pi_enumT (by rfl) T.b_enumerate (pa_cons (pe_ix ix_tup (pv 0) pe_int (fun _ _ => rfl)) pa_nil)) (pg_tup rfl (pgs_cons (pg_name (i := 5) scQClosedFault.nd rfl (Or.inl rfl)) (pgs_cons (pg_name (i := 6) scQClosedFault.nd rfl (Or.inl rfl)) pgs_nil)))
      (pss_one (ps_if ((pw_and (pt_cmpR op_notN1 (pv 6) pe_non (nomark _)) (pw_and (pt_cmpR op_notIn_seq (pv 5) (pv 2) (by with_unfolding_all rfl)) (pw_and1 (pt_cmpR op_in_seq (pv 4) (pv 6) (by with_unfolding_all rfl)))))).pt (pss_one (ps_ret (pe_tup (pa_cons pe_str (pa_cons (pv 3) pa_nil))))) pss_nil))))))
      (pss_one (ps_ret pe_non))))), ?_⟩
    refine x_start (σ' := [some (.ref D), some (.int n), some (.ref t), none, none, none, none]) rfl ?_
    try dsimp only [cxOf]
    have hlen : (ps.map fun m : Nat => V.int m).length = ps.length := List.length_map _
    repeat walk_at "rd"
    refine y_forET ht ⟨fun i σ H1 => ∃ (y3 y4 y5 y6 : Option V), σ = [some (.ref D), some (.int n), some (.ref t), y3, y4, y5, y6] ∧ Kx [] H H1, ⟨_, _, _, _, rfl, Kx.refl [] H⟩, ?_, ?_, ?_⟩
    · rintro i σ H1 hi ⟨y3, y4, y5, y6, rfl, k1⟩
      exact k1.sqT (by simp) ht
    · rintro i x σ H1 H1' hi ⟨y3, y4, y5, y6, rfl, k1⟩ ⟨U, x1, x2, rfl, nU, rfl, f1, f2⟩
      cases f1
      replace f2 : (ps.map fun m : Nat => V.int m)[i]? = some x2 := f2
      rw [hlen] at hi
      rw [List.getElem?_map, List.getElem?_eq_getElem hi] at f2
      cases Option.some.inj f2
      have k2 := k1.new (o := .tup [.int (i : Nat), .int (ps[i] : Nat)]) nU
      have hl := ((hun.mem _).mp (List.getElem_mem hi)).1
      have eU2 := upd_same (H := H1) (a := U) (o := .tup [.int (i : Nat), .int (ps[i] : Nat)])
      have hT2 := hT.keep k2
      have ht2 := k2.sqT (by simp) ht
      have hpi : 0 < i → ∃ b : Nat, ps[i - 1]? = some b ∧ b < ps[i] := fun h0 => by
        have hb : i - 1 < ps.length := by omega
        exact ⟨_, List.getElem?_eq_getElem hb, List.pairwise_iff_getElem.mp hun.up (i - 1) i hb hi (by omega)⟩
      generalize ps[i] = m at *
      generalize upd H1 U (.tup [.int (i : Nat), .int (m : Nat)]) = H2 at *
      repeat walk_at "rd"
      refine ⟨D, _, _, slots, outs, rfl, hT2, .int _, ?_⟩
      have hld : liveD slots (.int (m : Int)) = true := by rw [liveD_int, Int.toNat_natCast]; unfold isLive at hl; rw [hl]; simp
      rw [hld]
      repeat walk_at "rd"
      try refine iteN (by decide) ?_
      repeat walk_at "rd"
      by_cases h0 : 0 < i
      · refine iteP (decide_eq_true (by omega)) ?_
        obtain ⟨b, hb, hbm⟩ := hpi h0
        have hatT : atI (ps.map fun m : Nat => V.int m) ((i : Int) - 1) = some (.int (b : Nat)) := by
          rw [show ((i : Nat) : Int) - 1 = ((i - 1 : Nat) : Int) by omega]
          exact atI_nat (by rw [List.getElem?_map, hb]; rfl)
        repeat walk_at "rd"
        refine iteN (decide_eq_false (by omega)) ?_
        repeat walk_at "rd"
        exact ⟨_, _, _, _, rfl, k2⟩
      · refine iteN (decide_eq_false (by omega)) ?_
        repeat walk_at "rd"
        exact ⟨_, _, _, _, rfl, k2⟩
    · rintro σ H1 ⟨y3, y4, y5, y6, rfl, k1⟩
      have ht1 := k1.sqT (by simp) ht
      repeat walk_at "rd"
      refine ⟨t, _, rfl, .inr ht1, rfl, flat_natsV _, ?_⟩
      rw [in_nats, decide_eq_true hn]
      refine ⟨false, rfl, ?_⟩
      refine iteN rfl ?_
      repeat walk_at "rd"
      refine y_forET ht1 ⟨fun i σ H2 => ∃ (y3 y4 y5 y6 : Option V), σ = [some (.ref D), some (.int n), some (.ref t), y3, y4, y5, y6] ∧ Kx [] H H2, ⟨_, _, _, _, rfl, k1⟩, ?_, ?_, ?_⟩
      · rintro i σ H2 hi ⟨y3, y4, y5, y6, rfl, k2⟩
        exact k2.sqT (by simp) ht
      · rintro i x σ H2 H2' hi ⟨y3, y4, y5, y6, rfl, k2⟩ ⟨U, x1, x2, rfl, nU, rfl, f1, f2⟩
        cases f1
        replace f2 : (ps.map fun m : Nat => V.int m)[i]? = some x2 := f2
        rw [hlen] at hi
        rw [List.getElem?_map, List.getElem?_eq_getElem hi] at f2
        cases Option.some.inj f2
        have k3 := k2.new (o := .tup [.int (i : Nat), .int (ps[i] : Nat)]) nU
        obtain ⟨hl, hnr⟩ := (hun.mem _).mp (List.getElem_mem hi)
        have eU3 := upd_same (H := H2) (a := U) (o := .tup [.int (i : Nat), .int (ps[i] : Nat)])
        have hT3 := hT.keep k3
        have ht3 := k3.sqT (by simp) ht
        obtain ⟨S, O, vs, hD, hS, hO, hvl, hv⟩ := id hT3.ex
        generalize ps[i] = m at *
        generalize upd H2 U (.tup [.int (i : Nat), .int (m : Nat)]) = H3 at *
        obtain ⟨row, er, hml⟩ := live_lt hl
        obtain ⟨z, ez⟩ : ∃ z, outs[m]? = some z := ⟨_, List.getElem?_eq_getElem (by rw [wf.len]; exact hml)⟩
        have hz0 : ¬ 0 < z := fun hz => hnr (.src hl ez hz)
        have hatO : atI (outs.map V.int) (m : Int) = some (.int z) := atI_nat (by rw [List.getElem?_map, ez]; rfl)
        repeat walk_at "rd"
        refine iteN (decide_eq_false hz0) ?_
        repeat walk_at "rd"
        refine y_forET hS ⟨fun j σ H4 => ∃ (y5 y6 : Option V), σ = [some (.ref D), some (.int n), some (.ref t), some (.int (i : Nat)), some (.int (m : Nat)), y5, y6] ∧ Kx [] H3 H4, ⟨_, _, rfl, Kx.refl [] H3⟩, ?_, ?_, ?_⟩
        · rintro j σ H4 hj ⟨y5, y6, rfl, k4⟩
          exact k4.sqT (by simp) hS
        · rintro j x σ H4 H4' hj ⟨y5, y6, rfl, k4⟩ ⟨U5, x1, x2, rfl, nU5, rfl, f1, f2⟩
          cases f1
          replace f2 : vs[j]? = some x2 := f2
          have hjs : j < slots.length := by omega
          have es := List.getElem?_eq_getElem hjs
          have k5 := k4.new (o := .tup [.int (j : Nat), x2]) nU5
          have eU5 := upd_same (H := H4) (a := U5) (o := .tup [.int (j : Nat), x2])
          generalize upd H4 U5 (.tup [.int (j : Nat), x2]) = H5 at *
          have ht5 := k5.sqT (by simp) ht3
          rcases hv j _ es with ⟨e, z9⟩ | ⟨r, row9, e, z9, hF⟩
          · cases Option.some.inj (z9.symm.trans f2)
            repeat walk_at "rd"
            refine iteN (by simp) ?_
            repeat walk_at "rd"
            exact ⟨_, _, rfl, k5⟩
          · cases Option.some.inj (z9.symm.trans f2)
            have hF5 := k5.sqT (by simp) hF
            repeat walk_at "rd"
            refine iteP (by simp) ?_
            repeat walk_at "rd"
            refine ⟨t, _, rfl, .inr ht5, rfl, flat_natsV _, ?_⟩
            rw [in_nats]
            by_cases hjp : j ∈ ps
            · rw [decide_eq_true hjp]
              refine ⟨false, rfl, ?_⟩
              refine iteN rfl ?_
              repeat walk_at "rd"
              exact ⟨_, _, rfl, k5⟩
            · rw [decide_eq_false hjp]
              refine ⟨true, rfl, ?_⟩
              refine iteP rfl ?_
              repeat walk_at "rd"
              have hni : inV (.int (m : Int)) (rowV row9) = false := by
                rw [Bool.eq_false_iff]
                intro h
                unfold inV at h
                rw [List.any_eq_true] at h
                obtain ⟨v, hv1, hv2⟩ := h
                obtain ⟨o, ho, rfl⟩ := List.mem_map.mp hv1
                have hm : some m ∈ row9 := by
                  cases o with
                  | none => cases hv2
                  | some k9 =>
                    have : (k9 : Int) = (m : Int) := by simpa [slotV, eqV] using hv2
                    have e9 : k9 = m := Int.ofNat.inj this
                    exact e9 ▸ ho
                have hlj : isLive slots j = true := by simp [isLive, es, e]
                exact hjp ((hun.mem j).mpr ⟨hlj, fun rr => hnr (.step rr (by rw [rowOf_some (by rw [es, e])]; exact hm))⟩)
              refine ⟨r, _, rfl, .inr hF5, rfl, flat_row row9, ?_⟩
              rw [hni]
              refine ⟨false, rfl, ?_⟩
              refine iteN rfl ?_
              repeat walk_at "rd"
              exact ⟨_, _, rfl, k5⟩
        · rintro σ H4 ⟨y5, y6, rfl, k4⟩
          repeat walk_at "rd"
          exact ⟨_, _, _, _, rfl, k3.trans k4⟩
      · rintro σ H2 ⟨y3, y4, y5, y6, rfl, k2⟩
        repeat walk_at "rd"
        exact k _ k2
end


section
variable {P : Program} {w : World} {K : PySem.W.Frag} {mg : Str → Option Value} {base : Heap}

theorem dp_natsT {H : Hp} : ∀ ns : List Nat, DpAll K H (ns.map fun m : Nat => V.int m) (ns.map fun m : Nat => PyData.int m)
  | [] => .nil
  | m :: r => .cons (.int _) (dp_natsT r)
def certD (wd : Str) (ps : List Nat) : PyData := .tuple [.str wd, .tuple (ps.map fun m : Nat => PyData.int m)]
theorem good_cert {wd : Str} {ps : List Nat} (hw : Good (.str wd) 0 31) (hl : ps.length ≤ 40) (hb : ∀ m ∈ ps, m < 100) : Good (certD wd ps) 2 (2 * (40 * 32 + 1)) := by
  have g1 : Good (.tuple (ps.map fun m : Nat => PyData.int m)) 1 (40 * 32) := Good.tuple (n := 40) (fun d hd => by
    obtain ⟨m, hm, rfl⟩ := List.mem_map.mp hd
    exact Good.int (by have := hb m hm; show ((m : Nat) : Int).natAbs < _; omega)) (by rw [List.length_map]; exact hl)
  refine Good.tuple (n := 2) (fun d hd => ?_) (Nat.le_refl _)
  simp only [List.mem_cons, List.not_mem_nil, or_false] at hd
  rcases hd with rfl | rfl
  · exact hw.mono (by decide) (by decide)
  · exact g1
theorem goodS1 : Good (.str "reached") 0 31 := by constructor <;> decide +kernel
theorem goodS2 : Good (.str "unreached") 0 31 := by constructor <;> decide +kernel
theorem dp_cert {H : Hp} {B t : Addr} {wd : Str} {ps : List Nat} (h : SqT K H B [.str wd, .ref t]) (ht : SqT K H t (ps.map fun m : Nat => V.int m)) : Dp K H (.ref B) (certD wd ps) := .tup h (.cons (.str _) (.cons (.tup ht (dp_natsT ps)) .nil))
theorem up_len {n : Nat} {ns : List Nat} (h : ns.Pairwise (· < ·)) (hb : ∀ m ∈ ns, m < n) : ns.length ≤ n := by
  have hnd : ns.Nodup := h.imp fun {a b} (h : a < b) => Nat.ne_of_lt h
  have hp := hnd.length_le_of_subset (l₂ := List.range n) fun m hm => List.mem_range.mpr (hb m hm)
  rwa [List.length_range] at hp
def spCtd (K : PySem.W.Frag) : Sp := fun vs H Q _ => ∃ (D : Addr) (n : Nat) (b : Bool) (slots : List (Option Rw)) (outs : List Int), vs = [.ref D, .int n, .bl b] ∧ HeapT K H D slots outs ∧ Wf slots outs ∧ isLive slots n = true ∧ (b = true ↔ Reach slots outs n) ∧ ∀ H', Kx [] H H' → Q (.bl true) H'
theorem ok_ctd {f : Addr} {fd : FuncData} (F : Fun K "_law_certified" "_law_certified" sQCertified f fd) (T : Txt mg) (l_reach_certificate : Lo P w K mg base "reach_certificate" 5 ["heap", "node"] (spCert K)) (k_reach_certificate : Lkw P w K mg base "reach_certificate" 5 ["heap", "node"] ["node", "heap"] (gRev 2) (spCert K))
    (l_check_reach : Lo P w K mg base "check_reach" 7 ["heap", "node", "value"] (spChk K)) (k_check_reach : Lkw P w K mg base "check_reach" 7 ["heap", "node", "value"] ["value", "node", "heap"] (gRev 3) (spChk K))
    (l_law_path_fault : Lo P w K mg base "_law_path_fault" 2 ["_law_base_here", "_law_spot", "_law_path"] (spPF K)) (l_law_closed_fault : Lo P w K mg base "_law_closed_fault" 2 ["_law_base_here", "_law_spot", "_law_some"] (spCF K)) : FnG P w K mg base 9 f fd ["_law_base_here", "_law_spot", "_law_reached_here"] (spCtd K) := by
  refine FnG.body F scQCertified (fun vs H Q E h => ?_) (fun cdv A outer s H vs Q E hgd hr h => ?_)
  · obtain ⟨D, n, b, slots, outs, rfl, _⟩ := h
    rfl
  · obtain ⟨D, n, b, slots, outs, rfl, hT, wf, hlv, hb, k⟩ := h
    refine ⟨_, (pss_cons (ps_set (i := 3) scQCertified.nd rfl (Or.inl rfl) (pe_lo l_reach_certificate (hr.mono (by decide)) (by rfl) (pa_cons (pv 0) (pa_cons (pv 1) pa_nil))))
      (pss_cons (ps_if ((pw_or (pt_not (pt_val (pe_callB call_isi (by rfl) T.b_isinstance boot'_isinstance (pa_cons (pv 3) (pa_cons (pe_bltn (v := .ty "tuple") (by rfl) T.b_tuple boot'_tuple rfl) pa_nil))))) (pw_or (pt_cmpR op_ne (pe_callB call_len_seq (by rfl) T.b_len boot'_len (pa_cons (pv 3) pa_nil)) pe_int (nomark _)) (pw_or (pt_not (pt_val (pe_callB call_isi (by rfl) T.b_isinstance boot'_isinstance (pa_cons (pe_ix ix_tup (pv 3) pe_int (fun _ _ => rfl)) (pa_cons (pe_bltn (v := .ty "tuple") (by rfl) T.b_tuple boot'_tuple rfl) pa_nil))))) (pw_or1 (pt_cmpR (op_eqD hr.units) (pe_ix ix_tup (pv 3) pe_int (fun _ _ => rfl)) (pe_tup pa_nil) (nomark _))))))).pt (pss_one (ps_ret pe_bl)) pss_nil)
      (pss_cons (ps_if (pt_cmpR op_ne (pe_callB (call_reprD hgd hr.units) (by rfl) T.b_repr boot'_repr (pa_cons (pe_ix ix_tup (pv 3) pe_int (fun _ _ => rfl)) pa_nil)) (pe_callB (call_reprD hgd hr.units) (by rfl) T.b_repr boot'_repr (pa_cons (pe_ix ix_list (pe_lst (pa_cons pe_str (pa_cons pe_str pa_nil))) (pe_callTy call_int1 (by rfl) T.b_int boot'_int (pa_cons (pv 2) pa_nil)) (fun _ _ => rfl)) pa_nil)) (nomark _)) (pss_one (ps_ret pe_bl)) pss_nil)
      (pss_cons (ps_if (pt_val (pv 2)) (pss_one (ps_set (i := 4) scQCertified.nd rfl (Or.inl rfl) (pe_lo l_law_path_fault (hr.mono (by decide)) (by rfl) (pa_cons (pv 0) (pa_cons (pv 1) (pa_cons (pe_ix ix_tup (pv 3) pe_int (fun _ _ => rfl)) pa_nil)))))) (pss_one (ps_set (i := 4) scQCertified.nd rfl (Or.inl rfl) (pe_lo l_law_closed_fault (hr.mono (by decide)) (by rfl) (pa_cons (pv 0) (pa_cons (pv 1) (pa_cons (pe_ix ix_tup (pv 3) pe_int (fun _ _ => rfl)) pa_nil)))))))
      (pss_cons (ps_if ((pw_or (pt_cmpR op_notN1 (pv 4) pe_non (nomark _)) (pw_or1 (pt_cmpR op_ne (pe_callB (call_repr hgd hr.units) (by rfl) T.b_repr boot'_repr (pa_cons (pe_lkw k_reach_certificate (hr.mono (by decide)) (by rfl) (pk_cons (pv 1) (pk_cons (pv 0) pk_nil))) pa_nil)) (pe_callB (call_repr hgd hr.units) (by rfl) T.b_repr boot'_repr (pa_cons (pv 3) pa_nil)) (nomark _))))).pt (pss_one (ps_ret pe_bl)) pss_nil)
      (pss_one (ps_ret (pe_cmpR op_eq (pe_callB (call_repr hgd hr.units) (by rfl) T.b_repr boot'_repr (pa_cons (pe_lst (pa_cons (pe_lo l_check_reach (hr.mono (by decide)) (by rfl) (pa_cons (pv 0) (pa_cons (pv 1) (pa_cons (pv 3) pa_nil)))) (pa_cons (pe_lkw k_check_reach (hr.mono (by decide)) (by rfl) (pk_cons (pv 3) (pk_cons (pv 1) (pk_cons (pv 0) pk_nil)))) pa_nil))) pa_nil)) (pe_callB (call_repr hgd hr.units) (by rfl) T.b_repr boot'_repr (pa_cons (pe_op op_rep (pe_lst (pa_cons (pv 2) pa_nil)) pe_int) pa_nil)) (nomark _))))))))), ?_⟩
    refine x_start (σ' := [some (.ref D), some (.int n), some (.bl b), none, none]) rfl ?_
    try dsimp only [cxOf]
    have h40 := wf.most
    repeat walk_at "rd"
    refine ⟨D, n, slots, outs, rfl, hT, wf, hlv, fun hre B t H1 ps k1 eB ht hp hth => ?_, fun hre B t H1 ps k1 eB ht hu => ?_⟩
    · obtain rfl : b = true := hb.mpr hre
      have hlen := hp.len
      have hlv2 := hp.live wf
      have hlt : ∀ m ∈ ps, m < 100 := fun m hm => by
        obtain ⟨_, _, h⟩ := live_lt (hlv2 m hm)
        omega
      have hne := hp.ne

      have hB1 : SqT K H1 B [.str "reached", .ref t] := SqT.of eB
      have gC := good_cert (wd := "reached") (ps := ps) goodS1 hlen hlt
      repeat walk_at "rd"
      refine x_isiTup hB1 ?_
      repeat walk_at "rd"
      refine iteN (by decide) ?_
      repeat walk_at "rd"
      try refine iteN (by simp) ?_
      repeat walk_at "rd"
      refine x_isiTup ht ?_
      repeat walk_at "rd"
      refine iteN (by decide) ?_
      repeat walk_at "rd"
      rename_i e0 ne0
      refine ⟨.tuple (ps.map fun m : Nat => PyData.int m), .tuple [], .tup (((Kx.refl [] H1).new ne0).sqT (by simp) ht) (dp_natsT ps), .tup (SqT.of upd_same) .nil, shaped_nats ps, by decide, ?_⟩
      have hnil : PyData.eqv (.tuple (ps.map fun m : Nat => PyData.int m)) (.tuple []) = false := by
        cases ps with
        | nil => exact absurd rfl hne
        | cons a r => rfl
      rw [hnil]
      have k2 := k1.new (o := .tup []) ne0
      have hT2 := hT.keep k2
      have hB2 := ((Kx.refl [] H1).new (o := .tup []) ne0).sqT (by simp) hB1
      have ht2 := ((Kx.refl [] H1).new (o := .tup []) ne0).sqT (by simp) ht
      generalize upd H1 e0 (.tup []) = H2 at *
      repeat walk_at "rd"
      refine x_reprD (.str _) (show (reprText "reached").length ≤ sizeLine by decide +kernel) ?_
      repeat walk_at "rd"
      rename_i e1 ne1
      have k3 := k2.new (o := .lst [.str "unreached", .str "reached"]) ne1
      have hT3 := hT.keep k3
      have kk3 := (Kx.refl [] H2).new (o := .lst [.str "unreached", .str "reached"]) ne1
      have hB3 := kk3.sqT (by simp) hB2
      have ht3 := kk3.sqT (by simp) ht2
      generalize upd H2 e1 (.lst [.str "unreached", .str "reached"]) = H3 at *
      refine x_reprD (.str _) (show (reprText "reached").length ≤ sizeLine by decide +kernel) ?_
      repeat walk_at "rd"
      refine iteN (by simp) ?_
      repeat walk_at "rd"
      try skip
      repeat walk_at "rd"
      refine ⟨D, t, n, slots, outs, ps, rfl, hT3, wf, ht3, hp, hlv2, fun H4 k4 => ?_⟩
      have kA := k3.trans k4
      have hT4 := hT.keep kA
      have hB4 := k4.sqT (by simp) hB3
      have ht4 := k4.sqT (by simp) ht3
      repeat walk_at "rd"
      refine iteN (by simp) ?_
      repeat walk_at "rd"
      refine ⟨D, n, slots, outs, rfl, hT4, wf, hlv, fun hre2 B2 t2 H5 ps2 k5 eB2 ht2' hp2 hth2 => ?_, fun h => absurd hre h⟩
      cases hth.uniq hth2
      have hB5 := k5.sqT (by simp) hB4
      have ht5 := k5.sqT (by simp) ht4
      have kB := kA.trans k5
      have hT5 := hT.keep kB
      repeat walk_at "rd"
      refine x_repr (dp_cert (SqT.of eB2) ht2') gC (by decide) (by decide) ?_
      repeat walk_at "rd"
      refine x_repr (dp_cert hB5 ht5) gC (by decide) (by decide) ?_
      repeat walk_at "rd"
      refine iteN (by simp) ?_
      repeat walk_at "rd"
      refine ⟨D, B, t, n, slots, outs, ps, true, rfl, hT5, wf, hlv, ht5, (.inl ⟨rfl, hB5, hp, hlv2⟩), fun H6 k6 => ?_⟩
      have hB6 := k6.sqT (by simp) hB5
      have ht6 := k6.sqT (by simp) ht5
      have kC := kB.trans k6
      repeat walk_at "rd"
      refine ⟨D, B, t, n, slots, outs, ps, true, rfl, hT.keep kC, wf, hlv, ht6, (.inl ⟨rfl, hB6, hp, hlv2⟩), fun H7 k7 => ?_⟩
      have kD := kC.trans k7
      repeat walk_at "rd"
      rename_i e8 ne8
      have kE := kD.new (o := .lst [.bl true, .bl true]) ne8
      have gL : Good (.list [.bool true, .bool true]) 1 2 := Good.list (n := 2) (k := 0) (w := 0) (fun d hd => by
        simp only [List.mem_cons, List.not_mem_nil, or_false, or_self] at hd
        subst hd
        exact Good.bool _) (Nat.le_refl _)
      refine x_repr (.lst (SqL.of upd_same) (.cons (.bl _) (.cons (.bl _) .nil))) gL (by decide) (by decide) ?_
      generalize upd H7 e8 (.lst [.bl true, .bl true]) = H8 at *
      repeat walk_at "rd"
      rename_i e9 ne9
      refine ⟨e9, 2, [.bl true], rfl, rfl, upd_same, by decide, by decide, Nat.le_of_lt (small1000 (by decide)), fun e10 ne10 => ?_⟩
      have kF := (kE.new (o := .lst [.bl true]) ne9).new (o := .lst (List.replicate (Int.toNat 2) [V.bl true]).flatten) ne10
      have e10v : (upd (upd H8 e9 (.lst [.bl true])) e10 (.lst (List.replicate (Int.toNat 2) [V.bl true]).flatten)) e10 = some (.lst [.bl true, .bl true]) := upd_same
      repeat walk_at "rd"
      refine x_repr (.lst (SqL.of e10v) (.cons (.bl _) (.cons (.bl _) .nil))) gL (by decide) (by decide) ?_
      repeat walk_at "rd"
      rw [decide_eq_true (show V.str (PyData.list [PyData.bool true, PyData.bool true]).shown = V.str (PyData.list [PyData.bool true, PyData.bool true]).shown from rfl)]
      exact k _ kF

    · obtain rfl : b = false := by
        cases b with
        | false => rfl
        | true => exact absurd (hb.mp rfl) hre
      have hlt : ∀ m ∈ ps, m < 40 := fun m hm => by
        obtain ⟨_, _, h⟩ := live_lt ((hu.mem m).mp hm).1
        omega
      have hlen := up_len hu.up hlt
      replace hlt : ∀ m ∈ ps, m < 100 := fun m hm => by have := hlt m hm; omega
      have hne : ps ≠ [] := List.ne_nil_of_mem ((hu.mem n).mpr ⟨hlv, hre⟩)

      have hB1 : SqT K H1 B [.str "unreached", .ref t] := SqT.of eB
      have gC := good_cert (wd := "unreached") (ps := ps) goodS2 hlen hlt
      repeat walk_at "rd"
      refine x_isiTup hB1 ?_
      repeat walk_at "rd"
      refine iteN (by decide) ?_
      repeat walk_at "rd"
      try refine iteN (by simp) ?_
      repeat walk_at "rd"
      refine x_isiTup ht ?_
      repeat walk_at "rd"
      refine iteN (by decide) ?_
      repeat walk_at "rd"
      rename_i e0 ne0
      refine ⟨.tuple (ps.map fun m : Nat => PyData.int m), .tuple [], .tup (((Kx.refl [] H1).new ne0).sqT (by simp) ht) (dp_natsT ps), .tup (SqT.of upd_same) .nil, shaped_nats ps, by decide, ?_⟩
      have hnil : PyData.eqv (.tuple (ps.map fun m : Nat => PyData.int m)) (.tuple []) = false := by
        cases ps with
        | nil => exact absurd rfl hne
        | cons a r => rfl
      rw [hnil]
      have k2 := k1.new (o := .tup []) ne0
      have hT2 := hT.keep k2
      have hB2 := ((Kx.refl [] H1).new (o := .tup []) ne0).sqT (by simp) hB1
      have ht2 := ((Kx.refl [] H1).new (o := .tup []) ne0).sqT (by simp) ht
      generalize upd H1 e0 (.tup []) = H2 at *
      repeat walk_at "rd"
      refine x_reprD (.str _) (show (reprText "unreached").length ≤ sizeLine by decide +kernel) ?_
      repeat walk_at "rd"
      rename_i e1 ne1
      have k3 := k2.new (o := .lst [.str "unreached", .str "reached"]) ne1
      have hT3 := hT.keep k3
      have kk3 := (Kx.refl [] H2).new (o := .lst [.str "unreached", .str "reached"]) ne1
      have hB3 := kk3.sqT (by simp) hB2
      have ht3 := kk3.sqT (by simp) ht2
      generalize upd H2 e1 (.lst [.str "unreached", .str "reached"]) = H3 at *
      refine x_reprD (.str _) (show (reprText "unreached").length ≤ sizeLine by decide +kernel) ?_
      repeat walk_at "rd"
      refine iteN (by simp) ?_
      repeat walk_at "rd"
      try skip
      repeat walk_at "rd"
      refine ⟨D, t, n, slots, outs, ps, rfl, hT3, wf, ht3, hu, (hu.mem n).mpr ⟨hlv, hre⟩, fun H4 k4 => ?_⟩
      have kA := k3.trans k4
      have hT4 := hT.keep kA
      have hB4 := k4.sqT (by simp) hB3
      have ht4 := k4.sqT (by simp) ht3
      repeat walk_at "rd"
      refine iteN (by simp) ?_
      repeat walk_at "rd"
      refine ⟨D, n, slots, outs, rfl, hT4, wf, hlv, fun h => absurd h hre, fun hre2 B2 t2 H5 ps2 k5 eB2 ht2' hu2 => ?_⟩
      cases hu.uniq hu2
      have hB5 := k5.sqT (by simp) hB4
      have ht5 := k5.sqT (by simp) ht4
      have kB := kA.trans k5
      have hT5 := hT.keep kB
      repeat walk_at "rd"
      refine x_repr (dp_cert (SqT.of eB2) ht2') gC (by decide) (by decide) ?_
      repeat walk_at "rd"
      refine x_repr (dp_cert hB5 ht5) gC (by decide) (by decide) ?_
      repeat walk_at "rd"
      refine iteN (by simp) ?_
      repeat walk_at "rd"
      refine ⟨D, B, t, n, slots, outs, ps, false, rfl, hT5, wf, hlv, ht5, (.inr ⟨rfl, hB5, hu, hre⟩), fun H6 k6 => ?_⟩
      have hB6 := k6.sqT (by simp) hB5
      have ht6 := k6.sqT (by simp) ht5
      have kC := kB.trans k6
      repeat walk_at "rd"
      refine ⟨D, B, t, n, slots, outs, ps, false, rfl, hT.keep kC, wf, hlv, ht6, (.inr ⟨rfl, hB6, hu, hre⟩), fun H7 k7 => ?_⟩
      have kD := kC.trans k7
      repeat walk_at "rd"
      rename_i e8 ne8
      have kE := kD.new (o := .lst [.bl false, .bl false]) ne8
      have gL : Good (.list [.bool false, .bool false]) 1 2 := Good.list (n := 2) (k := 0) (w := 0) (fun d hd => by
        simp only [List.mem_cons, List.not_mem_nil, or_false, or_self] at hd
        subst hd
        exact Good.bool _) (Nat.le_refl _)
      refine x_repr (.lst (SqL.of upd_same) (.cons (.bl _) (.cons (.bl _) .nil))) gL (by decide) (by decide) ?_
      generalize upd H7 e8 (.lst [.bl false, .bl false]) = H8 at *
      repeat walk_at "rd"
      rename_i e9 ne9
      refine ⟨e9, 2, [.bl false], rfl, rfl, upd_same, by decide, by decide, Nat.le_of_lt (small1000 (by decide)), fun e10 ne10 => ?_⟩
      have kF := (kE.new (o := .lst [.bl false]) ne9).new (o := .lst (List.replicate (Int.toNat 2) [V.bl false]).flatten) ne10
      have e10v : (upd (upd H8 e9 (.lst [.bl false])) e10 (.lst (List.replicate (Int.toNat 2) [V.bl false]).flatten)) e10 = some (.lst [.bl false, .bl false]) := upd_same
      repeat walk_at "rd"
      refine x_repr (.lst (SqL.of e10v) (.cons (.bl _) (.cons (.bl _) .nil))) gL (by decide) (by decide) ?_
      repeat walk_at "rd"
      rw [decide_eq_true (show V.str (PyData.list [PyData.bool false, PyData.bool false]).shown = V.str (PyData.list [PyData.bool false, PyData.bool false]).shown from rfl)]
      exact k _ kF

end


section
variable {P : Program} {w : World} {K : PySem.W.Frag} {mg : Str → Option Value} {base : Heap}
theorem tabs_kx {T : List (Addr × Str)} {S : List Addr} {H H' : Hp} (k : Kx S H H') (hS : ∀ q ∈ S, ∃ xs, H q = some (.lst xs)) (t : LamX.Tabs T H) : LamX.Tabs T H' := by
  intro p hp
  obtain ⟨ps, h1, h2, h3⟩ := t p hp
  have out : ∀ {b : Addr} {o : HO}, H b = some o → (∀ xs, o ≠ .lst xs) → H' b = some o := fun {b o} e n => k b o (fun hm => by obtain ⟨xs, hx⟩ := hS b hm; rw [hx] at e; exact n xs (Option.some.inj e).symm) e
  refine ⟨ps, out h1 (fun _ z => nomatch z), h2, fun pos cv hc => ?_⟩
  obtain ⟨c, e1, e2⟩ := h3 pos cv hc
  exact ⟨c, e1, out e2 (fun _ z => by unfold LamX.CodeO at z; cases z)⟩
theorem tabs_k0 {T : List (Addr × Str)} {H H' : Hp} (k : Kx [] H H') (t : LamX.Tabs T H) : LamX.Tabs T H' := tabs_kx k (fun z hz => by cases hz) t
theorem extN_sqT {H H' : Hp} {a : Addr} {xs : List V} (e : LamX.ExtN H H') (h : SqT K H a xs) : SqT K H' a xs := by
  rcases h with (h | ⟨o, h⟩) | h
  · exact .inl (.inl (e _ _ h fun _ z => nomatch z))
  · exact .inl (.inr ⟨o, e _ _ h fun _ z => nomatch z⟩)
  · exact .inr h
theorem extN_heap {H H' : Hp} {D : Addr} {slots : List (Option Rw)} {outs : List Int} (e : LamX.ExtN H H') (h : HeapT K H D slots outs) : HeapT K H' D slots outs := by
  obtain ⟨S, O, vs, h1, h2, h3, h4, h5⟩ := h.ex
  refine ⟨S, O, vs, extN_sqT e h1, extN_sqT e h2, extN_sqT e h3, h4, fun i o hi => ?_⟩
  rcases h5 i o hi with z | ⟨r, row, e1, e2, e3⟩
  · exact .inl z
  · exact .inr ⟨r, row, e1, e2, extN_sqT e e3⟩
theorem ky_tabsless : True := trivial
theorem extN_k {H H' : Hp} (k : Kx [] H H') : LamX.ExtN H H' := fun b o e _ => k b o (by simp) e
theorem extN_trans {H H1 H2 : Hp} (a : LamX.ExtN H H1) (b : LamX.ExtN H1 H2) : LamX.ExtN H H2 := fun c o e n => b c o (a c o e n) n
theorem x_reprW {H : Hp} {Q : VK} {t : Addr} {d : PyData} (h : Dp K H (.ref t) (.tuple [.str "node", d])) (g : GoodN 130 d 1 1000) (q : Q (.str (PyData.tuple [.str "node", d]).shown) H) : rRepr K [.ref t] H Q := by
  have g0 : GoodN 130 (.str "node") 1 1000 := by constructor <;> decide +kernel
  have g3 : GoodN 130 (.tuple [.str "node", d]) 2 (2 * (1000 + 1)) := GoodN.tuple (fun x hx => by
    simp only [List.mem_cons, List.not_mem_nil, or_false] at hx
    rcases hx with rfl | rfl
    · exact g0
    · exact g) (Nat.le_refl _)
  exact ⟨t, _, rfl, h, g3.sh, g3.nd, Nat.le_trans g3.dp (by decide), Nat.le_trans (PyData.shown_le 130 (by decide) _ g3.sl) (Nat.le_trans (Nat.add_le_add_right (Nat.mul_le_mul_left _ g3.wt) _) (by decide)), q⟩
theorem extN_pen {H H' : Hp} {p c : Addr} {n : Nat} (e : LamX.ExtN H H') (h : PenAt H p c n) : PenAt H' p c n := by
  obtain ⟨cs, pl, r, h1, h2, h3⟩ := h
  exact ⟨cs, pl, r, e _ _ h1 (fun _ z => nomatch z), e _ _ h2 (fun _ z => nomatch z), h3⟩
theorem penLs {H : Hp} {p c : Addr} {n : Nat} (h : PenAt H p c n) : ∀ z ∈ [p], ∃ xs, H z = some (HO.lst xs) := fun z hz => by
  rw [List.mem_singleton.mp hz]
  obtain ⟨cs, pl, r, h, _⟩ := h
  exact ⟨_, h⟩
theorem heap_kx {H H' : Hp} {S : List Addr} {D : Addr} {slots : List (Option Rw)} {outs : List Int} (k : Kx S H H') (hS : ∀ q ∈ S, ∃ xs, H q = some (.lst xs)) (h : HeapT K H D slots outs) : HeapT K H' D slots outs := by
  have sq : ∀ {a : Addr} {xs : List V}, SqT K H a xs → SqT K H' a xs := fun {a xs} h => by
    have out : ∀ {b : Addr} {o : HO}, H b = some o → (∀ xs, o ≠ .lst xs) → H' b = some o := fun {b o} e n => k b o (fun hm => by obtain ⟨xs, hx⟩ := hS b hm; rw [hx] at e; exact n xs (Option.some.inj e).symm) e
    rcases h with (h | ⟨o, h⟩) | h
    · exact .inl (.inl (out h fun _ z => nomatch z))
    · exact .inl (.inr ⟨o, out h fun _ z => nomatch z⟩)
    · exact .inr h
  obtain ⟨S, O, vs, h1, h2, h3, h4, h5⟩ := h.ex
  refine ⟨S, O, vs, sq h1, sq h2, sq h3, h4, fun i o hi => ?_⟩
  rcases h5 i o hi with z | ⟨r, row, e1, e2, e3⟩
  · exact .inl z
  · exact .inr ⟨r, row, e1, e2, sq e3⟩
theorem live_mem (slots : List (Option Rw)) (i : Int) : liveD slots (.int i) = decide (i ∈ liveUp slots slots.length) := by
  rw [liveD_int, Bool.eq_iff_iff, Bool.and_eq_true, decide_eq_true_iff, decide_eq_true_iff]
  unfold liveUp
  constructor
  · rintro ⟨h0, h1⟩
    refine List.mem_map.mpr ⟨i.toNat, List.mem_filter.mpr ⟨List.mem_range.mpr ?_, h1⟩, by omega⟩
    rcases Nat.lt_or_ge i.toNat slots.length with h | h
    · exact h
    · rw [List.getElem?_eq_none h] at h1
      cases h1
  · intro h
    obtain ⟨m, hm, rfl⟩ := List.mem_map.mp h
    exact ⟨by omega, by have := (List.mem_filter.mp hm).2; unfold isLive at this; rw [Int.toNat_natCast]; exact this⟩

theorem x_eqTrue {H : Hp} {Q : VK} {x y : V} {d e : PyData} (hd : Dp K H x d) (he : Dp K H y e) (s1 : SeqAt.shaped d = true) (s2 : SeqAt.shaped e = true) (h : PyData.eqv d e = true) (q : Q (.bl true) H) : rEqD K x y H Q := ⟨d, e, hd, he, s1, s2, by rw [h]; exact q⟩
def lamQ : Str := (envOfC "law" (defScope sLaw) 0 0 .none).qual ++ "<lambda>"
def spLaw (K : PySem.W.Frag) (PR : Addr) : Sp := fun vs H Q _ => ∃ (a : Addr) (ns : List Int), vs = [.ref a] ∧ SqL K H a (ns.map V.int) ∧ LamX.Tabs [(PR, lamQ)] H ∧ ∀ H', Q (.bl true) H'
theorem ok_law {f gE cR PR C_HeapError C_MissingError C_NoNode C_NoPosition C_NoReference C_NoSlot C_NotFreed C_UndoError : Addr} {fd fdE : FuncData} {cdE : Value} (F : FunC K "law" "law" sLaw f fd (.ref cR)) (T : Txt mg) (TB : LamX.TabB base mg cR PR)
    (D_law_missing : LamD K mg "_law_missing" "_law_call" sQMissing gE fdE cdE ["_law_call", "_law_caught", "error", "_law_marks", "_law_others"]) (c_HeapError : mg "HeapError" = some (.ref C_HeapError)) (c_MissingError : mg "MissingError" = some (.ref C_MissingError)) (c_NoNode : mg "NoNode" = some (.ref C_NoNode)) (c_NoPosition : mg "NoPosition" = some (.ref C_NoPosition)) (c_NoReference : mg "NoReference" = some (.ref C_NoReference)) (c_NoSlot : mg "NoSlot" = some (.ref C_NoSlot)) (c_NotFreed : mg "NotFreed" = some (.ref C_NotFreed)) (c_UndoError : mg "UndoError" = some (.ref C_UndoError)) (N : NNx K C_HeapError C_MissingError C_NoNode C_NoPosition C_NoReference C_NoSlot C_NotFreed C_UndoError)
    (l_law_pen : Lo P w K mg base "_law_pen" 1 ["_law_script"] (spPen K)) (l_law_draw : Lo P w K mg base "_law_draw" 1 ["_law_pen_here", "_law_most_one"] spDraw) (l_law_base : Lo P w K mg base "_law_base" 3 ["_law_pen_here"] (spBase K)) (l_law_loose : Lo P w K mg base "_law_loose" 2 ["_law_pen_here", "_law_base_here"] (spLoose K))
    (l_law_reached : Lo P w K mg base "_law_reached" 1 ["_law_base_here"] (spReached K)) (l_law_certified : Lk P w K mg base "_law_certified" 9 ["_law_base_here", "_law_spot", "_law_reached_here"] (spCtd K)) (l_law_odd : Lo P w K mg base "_law_odd" 2 ["_law_pen_here", "_law_size"] (spOdd K))
    (l_reach_certificate : Lo P w K mg base "reach_certificate" 5 ["heap", "node"] (spCert K)) (e_reach_certificate : LoX P w K mg base "reach_certificate" 5 ["heap", "node"] (spCertX K C_NoNode)) (e_check_reach : LoX P w K mg base "check_reach" 7 ["heap", "node", "value"] (spChkX K C_NoNode)) : FnG P w K mg base 10 f fd ["_law_script"] (spLaw K PR) := by
  refine FnG.bodyC F scLaw (fun vs H Q E h => ?_) (fun A outer s H vs Q E hgd hr h => ?_)
  · obtain ⟨a, ns, rfl, _⟩ := h
    rfl
  · obtain ⟨a, ns, rfl, ha, hTab, k⟩ := h
    have hmT : (PR, lamQ) ∈ [(PR, lamQ)] := List.mem_singleton.mpr rfl
    have hu : ∀ q ∈ [(PR, lamQ)], q.1 = PR → q.2 = lamQ := fun q hq _ => by rw [List.mem_singleton.mp hq]
    have G_law_missing : ∀ {X : Cx} (eK : X.K = K) (em : X.mg = mg) (q : Str) (m : Nat), Gives X ["_law_call", "_law_caught", "error", "_law_marks", "_law_others"] "_law_missing" sQMissing gE cdE "_law_call" q m (TTmiss C_NoNode) := fun {X} eK em q m => gives_missing (X := X) (by rw [em]; exact T) (by rw [em]; exact c_HeapError) (by rw [em]; exact c_MissingError) (by rw [em]; exact c_NoNode) (by rw [em]; exact c_NoPosition) (by rw [em]; exact c_NoReference) (by rw [em]; exact c_NoSlot) (by rw [em]; exact c_NotFreed) (by rw [em]; exact c_UndoError) (by rw [eK]; exact N)
    refine ⟨_, (pss_cons (ps_set (i := 1) scLaw.nd rfl (Or.inr rfl) (pe_lo l_law_pen (hr.mono (by decide)) (by rfl) (pa_cons (pv 0) pa_nil)))
      (pss_cons (ps_for PassesOwn.never rfl (pi_range1 (by rfl) T.b_range (pa_cons pe_int pa_nil)) (pg_name (i := 2) scLaw.nd rfl (Or.inl rfl))
      (pss_cons (ps_set (i := 9) scLaw.nd rfl (Or.inr rfl) (pe_lo l_law_loose (hr.mono (by decide)) (by rfl) (pa_cons (pv 1) (pa_cons (pe_ix ix_tup (pe_lo l_law_base (hr.mono (by decide)) (by rfl) (pa_cons (pv 1) pa_nil)) pe_int (fun _ _ => rfl)) pa_nil))))
      (pss_cons (ps_set (i := 3) scLaw.nd rfl (Or.inl rfl) (pe_callB (call_repr hgd hr.units) (by rfl) T.b_repr boot'_repr (pa_cons (pv 9) pa_nil)))
      (pss_cons (ps_set (i := 4) scLaw.nd rfl (Or.inl rfl) (pe_lo l_law_reached (hr.mono (by decide)) (by rfl) (pa_cons (pv 9) pa_nil)))
      (pss_cons (ps_set (i := 6) scLaw.nd rfl (Or.inr rfl) (pe_lc (own := [("_law_spot", 5), ("_law_row", 12)]) rfl scLaw.nd (pi_enumT (by rfl) T.b_enumerate (pa_cons (pe_ix ix_tup (pv 9) pe_int (fun _ _ => rfl)) pa_nil)) (blkOk_by (N := ["_law_script", "_law_pen_here", "_law_turn", "_law_before", "_law_found", "_law_spot", "_law_alive", "_law_change", "_law_due", "_law_base_here", "_law_odd_here", "_law_some", "_law_row", "_law_time"]) (sc := defScope sLaw) (by decide +kernel)) (fun _ _ _ _ _ => (pg_tupK (K := K) (n := 2) rfl rfl (pgs_cons (pg_name (i := 5) scLaw.nd rfl (Or.inl rfl)) (pgs_cons (pg_name (i := 12) scLaw.nd rfl (Or.inl rfl)) pgs_nil)))) (fun _ _ _ _ _ => (pts_one (pt_cmpR op_notN1 (pv 12) pe_non (nomark _)))) (fun _ _ _ _ _ => (pv 5))))
      (pss_cons (ps_if (pt_cmpR op_gt (pe_callB call_len_seq (by rfl) T.b_len boot'_len (pa_cons (pv 6) pa_nil)) pe_int (nomark _)) (pss_one (ps_set (i := 6) scLaw.nd rfl (Or.inr rfl) (pe_lc (own := [("_law_time", 13)]) rfl scLaw.nd (pi_range1 (by rfl) T.b_range (pa_cons pe_int pa_nil)) (blkOk_by (N := ["_law_script", "_law_pen_here", "_law_turn", "_law_before", "_law_found", "_law_spot", "_law_alive", "_law_change", "_law_due", "_law_base_here", "_law_odd_here", "_law_some", "_law_row", "_law_time"]) (sc := defScope sLaw) (by decide +kernel)) (fun _ _ _ _ _ => (pg_name (i := 13) scLaw.nd rfl (Or.inl rfl))) (fun _ _ _ _ _ => pts_nil) (fun _ _ _ _ _ => (pe_ix (ix_listK (K := K)) (pv 6) (pe_lo l_law_draw (hr.mono (by decide)) (by rfl) (pa_cons (pv 1) (pa_cons (pe_callB (call_lenK (K := K)) (by rfl) T.b_len boot'_len (pa_cons (pv 6) pa_nil)) pa_nil))) (fun _ _ => rfl)))))) pss_nil)
      (pss_cons (ps_for PassesOwn.never rfl (pi_list (pv 6)) (pg_name (i := 5) scLaw.nd rfl (Or.inl rfl))
      (pss_one (ps_if (pt_not (pt_val (pe_lk l_law_certified hgd (hr.mono (by decide)) (by rfl) (pa_cons (pv 9) (pa_cons (pv 5) (pa_cons (pe_cmpR op_in_seq (pv 5) (pv 4) (by with_unfolding_all rfl)) pa_nil)))))) (pss_one (ps_ret pe_bl)) pss_nil)))
      (pss_one (ps_for PassesOwn.never rfl (pi_range1 (by rfl) T.b_range (pa_cons pe_int pa_nil)) (pg_name (i := 7) scLaw.nd rfl (Or.inl rfl))
      (pss_cons (ps_set (i := 10) scLaw.nd rfl (Or.inr rfl) (pe_lo l_law_odd (hr.mono (by decide)) (by rfl) (pa_cons (pv 1) (pa_cons (pe_callB call_len_seq (by rfl) T.b_len boot'_len (pa_cons (pe_ix ix_tup (pv 9) pe_int (fun _ _ => rfl)) pa_nil)) pa_nil))))
      (pss_cons (ps_set (i := 8) scLaw.nd rfl (Or.inl rfl) (pe_callB (call_repr hgd hr.units) (by rfl) T.b_repr boot'_repr (pa_cons (pe_tup (pa_cons pe_str (pa_cons (pv 10) pa_nil))) pa_nil)))
      (pss_cons (ps_if (pt_cmpR op_ne (pe_callB (call_repr hgd hr.units) (by rfl) T.b_repr boot'_repr (pa_cons (pe_lamW (k := 7) D_law_missing (G_law_missing rfl rfl _ _) TB (by rfl) hmT hu (hr.mono (by decide)) (by rfl) (LamX.lamS_by (by show LamX.lamSB (defScope sLaw) _ = true; decide +kernel)) (fun A outer s H E f c' hrL => by exact (pe_loX e_reach_certificate (takes_of rfl rfl rfl rfl) (hrL.mono (by decide)) (by rfl) (pa_cons (pv 9) (pa_cons (pv 10) pa_nil))))) pa_nil)) (pv 8) (nomark _)) (pss_one (ps_ret pe_bl)) pss_nil)
      (pss_cons (ps_set (i := 11) scLaw.nd rfl (Or.inr rfl) (pe_ix ix_list (pe_lst (pa_cons (pe_tup (pa_cons pe_str (pa_cons (pe_tup (pa_cons pe_int pa_nil)) pa_nil))) (pa_cons pe_non (pa_cons (pe_tup (pa_cons pe_str (pa_cons (pe_tup pa_nil) pa_nil))) (pa_cons pe_int pa_nil))))) (pe_lo l_law_draw (hr.mono (by decide)) (by rfl) (pa_cons (pv 1) (pa_cons pe_int pa_nil))) (fun _ _ => rfl)))
      (pss_one (ps_if (PW.pt (pw_or (pt_cmpR op_ne (pe_callB (call_repr hgd hr.units) (by rfl) T.b_repr boot'_repr (pa_cons (pe_lamW (k := 7) D_law_missing (G_law_missing rfl rfl _ _) TB (by rfl) hmT hu (hr.mono (by decide)) (by rfl) (LamX.lamS_by (by show LamX.lamSB (defScope sLaw) _ = true; decide +kernel)) (fun A outer s H E f c' hrL => by exact (pe_loX e_check_reach (takes_of rfl rfl rfl rfl) (hrL.mono (by decide)) (by rfl) (pa_cons (pv 9) (pa_cons (pv 10) (pa_cons (pv 11) pa_nil)))))) pa_nil)) (pv 8) (nomark _)) (pw_or1 (pt_cmpR op_ne (pe_callB (call_repr hgd hr.units) (by rfl) T.b_repr boot'_repr (pa_cons (pv 9) pa_nil)) (pv 3) (nomark _))))) (pss_one (ps_ret pe_bl)) pss_nil)))))))))))))))
      (pss_one (ps_ret (pe_cmpR (op_eqD hr.units) (pe_lo l_reach_certificate (hr.mono (by decide)) (by rfl) (pa_cons (pe_tup (pa_cons (pe_tup (pa_cons (pe_tup (pa_cons pe_int pa_nil)) (pa_cons (pe_tup (pa_cons pe_int pa_nil)) pa_nil))) (pa_cons (pe_tup (pa_cons pe_int (pa_cons pe_int pa_nil))) pa_nil))) (pa_cons pe_int pa_nil))) (pe_tup (pa_cons pe_str (pa_cons (pe_tup (pa_cons pe_int pa_nil)) pa_nil))) (nomark _)))))), ?_⟩
    refine x_start (σ' := [some (.ref a), none, none, none, none, none, none, none, none, none, none, none, none, none]) rfl ?_
    try dsimp only [cxOf]
    repeat walk_at "rd"
    refine ⟨a, ns, rfl, ha, fun p c H1 np nc k1 P1 => ?_⟩
    have tab1 := tabs_k0 k1 hTab
    repeat walk_at "rd"
    refine y_forR1 (by decide) (by decide) ⟨fun i σ H2 => ∃ (y2 y3 y4 y5 y6 y7 y8 y9 y10 y11 y12 y13 : Option V), σ = [some (.ref a), some (.ref p), y2, y3, y4, y5, y6, y7, y8, y9, y10, y11, y12, y13] ∧ PenAt H2 p c (1000 * i) ∧ LamX.Tabs [(PR, lamQ)] H2, ⟨none, none, none, none, none, none, none, none, none, none, none, none, rfl, P1.keep (Kx.refl [] _) (by simp) (by simp) (by omega), tab1⟩, fun _ _ _ _ _ => trivial, ?_, ?_⟩
    · rintro i x σ H2 H2' hi ⟨y2, y3, y4, y5, y6, y7, y8, y9, y10, y11, y12, y13, rfl, P2, tab2⟩ ⟨rfl, rfl⟩
      have hi2 : i < 2 := hi
      repeat walk_at "rd"
      refine ⟨p, c, _, rfl, P2, by omega, fun B D0 lab slots0 outs0 H3 hB hT0 wf0 hl1 hlab k3 P3 => ?_⟩
      replace hT0 := hT0.toT
      have tab3 := tabs_kx k3 (penLs P2) tab2
      repeat walk_at "rd"
      refine ⟨p, c, D0, _, slots0, outs0, rfl, P3, by omega, hT0, wf0, ⟨lab, by obtain ⟨row, z, h1, _⟩ := hlab; simp [isLive, h1]⟩, fun D slots outs H4 hT wf k4 P4 => ?_⟩
      have tab4 := tabs_kx k4 (penLs P3) tab3
      have h40 := wf.most
      have gH := good_heap wf
      repeat walk_at "rd"
      refine x_repr hT.dp gH (by decide) (by decide) ?_
      generalize hbx : (heapD slots outs).shown = bx
      repeat walk_at "rd"
      refine ⟨D, slots, outs, rfl, hT, wf, fun fo H5 ns5 nfo k5 efo hR => ?_⟩
      have tab5 := tabs_k0 k5 tab4
      have P5 := P4.keep k5 (by simp) (by simp) (Nat.le_refl _)
      have hT5 := hT.keep k5
      obtain ⟨S, O, vs, hD, hS, hO, hl, hv⟩ := id hT5.ex
      repeat walk_at "rd"
      refine y_lcET (xs := vs) hS (fun Z nZ => ⟨fun i H6 => Kx [] H5 H6 ∧ H6 Z = some (.lst ((liveUp slots i).map V.int)), ⟨(Kx.refl _ _).new nZ, upd_same⟩, ?_, ?_, ?_⟩)
      · rintro i H6 hi ⟨k6, _⟩
        exact k6.sqT (by simp) hS
      · rintro i x H6 H6' hi ⟨k6, e6⟩ ⟨U, x1, x2, rfl, nU, rfl, f1, f2⟩
        cases f1
        have nUZ : Z ≠ U := ne_of_none e6 nU
        repeat walk_at "rd"
        refine ⟨rfl, ?_⟩
        have hs : i < slots.length := by omega
        repeat walk_at "rd"
        have es := List.getElem?_eq_getElem hs
        have hlen := liveUp_len slots i
        rcases hv i _ es with ⟨e, z⟩ | ⟨r, row, e, z, _⟩
        · cases Option.some.inj (z.symm.trans f2)
          refine iteF ⟨(k6.new nU), ?_⟩
          rw [liveUp_succ, if_neg (by simp [isLive, es, e])]
          exact lk_ne e6 nU
        · cases Option.some.inj (z.symm.trans f2)
          refine iteT ?_
          repeat walk_at "rd"
          refine ⟨_, lk_ne e6 nU, small1000 (by rw [List.length_map]; omega), (k6.new nU).wr (.inl nZ), ?_⟩
          rw [upd_same, liveUp_succ, if_pos (by simp [isLive, es, e]), List.map_append]
          rfl
      rintro H6 ⟨k6, eA⟩
      rw [hl] at eA
      have tab6 := tabs_k0 k6 tab5
      have hT6 := hT5.keep k6
      have P6 := P5.keep k6 (by simp) (by simp) (Nat.le_refl _)
      have efo6 := k6 fo _ (by simp) efo
      have hll := liveUp_len slots slots.length
      have nZp : Z ≠ p := fun z => by
        obtain ⟨⟨o, ho⟩, _⟩ := P5.some
        rw [z, ho] at nZ
        cases nZ
      have nfp : fo ≠ p := fun z => by
        obtain ⟨⟨o, ho⟩, _⟩ := P4.some
        rw [z, ho] at nfo
        cases nfo
      refine x_name ?_
      simp only [List.set_cons_zero, List.set_cons_succ]
      refine x_seqG (fun σ H7 => ∃ (Z' : Addr) (zs : List Int) (y13 : Option V), σ = [some (.ref a), some (.ref p), some (.int (0 + (i : Nat))), some (.str bx), some (.ref fo), y5, some (.ref Z'), y7, y8, some (.ref D), y10, y11, y12, y13] ∧ H7 Z' = some (.lst (zs.map V.int)) ∧ (∀ z ∈ zs, z ∈ liveUp slots slots.length) ∧ zs.length ≤ 40 ∧ Z' ≠ p ∧ HeapT K H7 D slots outs ∧ H7 fo = some (.lst (ns5.map V.int)) ∧ PenAt H7 p c (1000 * i + 820) ∧ LamX.Tabs [(PR, lamQ)] H7) (fun G hG => ?_) ?_
      · repeat walk_at "rd"
        by_cases h12 : (12 : Int) < ((liveUp slots slots.length).map V.int).length
        · refine iteP (decide_eq_true h12) ?_
          obtain ⟨⟨op, hp⟩, oc, hc⟩ := P6.some
          repeat walk_at "rd"
          refine y_lcR1 (by decide) (by decide) (fun U nU => ⟨fun t H7 => Kx [p] H6 H7 ∧ PenAt H7 p c (1000 * i + 800 + t) ∧ ∃ zs, H7 U = some (.lst (zs.map V.int)) ∧ zs.length = t ∧ ∀ z ∈ zs, z ∈ liveUp slots slots.length,
            ⟨(Kx.refl [p] H6).new nU, P6.keep ((Kx.refl [] H6).new nU) (by simp) (by simp) (by omega), [], upd_same, rfl, by simp⟩, fun _ _ _ _ => trivial, ?_, ?_⟩)
          · rintro t x H7 H7' ht ⟨k7, P7, zs, eU, hzl, hz⟩ ⟨rfl, rfl⟩
            have ht12 : t < 12 := ht
            have nUp : U ≠ p := fun z => by rw [z, hp] at nU; cases nU
            have eA7 := k7 Z _ (by simpa using nZp) eA
            repeat walk_at "rd"
            refine ⟨rfl, ?_⟩
            repeat walk_at "rd"
            refine x_draw P7 (by omega) (by omega) (by rw [List.length_map]; omega) fun d H8 d0 d1 k8 P8 => ?_
            rw [List.length_map] at d1
            obtain ⟨m, rfl⟩ : ∃ m : Nat, d = m := ⟨d.toNat, by omega⟩
            have hm : m < (liveUp slots slots.length).length := by omega
            have eA8 := k8 Z _ (by simpa using nZp) eA7
            have eU8 := k8 U _ (by simpa using nUp) eU
            have hat : atI ((liveUp slots slots.length).map V.int) (m : Int) = some (.int (liveUp slots slots.length)[m]) := atI_nat (by rw [List.getElem?_map, List.getElem?_eq_getElem hm]; rfl)
            repeat walk_at "rd"
            refine ⟨_, eU8, small1000 (by rw [List.length_map]; omega), (k7.trans k8).wr (.inl nU), P8.keep (Kx.wr (S := [U]) (Kx.refl [U] H8) (.inr (by simp))) (by simp [nUp.symm]) (by simp; intro z; rw [← z, hc] at nU; cases nU) (by omega), zs ++ [(liveUp slots slots.length)[m]], ?_, by rw [List.length_append, hzl]; rfl, fun z hz2 => ?_⟩
            · rw [upd_same, List.map_append]
              rfl
            · rcases List.mem_append.mp hz2 with hz2 | hz2
              · exact hz z hz2
              · rw [List.mem_singleton.mp hz2]
                exact List.getElem_mem hm
          rintro H7 ⟨k7, P7, zs, eU, hzl, hz⟩
          have nUp : U ≠ p := fun z => by rw [z, hp] at nU; cases nU
          repeat walk_at "rd"
          exact hG _ _ ⟨U, zs, _, rfl, eU, hz, by rw [hzl]; decide, nUp, heap_kx k7 (penLs P6) hT6, k7 fo _ (by simpa using nfp) efo6, P7.up rfl rfl (by show 1000 * i + 800 + 12 ≤ _; omega), tabs_kx k7 (penLs P6) tab6⟩
        · refine iteN (decide_eq_false h12) ?_
          repeat walk_at "rd"
          exact hG _ _ ⟨Z, _, _, rfl, eA, fun z hz => hz, by omega, nZp, hT6, efo6, P6.up rfl rfl (by omega), tab6⟩
      clear hT6 P6 tab6 efo6 eA nZp nfp hll hT5 tab5 P5 hT P4 tab4
      rintro σ H7 ⟨Z', zs, z13, rfl, eZ, hzs, hz40, nZp, hT7, efo7, P7, tab7⟩
      repeat walk_at "rd"
      refine y_forL (xs := zs.map V.int) (SqL.of eZ) ⟨fun j σ H8 => ∃ (y5 : Option V), σ = [some (.ref a), some (.ref p), some (.int (0 + (i : Nat))), some (.str bx), some (.ref fo), y5, some (.ref Z'), y7, y8, some (.ref D), y10, y11, y12, z13] ∧ H8 Z' = some (.lst (zs.map V.int)) ∧ HeapT K H8 D slots outs ∧ H8 fo = some (.lst (ns5.map V.int)) ∧ PenAt H8 p c (1000 * i + 820) ∧ LamX.Tabs [(PR, lamQ)] H8, ⟨_, rfl, eZ, hT7, efo7, P7, tab7⟩, ?_, ?_, ?_⟩
      · rintro j σ H8 hj ⟨y5, rfl, eZ8, _⟩
        exact SqL.of eZ8
      · rintro j x σ H8 H8' hj ⟨y5, rfl, eZ8, hT8, efo8, P8, tab8⟩ ⟨rfl, hx⟩
        rw [List.length_map] at hj
        replace hx : (zs.map V.int)[j]? = some x := hx
        rw [List.getElem?_map, List.getElem?_eq_getElem hj] at hx
        cases Option.some.inj hx
        obtain ⟨node, hnode, _, hlv⟩ := liveUp_mem.mp (hzs _ (List.getElem_mem hj))
        rw [hnode]
        repeat walk_at "rd"
        refine ⟨D, node, _, slots, outs, rfl, hT8, wf, hlv, ?_, fun H9 k9 => ?_⟩
        · rw [in_int, decide_eq_true_iff, hR.mem]
          constructor
          · rintro ⟨m, hm, h⟩
            have : m = node := by omega
            exact this ▸ h
          · exact fun h => ⟨node, rfl, h⟩
        repeat walk_at "rd"
        try refine iteN (by decide) ?_
        repeat walk_at "rd"
        exact ⟨_, rfl, k9 _ _ (by simp) eZ8, hT8.keep k9, k9 _ _ (by simp) efo8, P8.keep k9 (by simp) (by simp) (Nat.le_refl _), tabs_k0 k9 tab8⟩
      clear eZ hT7 efo7 P7 tab7
      rintro σ H8 ⟨z5, rfl, eZ8, hT8, efo8, P8, tab8⟩
      repeat walk_at "rd"
      refine y_forR1 (by decide) (by decide) ⟨fun j σ H9 => ∃ (y7 y8 y10 y11 : Option V), σ = [some (.ref a), some (.ref p), some (.int (0 + (i : Nat))), some (.str bx), some (.ref fo), z5, some (.ref Z'), y7, y8, some (.ref D), y10, y11, y12, z13] ∧ HeapT K H9 D slots outs ∧ PenAt H9 p c (1000 * i + 820 + 2 * j) ∧ LamX.Tabs [(PR, lamQ)] H9, ⟨_, _, _, _, rfl, hT8, P8, tab8⟩, fun _ _ _ _ _ => trivial, ?_, ?_⟩
      · rintro j x σ H9 H9' hj ⟨y7, y8, y10, y11, rfl, hT9, P9, tab9⟩ ⟨rfl, rfl⟩
        have hj3 : j < 3 := hj
        obtain ⟨S9, O9, vs9, hD9, hS9, hO9, hl9, hv9⟩ := id hT9.ex
        repeat walk_at "rd"
        rw [hl9]
        refine ⟨p, c, _, slots.length, rfl, P9, by omega, h40, fun v d L HA kA PA hfL hS hg hodd => ?_⟩
        have hdl := hodd slots rfl
        have hTA := heap_kx kA (penLs P9) hT9
        have tabA := tabs_kx kA (penLs P9) tab9
        repeat walk_at "rd"
        rename_i eT neT
        have kB := (Kx.refl [] HA).new (o := .tup [.str "node", v]) neT
        have eT1 := upd_same (H := HA) (a := eT) (o := .tup [.str "node", v])
        have hSB := hS.kx kB (by simp)
        have hTB := hTA.keep kB
        have tabB := tabs_k0 kB tabA
        have PB := PA.keep kB (by simp) (by simp) (Nat.le_refl _)
        generalize upd HA eT (.tup [.str "node", v]) = HB at *
        refine x_reprW (.tup (SqT.of eT1) (.cons (.str _) (.cons hSB.now .nil))) hg ?_
        generalize hex : (PyData.tuple [.str "node", d]).shown = ex
        repeat walk_at "rd"
        refine ⟨tabB, fun HC xC tabC => ⟨v, fun E Qn hE => ?_, fun L1 HD nL1 kD eL1 => ?_⟩⟩
        · refine x_cW ?_
          repeat walk_at "rd"
          exact ⟨D, v, d, slots, outs, rfl, extN_heap xC hTB, (hSB.ext xC).now, hdl, hE⟩
        have xD := extN_trans xC (extN_k kD)
        have tabD := tabs_k0 kD tabC
        have hTD := extN_heap xD hTB
        have hSD := hSB.ext xD
        have PD := extN_pen xD PB
        repeat walk_at "rd"
        refine x_reprW (.tup (SqT.of eL1) (.cons (.str _) (.cons hSD.now .nil))) hg ?_
        rw [hex]
        repeat walk_at "rd"
        refine iteN (by simp) ?_
        repeat walk_at "rd"
        rename_i r1 nr1 r2 nr2 r3 nr3 r4 nr4 r5 nr5
        generalize hzs : [V.ref r2, V.non, V.ref r4, V.int 7] = zs at *
        have kE := (((((Kx.refl [] HD).new (o := .tup [.int 0]) nr1).new (o := .tup [.str "reached", .ref r1]) nr2).new (o := .tup []) nr3).new (o := .tup [.str "unreached", .ref r3]) nr4).new (o := .lst zs) nr5
        have er5 := upd_same (H := upd (upd (upd (upd HD r1 (.tup [.int 0])) r2 (.tup [.str "reached", .ref r1])) r3 (.tup [])) r4 (.tup [.str "unreached", .ref r3])) (a := r5) (o := .lst zs)
        have PE := PD.keep kE (by simp) (by simp) (Nat.le_refl _)
        have hTE := hTD.keep kE
        have hSE := hSD.kx kE (by simp)
        have tabE := tabs_k0 kE tabD
        generalize upd (upd (upd (upd (upd HD r1 (.tup [.int 0])) r2 (.tup [.str "reached", .ref r1])) r3 (.tup [])) r4 (.tup [.str "unreached", .ref r3])) r5 (.lst zs) = HE at *
        have nr5p : r5 ≠ p := fun z => by
          obtain ⟨⟨o, ho⟩, _⟩ := PD.some
          have h1 := ((((Kx.refl [] HD).new (o := .tup [.int 0]) nr1).new (o := .tup [.str "reached", .ref r1]) nr2).new (o := .tup []) nr3).new (o := .tup [.str "unreached", .ref r3]) nr4
          have h2 := h1 p _ (by simp) ho
          rw [z, h2] at nr5
          cases nr5
        have nLp : ∀ b ∈ L, b ∉ [p] := fun b hb z => by
          obtain ⟨⟨o, ho⟩, _⟩ := P9.some
          have := hfL b hb
          rw [List.mem_singleton.mp z, ho] at this
          cases this
        refine x_draw PE (by omega) (by decide) (by decide) fun q HF q0 q1 kF PF => ?_
        obtain ⟨m, rfl⟩ : ∃ m : Nat, q = m := ⟨q.toNat, by omega⟩
        have hm4 : m < zs.length := by rw [← hzs]; show m < 4; omega
        have hatz : atI zs (m : Int) = some zs[m] := atI_nat (List.getElem?_eq_getElem hm4)
        have er5F := kF r5 _ (by simpa using nr5p) er5
        have hTF := heap_kx kF (penLs PE) hTE
        have hSF := hSE.kx kF nLp
        have tabF := tabs_kx kF (penLs PE) tabE
        generalize zs[m] = some0 at *
        repeat walk_at "rd"
        refine ⟨tabF, fun HG xG tabG => ⟨v, fun E Qn hE => ?_, fun L2 HI nL2 kI eL2 => ?_⟩⟩
        · refine x_cW ?_
          repeat walk_at "rd"
          exact ⟨D, v, some0, d, slots, outs, rfl, extN_heap xG hTF, (hSF.ext xG).now, hdl, hE⟩
        have xI := extN_trans xG (extN_k kI)
        have tabI := tabs_k0 kI tabG
        have hTI := extN_heap xI hTF
        have hSI := hSF.ext xI
        have PI := extN_pen xI PF
        repeat walk_at "rd"
        refine x_reprW (.tup (SqT.of eL2) (.cons (.str _) (.cons hSI.now .nil))) hg ?_
        rw [hex]
        repeat walk_at "rd"
        refine iteN (by simp) ?_
        repeat walk_at "rd"
        refine x_repr hTI.dp gH (by decide) (by decide) ?_
        rw [hbx]
        repeat walk_at "rd"
        refine iteN (by simp) ?_
        repeat walk_at "rd"
        exact ⟨_, _, _, _, rfl, hTI, PI.up rfl rfl (by omega), tabI⟩
      · rintro σ H9 ⟨y7, y8, y10, y11, rfl, hT9, P9, tab9⟩
        repeat walk_at "rd"
        exact ⟨_, _, _, _, _, _, _, _, _, _, _, _, rfl, P9.up rfl rfl (by show 1000 * i + 820 + 2 * 3 ≤ 1000 * (i + 1); omega), tab9⟩
    · rintro σ H2 ⟨y2, y3, y4, y5, y6, y7, y8, y9, y10, y11, y12, y13, rfl, P2, tab2⟩
      repeat walk_at "rd"
      rename_i r0 n0 r1 n1 S0 nS O0 nO D0 nD
      have k3 := (((((Kx.refl [] H2).new (o := .tup [.int 0]) n0).new (o := .tup [.int 1]) n1).new (o := .tup [.ref r0, .ref r1]) nS).new (o := .tup [.int 0, .int 1]) nO).new (o := .tup [.ref S0, .ref O0]) nD
      have hT3 : HeapT K (upd (upd (upd (upd (upd H2 r0 (.tup [.int 0])) r1 (.tup [.int 1])) S0 (.tup [.ref r0, .ref r1])) O0 (.tup [.int 0, .int 1])) D0 (.tup [.ref S0, .ref O0])) D0 [some [some 0], some [some 1]] [0, 1] :=
        ⟨S0, O0, [.ref r0, .ref r1], SqT.of upd_same, SqT.of (by walk_at "lk"), SqT.of (by walk_at "lk"), rfl, fun i o h => by
          match i, h with
          | 0, h => exact .inr ⟨r0, _, (Option.some.inj h).symm, rfl, SqT.of (by walk_at "lk")⟩
          | 1, h => exact .inr ⟨r1, _, (Option.some.inj h).symm, rfl, SqT.of (by walk_at "lk")⟩
          | _ + 2, h => cases h⟩
      generalize upd (upd (upd (upd (upd H2 r0 (.tup [.int 0])) r1 (.tup [.int 1])) S0 (.tup [.ref r0, .ref r1])) O0 (.tup [.int 0, .int 1])) D0 (.tup [.ref S0, .ref O0]) = H3 at *
      have wf3 : Wf [some [some 0], some [some 1]] [0, 1] := by
        refine ⟨rfl, by decide, fun m h => ?_, fun z h => ?_, fun r h => ?_, fun r h kq hk => ?_⟩
        · match m, h with
          | 0, h => cases h
          | 1, h => cases h
          | _ + 2, h => cases h
        · simp only [List.mem_cons, List.not_mem_nil, or_false] at h
          rcases h with rfl | rfl <;> decide
        · simp only [List.mem_cons, List.not_mem_nil, or_false, Option.some.injEq] at h
          rcases h with rfl | rfl <;> decide
        · simp only [List.mem_cons, List.not_mem_nil, or_false, Option.some.injEq] at h
          rcases h with rfl | rfl
          · simp only [List.mem_cons, List.not_mem_nil, or_false, Option.some.injEq] at hk
            subst hk
            exact ⟨_, rfl⟩
          · simp only [List.mem_cons, List.not_mem_nil, or_false, Option.some.injEq] at hk
            subst hk
            exact ⟨_, rfl⟩
      have only1 : ∀ m, Reach [some [some 0], some [some 1]] [0, 1] m → m = 1 := fun m hr => by
        induction hr with
        | @src m z h1 h2 h3 =>
          match m, h2 with
          | 0, h2 => cases Option.some.inj h2; omega
          | 1, _ => rfl
          | _ + 2, h2 => cases h2
        | @step h m h1 h2 ih =>
          subst ih
          rw [show rowOf [some [some 0], some [some 1]] 1 = [some 1] from rfl] at h2
          simp only [List.mem_cons, List.not_mem_nil, or_false, Option.some.injEq] at h2
          exact h2
      have nr0 : ¬ Reach [some [some 0], some [some 1]] [0, 1] 0 := fun h => by cases only1 0 h
      have r1' : Reach [some [some 0], some [some 1]] [0, 1] 1 := .src (z := 1) rfl rfl (by decide)
      refine ⟨D0, 0, _, _, rfl, hT3, wf3, rfl, fun h => absurd h nr0, fun _ B t H4 us k4 eB ht hu => ?_⟩
      have hu0 : Unr [some [some 0], some [some 1]] [0, 1] [0] := ⟨by simp, fun m => by
        constructor
        · intro h
          rw [List.mem_singleton.mp h]
          exact ⟨rfl, nr0⟩
        · rintro ⟨h1, h2⟩
          match m, h1, h2 with
          | 0, _, _ => simp
          | 1, _, h2 => exact absurd r1' h2
          | m + 2, h1, _ => simp [isLive] at h1⟩
      cases hu.uniq hu0
      repeat walk_at "rd"
      rename_i q1 nq1 q2 nq2
      have k5 := ((Kx.refl [] H4).new (o := .tup [.int 0]) nq1).new (o := .tup [.str "unreached", .ref q1]) nq2
      refine x_eqTrue (dp_cert (ps := [0]) (k5.sqT (by simp) (SqT.of eB)) (k5.sqT (by simp) ht)) (dp_cert (ps := [0]) (SqT.of upd_same) (SqT.of (lk_ne upd_same nq2))) (by with_unfolding_all rfl) (by with_unfolding_all rfl) (by with_unfolding_all rfl) ?_
      exact k _
end

theorem all_mk {l : PySem.W.OpenLaw} {w : World} {K : PySem.W.Frag} {h : Heap} {mg : Str → Option Value} {fa : Addr} (X : K.In h) (G : h.Ns mainGlobals mg) (hfa : mg "law" = some (.ref fa))
    {C_HeapError : Addr} (c_HeapError : PySem.W.nsIn K mainGlobals "HeapError" = some (some (.ref C_HeapError)))
    {C_MissingError : Addr} (c_MissingError : PySem.W.nsIn K mainGlobals "MissingError" = some (some (.ref C_MissingError)))
    {C_NoNode : Addr} (c_NoNode : PySem.W.nsIn K mainGlobals "NoNode" = some (some (.ref C_NoNode)))
    {C_NoPosition : Addr} (c_NoPosition : PySem.W.nsIn K mainGlobals "NoPosition" = some (some (.ref C_NoPosition)))
    {C_NoReference : Addr} (c_NoReference : PySem.W.nsIn K mainGlobals "NoReference" = some (some (.ref C_NoReference)))
    {C_NoSlot : Addr} (c_NoSlot : PySem.W.nsIn K mainGlobals "NoSlot" = some (some (.ref C_NoSlot)))
    {C_NotFreed : Addr} (c_NotFreed : PySem.W.nsIn K mainGlobals "NotFreed" = some (some (.ref C_NotFreed)))
    {C_UndoError : Addr} (c_UndoError : PySem.W.nsIn K mainGlobals "UndoError" = some (some (.ref C_UndoError)))
    (xi_NoNode : PySem.W.excInitIn K C_NoNode bmLE "LookupError.__new__" = true) (xo_NoNode : PySem.W.excOver K C_NoNode bmLE = true) (xd_NoNode : PySem.W.hasDictIn K C_NoNode = true) (xs_NoNode : PySem.W.findIn K (.ref C_NoNode) "__setattr__" = some (some (.builtin "object.__setattr__")))
    (xe_NoNode : PySem.W.subIn K (.ref C_NoNode) (.type "BaseException") = some true) (xt_NoNode : PySem.W.typeIn K (.ref C_NoNode) = some (.type "type")) (xk_NoNode : PySem.W.keepIn K (.ref C_NoNode) = true) (xn_NoNode : PySem.W.takerIn K C_NoNode "node" = some none)
    (xg_NoNode : PySem.W.findIn K (.ref C_NoNode) "__getattribute__" = some (some (.builtin "BaseException.__getattribute__"))) (xG_NoNode : PySem.W.findIn K (.ref C_NoNode) "__getattr__" = some none) (xf_NoNode : PySem.W.findIn K (.ref C_NoNode) "node" = some none)
    (xc_NoNode : PySem.W.findIn K (.ref C_NoNode) "__class__" = some (some (.builtin "object.__class__"))) (xh_NoNode : PySem.W.specialIn K (.builtin "object.__class__") "__get__" = some (some (.builtin "getset_descriptor.__get__"))) (xT_NoNode : PySem.W.takesIn K (.builtin "object.__class__") = some true) (xm_NoNode : PySem.W.mroIn K C_NoNode (.type "object") = some true)
    {f_iNoNode : Addr} {od_iNoNode an_iNoNode : Option Addr} {sl_iNoNode : Array (Option Value)} {oc_iNoNode kV_iNoNode dc_iNoNode pm_iNoNode cd_iNoNode ct_iNoNode : Value}
    (a_iNoNode : PySem.W.findIn K (.ref C_NoNode) "__init__" = some (some (.ref f_iNoNode))) (t_iNoNode : PySem.W.typeIn K (.ref f_iNoNode) = some (.type "function"))
    (l_iNoNode : K.lookup f_iNoNode = some ⟨oc_iNoNode, od_iNoNode, .func (PySem.W.fnOf "__init__" "NoNode.__init__" (defArgs sNoNodeInit) (defBody sNoNodeInit) (defScope sNoNodeInit) .none kV_iNoNode dc_iNoNode pm_iNoNode an_iNoNode cd_iNoNode ct_iNoNode), sl_iNoNode⟩)
    (c_iNoNode : PySem.W.codeIn K cd_iNoNode "NoNode.__init__" = true) (k_iNoNode : PySem.W.keepIn K (.ref f_iNoNode) = true)
    (q1 : PySem.W.kitOne K (.ref C_NoNode) (.ref C_NoNode) = some true) (q2 : PySem.W.kitOne K (.ref C_NoNode) (.ref C_NoReference) = some false) (q3 : PySem.W.kitOne K (.ref C_NoNode) (.ref C_NoSlot) = some false)
    (q4 : PySem.W.kitAny K (.ref C_NoNode) [.ref C_HeapError, .ref C_NotFreed, .ref C_NoPosition, .ref C_UndoError] = some false) (q5 : PySem.W.kitOne K (.ref C_NoNode) (.type "LookupError") = some true) (q6 : PySem.W.exmAny K (.ref C_NoNode) [.ref C_HeapError, .ref C_MissingError] = some true)
    {f_law_draw : Addr} {od_law_draw an_law_draw : Option Addr} {sl_law_draw : Array (Option Value)} {oc_law_draw kV_law_draw dc_law_draw pm_law_draw cd_law_draw ct_law_draw : Value}
    (a_law_draw : PySem.W.nsIn K mainGlobals "_law_draw" = some (some (.ref f_law_draw))) (l_law_draw : K.lookup f_law_draw = some ⟨oc_law_draw, od_law_draw, .func (PySem.W.fnOf "_law_draw" "_law_draw" (defArgs sQDraw) (defBody sQDraw) (defScope sQDraw) .none kV_law_draw dc_law_draw pm_law_draw an_law_draw cd_law_draw ct_law_draw), sl_law_draw⟩)
    (c_law_draw : PySem.W.codeIn K cd_law_draw "_law_draw" = true) (k_law_draw : PySem.W.keepIn K (.ref f_law_draw) = true)
    {f_law_pen : Addr} {od_law_pen an_law_pen : Option Addr} {sl_law_pen : Array (Option Value)} {oc_law_pen kV_law_pen dc_law_pen pm_law_pen cd_law_pen ct_law_pen : Value}
    (a_law_pen : PySem.W.nsIn K mainGlobals "_law_pen" = some (some (.ref f_law_pen))) (l_law_pen : K.lookup f_law_pen = some ⟨oc_law_pen, od_law_pen, .func (PySem.W.fnOf "_law_pen" "_law_pen" (defArgs sQPen) (defBody sQPen) (defScope sQPen) .none kV_law_pen dc_law_pen pm_law_pen an_law_pen cd_law_pen ct_law_pen), sl_law_pen⟩)
    (c_law_pen : PySem.W.codeIn K cd_law_pen "_law_pen" = true) (k_law_pen : PySem.W.keepIn K (.ref f_law_pen) = true)
    {f_law_shuffled : Addr} {od_law_shuffled an_law_shuffled : Option Addr} {sl_law_shuffled : Array (Option Value)} {oc_law_shuffled kV_law_shuffled dc_law_shuffled pm_law_shuffled cd_law_shuffled ct_law_shuffled : Value}
    (a_law_shuffled : PySem.W.nsIn K mainGlobals "_law_shuffled" = some (some (.ref f_law_shuffled))) (l_law_shuffled : K.lookup f_law_shuffled = some ⟨oc_law_shuffled, od_law_shuffled, .func (PySem.W.fnOf "_law_shuffled" "_law_shuffled" (defArgs sQShuffled) (defBody sQShuffled) (defScope sQShuffled) .none kV_law_shuffled dc_law_shuffled pm_law_shuffled an_law_shuffled cd_law_shuffled ct_law_shuffled), sl_law_shuffled⟩)
    (c_law_shuffled : PySem.W.codeIn K cd_law_shuffled "_law_shuffled" = true) (k_law_shuffled : PySem.W.keepIn K (.ref f_law_shuffled) = true)
    {f_law_linked : Addr} {od_law_linked an_law_linked : Option Addr} {sl_law_linked : Array (Option Value)} {oc_law_linked kV_law_linked dc_law_linked pm_law_linked cd_law_linked ct_law_linked : Value}
    (a_law_linked : PySem.W.nsIn K mainGlobals "_law_linked" = some (some (.ref f_law_linked))) (l_law_linked : K.lookup f_law_linked = some ⟨oc_law_linked, od_law_linked, .func (PySem.W.fnOf "_law_linked" "_law_linked" (defArgs sQLinked) (defBody sQLinked) (defScope sQLinked) .none kV_law_linked dc_law_linked pm_law_linked an_law_linked cd_law_linked ct_law_linked), sl_law_linked⟩)
    (c_law_linked : PySem.W.codeIn K cd_law_linked "_law_linked" = true) (k_law_linked : PySem.W.keepIn K (.ref f_law_linked) = true)
    {f_law_base : Addr} {od_law_base an_law_base : Option Addr} {sl_law_base : Array (Option Value)} {oc_law_base kV_law_base dc_law_base pm_law_base cd_law_base ct_law_base : Value}
    (a_law_base : PySem.W.nsIn K mainGlobals "_law_base" = some (some (.ref f_law_base))) (l_law_base : K.lookup f_law_base = some ⟨oc_law_base, od_law_base, .func (PySem.W.fnOf "_law_base" "_law_base" (defArgs sQBase) (defBody sQBase) (defScope sQBase) .none kV_law_base dc_law_base pm_law_base an_law_base cd_law_base ct_law_base), sl_law_base⟩)
    (c_law_base : PySem.W.codeIn K cd_law_base "_law_base" = true) (k_law_base : PySem.W.keepIn K (.ref f_law_base) = true)
    {f_live_nodes : Addr} {od_live_nodes an_live_nodes : Option Addr} {sl_live_nodes : Array (Option Value)} {oc_live_nodes kV_live_nodes dc_live_nodes pm_live_nodes cd_live_nodes ct_live_nodes : Value}
    (a_live_nodes : PySem.W.nsIn K mainGlobals "live_nodes" = some (some (.ref f_live_nodes))) (l_live_nodes : K.lookup f_live_nodes = some ⟨oc_live_nodes, od_live_nodes, .func (PySem.W.fnOf "live_nodes" "live_nodes" (defArgs sLiveNodes) (defBody sLiveNodes) (defScope sLiveNodes) .none kV_live_nodes dc_live_nodes pm_live_nodes an_live_nodes cd_live_nodes ct_live_nodes), sl_live_nodes⟩)
    (c_live_nodes : PySem.W.codeIn K cd_live_nodes "live_nodes" = true) (k_live_nodes : PySem.W.keepIn K (.ref f_live_nodes) = true)
    {f_is_integer : Addr} {od_is_integer an_is_integer : Option Addr} {sl_is_integer : Array (Option Value)} {oc_is_integer kV_is_integer dc_is_integer pm_is_integer cd_is_integer ct_is_integer : Value}
    (a_is_integer : PySem.W.nsIn K mainGlobals "is_integer" = some (some (.ref f_is_integer))) (l_is_integer : K.lookup f_is_integer = some ⟨oc_is_integer, od_is_integer, .func (PySem.W.fnOf "is_integer" "is_integer" (defArgs sIsInteger) (defBody sIsInteger) (defScope sIsInteger) .none kV_is_integer dc_is_integer pm_is_integer an_is_integer cd_is_integer ct_is_integer), sl_is_integer⟩)
    (c_is_integer : PySem.W.codeIn K cd_is_integer "is_integer" = true) (k_is_integer : PySem.W.keepIn K (.ref f_is_integer) = true)
    {f_is_between : Addr} {od_is_between an_is_between : Option Addr} {sl_is_between : Array (Option Value)} {oc_is_between kV_is_between dc_is_between pm_is_between cd_is_between ct_is_between : Value}
    (a_is_between : PySem.W.nsIn K mainGlobals "is_between" = some (some (.ref f_is_between))) (l_is_between : K.lookup f_is_between = some ⟨oc_is_between, od_is_between, .func (PySem.W.fnOf "is_between" "is_between" (defArgs sIsBetween) (defBody sIsBetween) (defScope sIsBetween) .none kV_is_between dc_is_between pm_is_between an_is_between cd_is_between ct_is_between), sl_is_between⟩)
    (c_is_between : PySem.W.codeIn K cd_is_between "is_between" = true) (k_is_between : PySem.W.keepIn K (.ref f_is_between) = true)
    {f_is_live : Addr} {od_is_live an_is_live : Option Addr} {sl_is_live : Array (Option Value)} {oc_is_live kV_is_live dc_is_live pm_is_live cd_is_live ct_is_live : Value}
    (a_is_live : PySem.W.nsIn K mainGlobals "is_live" = some (some (.ref f_is_live))) (l_is_live : K.lookup f_is_live = some ⟨oc_is_live, od_is_live, .func (PySem.W.fnOf "is_live" "is_live" (defArgs sIsLive) (defBody sIsLive) (defScope sIsLive) .none kV_is_live dc_is_live pm_is_live an_is_live cd_is_live ct_is_live), sl_is_live⟩)
    (c_is_live : PySem.W.codeIn K cd_is_live "is_live" = true) (k_is_live : PySem.W.keepIn K (.ref f_is_live) = true)
    {f_need_live : Addr} {od_need_live an_need_live : Option Addr} {sl_need_live : Array (Option Value)} {oc_need_live kV_need_live dc_need_live pm_need_live cd_need_live ct_need_live : Value}
    (a_need_live : PySem.W.nsIn K mainGlobals "need_live" = some (some (.ref f_need_live))) (l_need_live : K.lookup f_need_live = some ⟨oc_need_live, od_need_live, .func (PySem.W.fnOf "need_live" "need_live" (defArgs sNeedLive) (defBody sNeedLive) (defScope sNeedLive) .none kV_need_live dc_need_live pm_need_live an_need_live cd_need_live ct_need_live), sl_need_live⟩)
    (c_need_live : PySem.W.codeIn K cd_need_live "need_live" = true) (k_need_live : PySem.W.keepIn K (.ref f_need_live) = true)
    {f_holders : Addr} {od_holders an_holders : Option Addr} {sl_holders : Array (Option Value)} {oc_holders kV_holders dc_holders pm_holders cd_holders ct_holders : Value}
    (a_holders : PySem.W.nsIn K mainGlobals "holders" = some (some (.ref f_holders))) (l_holders : K.lookup f_holders = some ⟨oc_holders, od_holders, .func (PySem.W.fnOf "holders" "holders" (defArgs sHolders) (defBody sHolders) (defScope sHolders) .none kV_holders dc_holders pm_holders an_holders cd_holders ct_holders), sl_holders⟩)
    (c_holders : PySem.W.codeIn K cd_holders "holders" = true) (k_holders : PySem.W.keepIn K (.ref f_holders) = true)
    {f_held_from : Addr} {od_held_from an_held_from : Option Addr} {sl_held_from : Array (Option Value)} {oc_held_from kV_held_from dc_held_from pm_held_from cd_held_from ct_held_from : Value}
    (a_held_from : PySem.W.nsIn K mainGlobals "held_from" = some (some (.ref f_held_from))) (l_held_from : K.lookup f_held_from = some ⟨oc_held_from, od_held_from, .func (PySem.W.fnOf "held_from" "held_from" (defArgs sHeldFrom) (defBody sHeldFrom) (defScope sHeldFrom) .none kV_held_from dc_held_from pm_held_from an_held_from cd_held_from ct_held_from), sl_held_from⟩)
    (c_held_from : PySem.W.codeIn K cd_held_from "held_from" = true) (k_held_from : PySem.W.keepIn K (.ref f_held_from) = true)
    {f_sources : Addr} {od_sources an_sources : Option Addr} {sl_sources : Array (Option Value)} {oc_sources kV_sources dc_sources pm_sources cd_sources ct_sources : Value}
    (a_sources : PySem.W.nsIn K mainGlobals "_sources" = some (some (.ref f_sources))) (l_sources : K.lookup f_sources = some ⟨oc_sources, od_sources, .func (PySem.W.fnOf "_sources" "_sources" (defArgs sSources) (defBody sSources) (defScope sSources) .none kV_sources dc_sources pm_sources an_sources cd_sources ct_sources), sl_sources⟩)
    (c_sources : PySem.W.codeIn K cd_sources "_sources" = true) (k_sources : PySem.W.keepIn K (.ref f_sources) = true)
    {f_path_to : Addr} {od_path_to an_path_to : Option Addr} {sl_path_to : Array (Option Value)} {oc_path_to kV_path_to dc_path_to pm_path_to cd_path_to ct_path_to : Value}
    (a_path_to : PySem.W.nsIn K mainGlobals "_path_to" = some (some (.ref f_path_to))) (l_path_to : K.lookup f_path_to = some ⟨oc_path_to, od_path_to, .func (PySem.W.fnOf "_path_to" "_path_to" (defArgs sPathTo) (defBody sPathTo) (defScope sPathTo) .none kV_path_to dc_path_to pm_path_to an_path_to cd_path_to ct_path_to), sl_path_to⟩)
    (c_path_to : PySem.W.codeIn K cd_path_to "_path_to" = true) (k_path_to : PySem.W.keepIn K (.ref f_path_to) = true)
    {f_reach_certificate : Addr} {od_reach_certificate an_reach_certificate : Option Addr} {sl_reach_certificate : Array (Option Value)} {oc_reach_certificate kV_reach_certificate dc_reach_certificate pm_reach_certificate cd_reach_certificate ct_reach_certificate : Value}
    (a_reach_certificate : PySem.W.nsIn K mainGlobals "reach_certificate" = some (some (.ref f_reach_certificate))) (l_reach_certificate : K.lookup f_reach_certificate = some ⟨oc_reach_certificate, od_reach_certificate, .func (PySem.W.fnOf "reach_certificate" "reach_certificate" (defArgs sReachCertificate) (defBody sReachCertificate) (defScope sReachCertificate) .none kV_reach_certificate dc_reach_certificate pm_reach_certificate an_reach_certificate cd_reach_certificate ct_reach_certificate), sl_reach_certificate⟩)
    (c_reach_certificate : PySem.W.codeIn K cd_reach_certificate "reach_certificate" = true) (k_reach_certificate : PySem.W.keepIn K (.ref f_reach_certificate) = true)
    {f_is_pair : Addr} {od_is_pair an_is_pair : Option Addr} {sl_is_pair : Array (Option Value)} {oc_is_pair kV_is_pair dc_is_pair pm_is_pair cd_is_pair ct_is_pair : Value}
    (a_is_pair : PySem.W.nsIn K mainGlobals "is_pair" = some (some (.ref f_is_pair))) (l_is_pair : K.lookup f_is_pair = some ⟨oc_is_pair, od_is_pair, .func (PySem.W.fnOf "is_pair" "is_pair" (defArgs sIsPair) (defBody sIsPair) (defScope sIsPair) .none kV_is_pair dc_is_pair pm_is_pair an_is_pair cd_is_pair ct_is_pair), sl_is_pair⟩)
    (c_is_pair : PySem.W.codeIn K cd_is_pair "is_pair" = true) (k_is_pair : PySem.W.keepIn K (.ref f_is_pair) = true)
    {f_is_labelled : Addr} {od_is_labelled an_is_labelled : Option Addr} {sl_is_labelled : Array (Option Value)} {oc_is_labelled kV_is_labelled dc_is_labelled pm_is_labelled cd_is_labelled ct_is_labelled : Value}
    (a_is_labelled : PySem.W.nsIn K mainGlobals "is_labelled" = some (some (.ref f_is_labelled))) (l_is_labelled : K.lookup f_is_labelled = some ⟨oc_is_labelled, od_is_labelled, .func (PySem.W.fnOf "is_labelled" "is_labelled" (defArgs sIsLabelled) (defBody sIsLabelled) (defScope sIsLabelled) .none kV_is_labelled dc_is_labelled pm_is_labelled an_is_labelled cd_is_labelled ct_is_labelled), sl_is_labelled⟩)
    (c_is_labelled : PySem.W.codeIn K cd_is_labelled "is_labelled" = true) (k_is_labelled : PySem.W.keepIn K (.ref f_is_labelled) = true)
    {f_check_path : Addr} {od_check_path an_check_path : Option Addr} {sl_check_path : Array (Option Value)} {oc_check_path kV_check_path dc_check_path pm_check_path cd_check_path ct_check_path : Value}
    (a_check_path : PySem.W.nsIn K mainGlobals "_check_path" = some (some (.ref f_check_path))) (l_check_path : K.lookup f_check_path = some ⟨oc_check_path, od_check_path, .func (PySem.W.fnOf "_check_path" "_check_path" (defArgs sCheckPath) (defBody sCheckPath) (defScope sCheckPath) .none kV_check_path dc_check_path pm_check_path an_check_path cd_check_path ct_check_path), sl_check_path⟩)
    (c_check_path : PySem.W.codeIn K cd_check_path "_check_path" = true) (k_check_path : PySem.W.keepIn K (.ref f_check_path) = true)
    {f_check_ascending : Addr} {od_check_ascending an_check_ascending : Option Addr} {sl_check_ascending : Array (Option Value)} {oc_check_ascending kV_check_ascending dc_check_ascending pm_check_ascending cd_check_ascending ct_check_ascending : Value}
    (a_check_ascending : PySem.W.nsIn K mainGlobals "_check_ascending" = some (some (.ref f_check_ascending))) (l_check_ascending : K.lookup f_check_ascending = some ⟨oc_check_ascending, od_check_ascending, .func (PySem.W.fnOf "_check_ascending" "_check_ascending" (defArgs sCheckAscending) (defBody sCheckAscending) (defScope sCheckAscending) .none kV_check_ascending dc_check_ascending pm_check_ascending an_check_ascending cd_check_ascending ct_check_ascending), sl_check_ascending⟩)
    (c_check_ascending : PySem.W.codeIn K cd_check_ascending "_check_ascending" = true) (k_check_ascending : PySem.W.keepIn K (.ref f_check_ascending) = true)
    {f_check_closed : Addr} {od_check_closed an_check_closed : Option Addr} {sl_check_closed : Array (Option Value)} {oc_check_closed kV_check_closed dc_check_closed pm_check_closed cd_check_closed ct_check_closed : Value}
    (a_check_closed : PySem.W.nsIn K mainGlobals "_check_closed" = some (some (.ref f_check_closed))) (l_check_closed : K.lookup f_check_closed = some ⟨oc_check_closed, od_check_closed, .func (PySem.W.fnOf "_check_closed" "_check_closed" (defArgs sCheckClosed) (defBody sCheckClosed) (defScope sCheckClosed) .none kV_check_closed dc_check_closed pm_check_closed an_check_closed cd_check_closed ct_check_closed), sl_check_closed⟩)
    (c_check_closed : PySem.W.codeIn K cd_check_closed "_check_closed" = true) (k_check_closed : PySem.W.keepIn K (.ref f_check_closed) = true)
    {f_check_reach : Addr} {od_check_reach an_check_reach : Option Addr} {sl_check_reach : Array (Option Value)} {oc_check_reach kV_check_reach dc_check_reach pm_check_reach cd_check_reach ct_check_reach : Value}
    (a_check_reach : PySem.W.nsIn K mainGlobals "check_reach" = some (some (.ref f_check_reach))) (l_check_reach : K.lookup f_check_reach = some ⟨oc_check_reach, od_check_reach, .func (PySem.W.fnOf "check_reach" "check_reach" (defArgs sCheckReach) (defBody sCheckReach) (defScope sCheckReach) .none kV_check_reach dc_check_reach pm_check_reach an_check_reach cd_check_reach ct_check_reach), sl_check_reach⟩)
    (c_check_reach : PySem.W.codeIn K cd_check_reach "check_reach" = true) (k_check_reach : PySem.W.keepIn K (.ref f_check_reach) = true)
    {f_law_odd : Addr} {od_law_odd an_law_odd : Option Addr} {sl_law_odd : Array (Option Value)} {oc_law_odd kV_law_odd dc_law_odd pm_law_odd cd_law_odd ct_law_odd : Value}
    (a_law_odd : PySem.W.nsIn K mainGlobals "_law_odd" = some (some (.ref f_law_odd))) (l_law_odd : K.lookup f_law_odd = some ⟨oc_law_odd, od_law_odd, .func (PySem.W.fnOf "_law_odd" "_law_odd" (defArgs sQOdd) (defBody sQOdd) (defScope sQOdd) .none kV_law_odd dc_law_odd pm_law_odd an_law_odd cd_law_odd ct_law_odd), sl_law_odd⟩)
    (c_law_odd : PySem.W.codeIn K cd_law_odd "_law_odd" = true) (k_law_odd : PySem.W.keepIn K (.ref f_law_odd) = true)
    {f_law_missing : Addr} {od_law_missing an_law_missing : Option Addr} {sl_law_missing : Array (Option Value)} {oc_law_missing kV_law_missing dc_law_missing pm_law_missing cd_law_missing ct_law_missing : Value}
    (a_law_missing : PySem.W.nsIn K mainGlobals "_law_missing" = some (some (.ref f_law_missing))) (l_law_missing : K.lookup f_law_missing = some ⟨oc_law_missing, od_law_missing, .func (PySem.W.fnOf "_law_missing" "_law_missing" (defArgs sQMissing) (defBody sQMissing) (defScope sQMissing) .none kV_law_missing dc_law_missing pm_law_missing an_law_missing cd_law_missing ct_law_missing), sl_law_missing⟩)
    (c_law_missing : PySem.W.codeIn K cd_law_missing "_law_missing" = true) (k_law_missing : PySem.W.keepIn K (.ref f_law_missing) = true)
    {f_law_is_node : Addr} {od_law_is_node an_law_is_node : Option Addr} {sl_law_is_node : Array (Option Value)} {oc_law_is_node kV_law_is_node dc_law_is_node pm_law_is_node cd_law_is_node ct_law_is_node : Value}
    (a_law_is_node : PySem.W.nsIn K mainGlobals "_law_is_node" = some (some (.ref f_law_is_node))) (l_law_is_node : K.lookup f_law_is_node = some ⟨oc_law_is_node, od_law_is_node, .func (PySem.W.fnOf "_law_is_node" "_law_is_node" (defArgs sQIsNode) (defBody sQIsNode) (defScope sQIsNode) .none kV_law_is_node dc_law_is_node pm_law_is_node an_law_is_node cd_law_is_node ct_law_is_node), sl_law_is_node⟩)
    (c_law_is_node : PySem.W.codeIn K cd_law_is_node "_law_is_node" = true) (k_law_is_node : PySem.W.keepIn K (.ref f_law_is_node) = true)
    {f_law_loose : Addr} {od_law_loose an_law_loose : Option Addr} {sl_law_loose : Array (Option Value)} {oc_law_loose kV_law_loose dc_law_loose pm_law_loose cd_law_loose ct_law_loose : Value}
    (a_law_loose : PySem.W.nsIn K mainGlobals "_law_loose" = some (some (.ref f_law_loose))) (l_law_loose : K.lookup f_law_loose = some ⟨oc_law_loose, od_law_loose, .func (PySem.W.fnOf "_law_loose" "_law_loose" (defArgs sQLoose) (defBody sQLoose) (defScope sQLoose) .none kV_law_loose dc_law_loose pm_law_loose an_law_loose cd_law_loose ct_law_loose), sl_law_loose⟩)
    (c_law_loose : PySem.W.codeIn K cd_law_loose "_law_loose" = true) (k_law_loose : PySem.W.keepIn K (.ref f_law_loose) = true)
    {f_law_reached : Addr} {od_law_reached an_law_reached : Option Addr} {sl_law_reached : Array (Option Value)} {oc_law_reached kV_law_reached dc_law_reached pm_law_reached cd_law_reached ct_law_reached : Value}
    (a_law_reached : PySem.W.nsIn K mainGlobals "_law_reached" = some (some (.ref f_law_reached))) (l_law_reached : K.lookup f_law_reached = some ⟨oc_law_reached, od_law_reached, .func (PySem.W.fnOf "_law_reached" "_law_reached" (defArgs sQReached) (defBody sQReached) (defScope sQReached) .none kV_law_reached dc_law_reached pm_law_reached an_law_reached cd_law_reached ct_law_reached), sl_law_reached⟩)
    (c_law_reached : PySem.W.codeIn K cd_law_reached "_law_reached" = true) (k_law_reached : PySem.W.keepIn K (.ref f_law_reached) = true)
    {f_law_path_fault : Addr} {od_law_path_fault an_law_path_fault : Option Addr} {sl_law_path_fault : Array (Option Value)} {oc_law_path_fault kV_law_path_fault dc_law_path_fault pm_law_path_fault cd_law_path_fault ct_law_path_fault : Value}
    (a_law_path_fault : PySem.W.nsIn K mainGlobals "_law_path_fault" = some (some (.ref f_law_path_fault))) (l_law_path_fault : K.lookup f_law_path_fault = some ⟨oc_law_path_fault, od_law_path_fault, .func (PySem.W.fnOf "_law_path_fault" "_law_path_fault" (defArgs sQPathFault) (defBody sQPathFault) (defScope sQPathFault) .none kV_law_path_fault dc_law_path_fault pm_law_path_fault an_law_path_fault cd_law_path_fault ct_law_path_fault), sl_law_path_fault⟩)
    (c_law_path_fault : PySem.W.codeIn K cd_law_path_fault "_law_path_fault" = true) (k_law_path_fault : PySem.W.keepIn K (.ref f_law_path_fault) = true)
    {f_law_closed_fault : Addr} {od_law_closed_fault an_law_closed_fault : Option Addr} {sl_law_closed_fault : Array (Option Value)} {oc_law_closed_fault kV_law_closed_fault dc_law_closed_fault pm_law_closed_fault cd_law_closed_fault ct_law_closed_fault : Value}
    (a_law_closed_fault : PySem.W.nsIn K mainGlobals "_law_closed_fault" = some (some (.ref f_law_closed_fault))) (l_law_closed_fault : K.lookup f_law_closed_fault = some ⟨oc_law_closed_fault, od_law_closed_fault, .func (PySem.W.fnOf "_law_closed_fault" "_law_closed_fault" (defArgs sQClosedFault) (defBody sQClosedFault) (defScope sQClosedFault) .none kV_law_closed_fault dc_law_closed_fault pm_law_closed_fault an_law_closed_fault cd_law_closed_fault ct_law_closed_fault), sl_law_closed_fault⟩)
    (c_law_closed_fault : PySem.W.codeIn K cd_law_closed_fault "_law_closed_fault" = true) (k_law_closed_fault : PySem.W.keepIn K (.ref f_law_closed_fault) = true)
    {f_law_certified : Addr} {od_law_certified an_law_certified : Option Addr} {sl_law_certified : Array (Option Value)} {oc_law_certified kV_law_certified dc_law_certified pm_law_certified cd_law_certified ct_law_certified : Value}
    (a_law_certified : PySem.W.nsIn K mainGlobals "_law_certified" = some (some (.ref f_law_certified))) (l_law_certified : K.lookup f_law_certified = some ⟨oc_law_certified, od_law_certified, .func (PySem.W.fnOf "_law_certified" "_law_certified" (defArgs sQCertified) (defBody sQCertified) (defScope sQCertified) .none kV_law_certified dc_law_certified pm_law_certified an_law_certified cd_law_certified ct_law_certified), sl_law_certified⟩)
    (c_law_certified : PySem.W.codeIn K cd_law_certified "_law_certified" = true) (k_law_certified : PySem.W.keepIn K (.ref f_law_certified) = true)
    {f_law : Addr} {od_law an_law : Option Addr} {sl_law : Array (Option Value)} {oc_law kV_law dc_law pm_law cd_law ct_law : Value}
    (a_law : PySem.W.nsIn K mainGlobals "law" = some (some (.ref f_law))) (l_law : K.lookup f_law = some ⟨oc_law, od_law, .func (PySem.W.fnOf "law" "law" (defArgs sLaw) (defBody sLaw) (defScope sLaw) .none kV_law dc_law pm_law an_law cd_law ct_law), sl_law⟩)
    (c_law : PySem.W.codeIn K cd_law "law" = true) (k_law : PySem.W.keepIn K (.ref f_law) = true)
    (z_len : PySem.W.nsIn K mainGlobals "len" = some none)
    (z_LookupError : PySem.W.nsIn K mainGlobals "LookupError" = some none)
    (z_abs : PySem.W.nsIn K mainGlobals "abs" = some none)
    (z_int : PySem.W.nsIn K mainGlobals "int" = some none)
    (z_bool : PySem.W.nsIn K mainGlobals "bool" = some none)
    (z_list : PySem.W.nsIn K mainGlobals "list" = some none)
    (z_tuple : PySem.W.nsIn K mainGlobals "tuple" = some none)
    (z_min : PySem.W.nsIn K mainGlobals "min" = some none)
    (z_max : PySem.W.nsIn K mainGlobals "max" = some none)
    (z_sum : PySem.W.nsIn K mainGlobals "sum" = some none)
    (z_any : PySem.W.nsIn K mainGlobals "any" = some none)
    (z_all : PySem.W.nsIn K mainGlobals "all" = some none)
    (z_repr : PySem.W.nsIn K mainGlobals "repr" = some none)
    (z_sorted : PySem.W.nsIn K mainGlobals "sorted" = some none)
    (z_isinstance : PySem.W.nsIn K mainGlobals "isinstance" = some none)
    (z_range : PySem.W.nsIn K mainGlobals "range" = some none)
    (z_enumerate : PySem.W.nsIn K mainGlobals "enumerate" = some none)
    {cR PR : Addr} (eR : cd_law = .ref cR) (hTb : h.get? PR = some { cls := .none, data := .fields #[] }) (nTb : K.lookup PR = none) (cdR : PySem.W.codeHdIn K cR PR = true) :
    ∃ (fd : FuncData) (cs : List (Addr × Addr)) (sp : Sp), (∀ p ∈ cs, h.get? p.2 = some { cls := .none, data := .fields #[] }) ∧ (∀ p ∈ cs, K.lookup p.2 = none) ∧ (∀ p ∈ cs, PySem.W.CodeHd h p.1 p.2) ∧ (∀ (s : Shared) (u : Value), BindsTo s fd ⟨[u], []⟩ [("_law_script", u)]) ∧
        (∀ (H : Hp) (a : Addr) (ns : List Int), ns.length ≤ 63 → OnlyT (cs.map (·.2)) H → (∀ p ∈ cs, H p.2 = some (.tbl #[])) → SqL K H a (ns.map V.int) → sp [.ref a] H (fun v _ => v = .bl true) E0) ∧
        ∀ base : Heap, K.In base → base.Ns mainGlobals mg → (∀ p ∈ cs, LamX.TabB base mg p.1 p.2) → FnG l.prog w K mg base 10 fa fd ["_law_script"] sp := by
  have e := hfa.symm.trans (PySem.W.mg_of X G a_law)
  cases e
  have T : Txt mg := ⟨PySem.W.mg_none_of X G z_len, PySem.W.mg_none_of X G z_LookupError, PySem.W.mg_none_of X G z_abs, PySem.W.mg_none_of X G z_int, PySem.W.mg_none_of X G z_bool, PySem.W.mg_none_of X G z_list, PySem.W.mg_none_of X G z_tuple, PySem.W.mg_none_of X G z_min, PySem.W.mg_none_of X G z_max, PySem.W.mg_none_of X G z_sum, PySem.W.mg_none_of X G z_any, PySem.W.mg_none_of X G z_all, PySem.W.mg_none_of X G z_repr, PySem.W.mg_none_of X G z_sorted, PySem.W.mg_none_of X G z_isinstance, PySem.W.mg_none_of X G z_range, PySem.W.mg_none_of X G z_enumerate⟩
  have F_law_draw := fun_mk (st := sQDraw) l_law_draw c_law_draw k_law_draw
  have F_law_pen := fun_mk (st := sQPen) l_law_pen c_law_pen k_law_pen
  have F_law_shuffled := fun_mk (st := sQShuffled) l_law_shuffled c_law_shuffled k_law_shuffled
  have F_law_linked := fun_mk (st := sQLinked) l_law_linked c_law_linked k_law_linked
  have F_law_base := fun_mk (st := sQBase) l_law_base c_law_base k_law_base
  have F_live_nodes := fun_mk (st := sLiveNodes) l_live_nodes c_live_nodes k_live_nodes
  have F_is_integer := fun_mk (st := sIsInteger) l_is_integer c_is_integer k_is_integer
  have F_is_between := fun_mk (st := sIsBetween) l_is_between c_is_between k_is_between
  have F_is_live := fun_mk (st := sIsLive) l_is_live c_is_live k_is_live
  have F_need_live := fun_mk (st := sNeedLive) l_need_live c_need_live k_need_live
  have F_holders := fun_mk (st := sHolders) l_holders c_holders k_holders
  have F_held_from := fun_mk (st := sHeldFrom) l_held_from c_held_from k_held_from
  have F_sources := fun_mk (st := sSources) l_sources c_sources k_sources
  have F_path_to := fun_mk (st := sPathTo) l_path_to c_path_to k_path_to
  have F_reach_certificate := fun_mk (st := sReachCertificate) l_reach_certificate c_reach_certificate k_reach_certificate
  have F_is_pair := fun_mk (st := sIsPair) l_is_pair c_is_pair k_is_pair
  have F_is_labelled := fun_mk (st := sIsLabelled) l_is_labelled c_is_labelled k_is_labelled
  have F_check_path := fun_mk (st := sCheckPath) l_check_path c_check_path k_check_path
  have F_check_ascending := fun_mk (st := sCheckAscending) l_check_ascending c_check_ascending k_check_ascending
  have F_check_closed := fun_mk (st := sCheckClosed) l_check_closed c_check_closed k_check_closed
  have F_check_reach := fun_mk (st := sCheckReach) l_check_reach c_check_reach k_check_reach
  have F_law_odd := fun_mk (st := sQOdd) l_law_odd c_law_odd k_law_odd
  have F_law_missing := fun_mk (st := sQMissing) l_law_missing c_law_missing k_law_missing
  have F_law_is_node := fun_mk (st := sQIsNode) l_law_is_node c_law_is_node k_law_is_node
  have F_law_loose := fun_mk (st := sQLoose) l_law_loose c_law_loose k_law_loose
  have F_law_reached := fun_mk (st := sQReached) l_law_reached c_law_reached k_law_reached
  have F_law_path_fault := fun_mk (st := sQPathFault) l_law_path_fault c_law_path_fault k_law_path_fault
  have F_law_closed_fault := fun_mk (st := sQClosedFault) l_law_closed_fault c_law_closed_fault k_law_closed_fault
  have F_law_certified := fun_mk (st := sQCertified) l_law_certified c_law_certified k_law_certified
  have F_law := fun_mk (st := sLaw) l_law c_law k_law
  have eNN : ExB K C_NoNode bmLE "LookupError.__new__" := ⟨xi_NoNode, xo_NoNode, xd_NoNode, xs_NoNode, xe_NoNode, xt_NoNode, xk_NoNode⟩
  have F_iNoNode := fun_mk (st := sNoNodeInit) l_iNoNode c_iNoNode k_iNoNode
  have nNN : NNx K C_HeapError C_MissingError C_NoNode C_NoPosition C_NoReference C_NoSlot C_NotFreed C_UndoError := ⟨⟨xg_NoNode, xG_NoNode, xe_NoNode, xd_NoNode⟩, ⟨xg_NoNode, xG_NoNode, xe_NoNode, xd_NoNode, xc_NoNode, xh_NoNode, xT_NoNode, xm_NoNode⟩, xf_NoNode, q1, q2, q3, q4, q5, q6⟩
  subst eR
  have FC := funC_mk (st := sLaw) l_law c_law k_law
  have DE : LamD K mg "_law_missing" "_law_call" sQMissing f_law_missing _ cd_law_missing ["_law_call", "_law_caught", "error", "_law_marks", "_law_others"] := ⟨funC_mk (st := sQMissing) l_law_missing c_law_missing k_law_missing, PySem.W.mg_of X G a_law_missing, F_law_missing.binds (ps := ["_law_call"]) (fun _ _ _ _ _ _ us hl => match us, hl with | [_], _ => rfl), scQMissing, rfl, Or.inl rfl⟩
  refine ⟨PySem.W.fnOf "law" "law" (defArgs sLaw) (defBody sLaw) (defScope sLaw) .none kV_law dc_law pm_law an_law (.ref cR) ct_law, [(cR, PR)], spLaw K PR, fun p hp => by rw [List.mem_singleton.mp hp]; exact hTb, fun p hp => by rw [List.mem_singleton.mp hp]; exact nTb, fun p hp => by rw [List.mem_singleton.mp hp]; exact PySem.W.codeHd_of_K X cdR, fun s v => .of_eq rfl, fun H a ns _ _ hH hS => ⟨a, ns, rfl, hS, fun p hp => by rw [List.mem_singleton.mp hp]; exact LamX.TabS.nil (hH _ List.mem_cons_self), fun _ => rfl⟩, fun base _ _ TBs => ?_⟩
  have TB := TBs _ List.mem_cons_self
  have kk_need_live := k_need_live
  have kk_reach_certificate := k_reach_certificate
  have kk_check_reach := k_check_reach
  have b_iNoNode := F_iNoNode.binds (ps := ["self", "node"]) fun _ _ _ _ _ _ us hl => match us, hl with | [_, _], _ => rfl
  have n_NoNode : LxB l.prog w K mg base "NoNode" C_NoNode 1 ["self", "node"] (spI1 C_NoNode "node") bmLE "LookupError.__new__" := ⟨⟨_, _, exF_LE⟩, eNN, ⟨f_iNoNode, _, ok_iNN F_iNoNode eNN xn_NoNode, a_iNoNode, t_iNoNode, b_iNoNode⟩, PySem.W.mg_of X G c_NoNode⟩
  have b_law_draw := F_law_draw.binds (ps := ["_law_pen_here", "_law_most_one"]) fun _ _ _ _ _ _ us hl => match us, hl with | [_, _], _ => rfl
  have l_law_draw : Lo l.prog w K mg base "_law_draw" 1 ["_law_pen_here", "_law_most_one"] (spDraw) := ⟨f_law_draw, _, ok_draw F_law_draw T, PySem.W.mg_of X G a_law_draw, k_law_draw, b_law_draw⟩
  have b_law_pen := F_law_pen.binds (ps := ["_law_script"]) fun _ _ _ _ _ _ us hl => match us, hl with | [_], _ => rfl
  have l_law_pen : Lo l.prog w K mg base "_law_pen" 1 ["_law_script"] (spPen K) := ⟨f_law_pen, _, ok_pen F_law_pen T, PySem.W.mg_of X G a_law_pen, k_law_pen, b_law_pen⟩
  have b_law_shuffled := F_law_shuffled.binds (ps := ["_law_pen_here", "_law_row"]) fun _ _ _ _ _ _ us hl => match us, hl with | [_, _], _ => rfl
  have l_law_shuffled : Lo l.prog w K mg base "_law_shuffled" 2 ["_law_pen_here", "_law_row"] (spShuf K) := ⟨f_law_shuffled, _, ok_shuf F_law_shuffled T l_law_draw, PySem.W.mg_of X G a_law_shuffled, k_law_shuffled, b_law_shuffled⟩
  have b_law_linked := F_law_linked.binds (ps := ["_law_pen_here", "_law_labels", "_law_alive"]) fun _ _ _ _ _ _ us hl => match us, hl with | [_, _, _], _ => rfl
  have l_law_linked : Lo l.prog w K mg base "_law_linked" 2 ["_law_pen_here", "_law_labels", "_law_alive"] (spLinked K) := ⟨f_law_linked, _, ok_linked F_law_linked T l_law_draw, PySem.W.mg_of X G a_law_linked, k_law_linked, b_law_linked⟩
  have b_law_base := F_law_base.binds (ps := ["_law_pen_here"]) fun _ _ _ _ _ _ us hl => match us, hl with | [_], _ => rfl
  have l_law_base : Lo l.prog w K mg base "_law_base" 3 ["_law_pen_here"] (spBase K) := ⟨f_law_base, _, ok_base F_law_base T l_law_draw l_law_shuffled l_law_linked, PySem.W.mg_of X G a_law_base, k_law_base, b_law_base⟩
  have b_live_nodes := F_live_nodes.binds (ps := ["heap"]) fun _ _ _ _ _ _ us hl => match us, hl with | [_], _ => rfl
  have l_live_nodes : Lo l.prog w K mg base "live_nodes" 1 ["heap"] (spLive K) := ⟨f_live_nodes, _, ok_live F_live_nodes T, PySem.W.mg_of X G a_live_nodes, k_live_nodes, b_live_nodes⟩
  have b_is_integer := F_is_integer.binds (ps := ["value"]) fun _ _ _ _ _ _ us hl => match us, hl with | [_], _ => rfl
  have l_is_integer : Lo l.prog w K mg base "is_integer" 1 ["value"] (spIsIntD K) := ⟨f_is_integer, _, ok_isIntD F_is_integer T, PySem.W.mg_of X G a_is_integer, k_is_integer, b_is_integer⟩
  have b_is_between := F_is_between.binds (ps := ["value", "low", "high"]) fun _ _ _ _ _ _ us hl => match us, hl with | [_, _, _], _ => rfl
  have l_is_between : Lo l.prog w K mg base "is_between" 2 ["value", "low", "high"] (spBtw K) := ⟨f_is_between, _, ok_btw F_is_between T l_is_integer, PySem.W.mg_of X G a_is_between, k_is_between, b_is_between⟩
  have b_is_live := F_is_live.binds (ps := ["heap", "value"]) fun _ _ _ _ _ _ us hl => match us, hl with | [_, _], _ => rfl
  have l_is_live : Lo l.prog w K mg base "is_live" 3 ["heap", "value"] (spIsLive K) := ⟨f_is_live, _, ok_isLive F_is_live T l_is_between, PySem.W.mg_of X G a_is_live, k_is_live, b_is_live⟩
  have b_need_live := F_need_live.binds (ps := ["heap", "node"]) fun _ _ _ _ _ _ us hl => match us, hl with | [_, _], _ => rfl
  have l_need_live : Lo l.prog w K mg base "need_live" 4 ["heap", "node"] (spNeedL K) := ⟨f_need_live, _, ok_needL F_need_live T l_is_live, PySem.W.mg_of X G a_need_live, k_need_live, b_need_live⟩
  have e_need_live : LoX l.prog w K mg base "need_live" 4 ["heap", "node"] (spNeedLX K C_NoNode) := ⟨f_need_live, _, ok_needLX F_need_live T l_is_live n_NoNode, PySem.W.mg_of X G a_need_live, kk_need_live, b_need_live⟩
  have b_holders := F_holders.binds (ps := ["heap", "node"]) fun _ _ _ _ _ _ us hl => match us, hl with | [_, _], _ => rfl
  have l_holders : Lo l.prog w K mg base "holders" 5 ["heap", "node"] (spHold K) := ⟨f_holders, _, ok_hold (C := C_NoNode) F_holders T l_need_live l_live_nodes, PySem.W.mg_of X G a_holders, k_holders, b_holders⟩
  have b_held_from := F_held_from.binds (ps := ["heap", "starts"]) fun _ _ _ _ _ _ us hl => match us, hl with | [_, _], _ => rfl
  have l_held_from : Lo l.prog w K mg base "held_from" 1 ["heap", "starts"] (spHeld K) := ⟨f_held_from, _, ok_held F_held_from T, PySem.W.mg_of X G a_held_from, k_held_from, b_held_from⟩
  have b_sources := F_sources.binds (ps := ["heap"]) fun _ _ _ _ _ _ us hl => match us, hl with | [_], _ => rfl
  have l_sources : Lo l.prog w K mg base "_sources" 2 ["heap"] (spSrcs K) := ⟨f_sources, _, ok_srcs F_sources T l_live_nodes l_held_from, PySem.W.mg_of X G a_sources, k_sources, b_sources⟩
  have b_path_to := F_path_to.binds (ps := ["node", "sources"]) fun _ _ _ _ _ _ us hl => match us, hl with | [_, _], _ => rfl
  have l_path_to : Lo l.prog w K mg base "_path_to" 1 ["node", "sources"] (spPath K) := ⟨f_path_to, _, ok_path F_path_to T, PySem.W.mg_of X G a_path_to, k_path_to, b_path_to⟩
  have b_reach_certificate := F_reach_certificate.binds (ps := ["heap", "node"]) fun _ _ _ _ _ _ us hl => match us, hl with | [_, _], _ => rfl
  have l_reach_certificate : Lo l.prog w K mg base "reach_certificate" 5 ["heap", "node"] (spCert K) := ⟨f_reach_certificate, _, ok_cert F_reach_certificate T l_need_live l_live_nodes l_sources l_path_to, PySem.W.mg_of X G a_reach_certificate, k_reach_certificate, b_reach_certificate⟩
  have k_reach_certificate : Lkw l.prog w K mg base "reach_certificate" 5 ["heap", "node"] ["node", "heap"] (gRev 2) (spCert K) := ⟨f_reach_certificate, _, gRev 2, ok_cert F_reach_certificate T l_need_live l_live_nodes l_sources l_path_to, PySem.W.mg_of X G a_reach_certificate, k_reach_certificate, ⟨fun s ws _ hl => by have h := gRev_to (n := 2) hl (by decide); obtain ⟨_, _, rfl⟩ := len2 h; exact .of_eq rfl, gRev_rel⟩⟩
  have e_reach_certificate : LoX l.prog w K mg base "reach_certificate" 5 ["heap", "node"] (spCertX K C_NoNode) := ⟨f_reach_certificate, _, ok_certX F_reach_certificate T e_need_live l_live_nodes l_sources l_path_to, PySem.W.mg_of X G a_reach_certificate, kk_reach_certificate, b_reach_certificate⟩
  have b_is_pair := F_is_pair.binds (ps := ["value"]) fun _ _ _ _ _ _ us hl => match us, hl with | [_], _ => rfl
  have l_is_pair : Lo l.prog w K mg base "is_pair" 1 ["value"] (spPair K) := ⟨f_is_pair, _, ok_pair F_is_pair T, PySem.W.mg_of X G a_is_pair, k_is_pair, b_is_pair⟩
  have b_is_labelled := F_is_labelled.binds (ps := ["value", "labels"]) fun _ _ _ _ _ _ us hl => match us, hl with | [_, _], _ => rfl
  have l_is_labelled : Lo l.prog w K mg base "is_labelled" 2 ["value", "labels"] (spLab K) := ⟨f_is_labelled, _, ok_lab F_is_labelled T l_is_pair, PySem.W.mg_of X G a_is_labelled, k_is_labelled, b_is_labelled⟩
  have b_check_path := F_check_path.binds (ps := ["heap", "node", "path"]) fun _ _ _ _ _ _ us hl => match us, hl with | [_, _, _], _ => rfl
  have l_check_path : Lo l.prog w K mg base "_check_path" 4 ["heap", "node", "path"] (spChkPath K) := ⟨f_check_path, _, ok_chkPath (C := C_NoNode) F_check_path T l_is_live, PySem.W.mg_of X G a_check_path, k_check_path, b_check_path⟩
  have b_check_ascending := F_check_ascending.binds (ps := ["heap", "entries"]) fun _ _ _ _ _ _ us hl => match us, hl with | [_, _], _ => rfl
  have l_check_ascending : Lo l.prog w K mg base "_check_ascending" 4 ["heap", "entries"] (spAsc K) := ⟨f_check_ascending, _, ok_asc F_check_ascending T l_is_live, PySem.W.mg_of X G a_check_ascending, k_check_ascending, b_check_ascending⟩
  have b_check_closed := F_check_closed.binds (ps := ["heap", "entries"]) fun _ _ _ _ _ _ us hl => match us, hl with | [_, _], _ => rfl
  have l_check_closed : Lo l.prog w K mg base "_check_closed" 6 ["heap", "entries"] (spClosed K) := ⟨f_check_closed, _, ok_closed F_check_closed T l_holders, PySem.W.mg_of X G a_check_closed, k_check_closed, b_check_closed⟩
  have b_check_reach := F_check_reach.binds (ps := ["heap", "node", "value"]) fun _ _ _ _ _ _ us hl => match us, hl with | [_, _, _], _ => rfl
  have l_check_reach : Lo l.prog w K mg base "check_reach" 7 ["heap", "node", "value"] (spChk K) := ⟨f_check_reach, _, ok_chk (C := C_NoNode) F_check_reach T l_need_live l_is_labelled l_check_path l_check_ascending l_check_closed, PySem.W.mg_of X G a_check_reach, k_check_reach, b_check_reach⟩
  have k_check_reach : Lkw l.prog w K mg base "check_reach" 7 ["heap", "node", "value"] ["value", "node", "heap"] (gRev 3) (spChk K) := ⟨f_check_reach, _, gRev 3, ok_chk (C := C_NoNode) F_check_reach T l_need_live l_is_labelled l_check_path l_check_ascending l_check_closed, PySem.W.mg_of X G a_check_reach, k_check_reach, ⟨fun s ws _ hl => by have h := gRev_to (n := 3) hl (by decide); obtain ⟨_, _, _, rfl⟩ := len3 h; exact .of_eq rfl, gRev_rel⟩⟩
  have e_check_reach : LoX l.prog w K mg base "check_reach" 7 ["heap", "node", "value"] (spChkX K C_NoNode) := ⟨f_check_reach, _, ok_chkX F_check_reach T e_need_live l_is_labelled l_check_path l_check_ascending l_check_closed, PySem.W.mg_of X G a_check_reach, kk_check_reach, b_check_reach⟩
  have b_law_odd := F_law_odd.binds (ps := ["_law_pen_here", "_law_size"]) fun _ _ _ _ _ _ us hl => match us, hl with | [_, _], _ => rfl
  have l_law_odd : Lo l.prog w K mg base "_law_odd" 2 ["_law_pen_here", "_law_size"] (spOdd K) := ⟨f_law_odd, _, ok_odd F_law_odd T l_law_draw, PySem.W.mg_of X G a_law_odd, k_law_odd, b_law_odd⟩
  have b_law_is_node := F_law_is_node.binds (ps := ["_law_base_here", "_law_thing"]) fun _ _ _ _ _ _ us hl => match us, hl with | [_, _], _ => rfl
  have l_law_is_node : Lo l.prog w K mg base "_law_is_node" 1 ["_law_base_here", "_law_thing"] (spIsNode K) := ⟨f_law_is_node, _, ok_isNode F_law_is_node T, PySem.W.mg_of X G a_law_is_node, k_law_is_node, b_law_is_node⟩
  have b_law_loose := F_law_loose.binds (ps := ["_law_pen_here", "_law_base_here"]) fun _ _ _ _ _ _ us hl => match us, hl with | [_, _], _ => rfl
  have l_law_loose : Lo l.prog w K mg base "_law_loose" 2 ["_law_pen_here", "_law_base_here"] (spLoose K) := ⟨f_law_loose, _, ok_loose F_law_loose T l_law_draw, PySem.W.mg_of X G a_law_loose, k_law_loose, b_law_loose⟩
  have b_law_reached := F_law_reached.binds (ps := ["_law_base_here"]) fun _ _ _ _ _ _ us hl => match us, hl with | [_], _ => rfl
  have l_law_reached : Lo l.prog w K mg base "_law_reached" 1 ["_law_base_here"] (spReached K) := ⟨f_law_reached, _, ok_reached F_law_reached T, PySem.W.mg_of X G a_law_reached, k_law_reached, b_law_reached⟩
  have b_law_path_fault := F_law_path_fault.binds (ps := ["_law_base_here", "_law_spot", "_law_path"]) fun _ _ _ _ _ _ us hl => match us, hl with | [_, _, _], _ => rfl
  have l_law_path_fault : Lo l.prog w K mg base "_law_path_fault" 2 ["_law_base_here", "_law_spot", "_law_path"] (spPF K) := ⟨f_law_path_fault, _, ok_pf F_law_path_fault T l_law_is_node, PySem.W.mg_of X G a_law_path_fault, k_law_path_fault, b_law_path_fault⟩
  have b_law_closed_fault := F_law_closed_fault.binds (ps := ["_law_base_here", "_law_spot", "_law_some"]) fun _ _ _ _ _ _ us hl => match us, hl with | [_, _, _], _ => rfl
  have l_law_closed_fault : Lo l.prog w K mg base "_law_closed_fault" 2 ["_law_base_here", "_law_spot", "_law_some"] (spCF K) := ⟨f_law_closed_fault, _, ok_cf F_law_closed_fault T l_law_is_node, PySem.W.mg_of X G a_law_closed_fault, k_law_closed_fault, b_law_closed_fault⟩
  have b_law_certified := F_law_certified.binds (ps := ["_law_base_here", "_law_spot", "_law_reached_here"]) fun _ _ _ _ _ _ us hl => match us, hl with | [_, _, _], _ => rfl
  have l_law_certified : Lk l.prog w K mg base "_law_certified" 9 ["_law_base_here", "_law_spot", "_law_reached_here"] (spCtd K) := ⟨f_law_certified, _, ok_ctd F_law_certified T l_reach_certificate k_reach_certificate l_check_reach k_check_reach l_law_path_fault l_law_closed_fault, PySem.W.mg_of X G a_law_certified, k_law_certified, b_law_certified⟩
  exact ok_law FC T TB DE (PySem.W.mg_of X G c_HeapError) (PySem.W.mg_of X G c_MissingError) (PySem.W.mg_of X G c_NoNode) (PySem.W.mg_of X G c_NoPosition) (PySem.W.mg_of X G c_NoReference) (PySem.W.mg_of X G c_NoSlot) (PySem.W.mg_of X G c_NotFreed) (PySem.W.mg_of X G c_UndoError) nNN l_law_pen l_law_draw l_law_base l_law_loose l_law_reached l_law_certified l_law_odd l_reach_certificate e_reach_certificate e_check_reach
end SF
open PySem PySem.W PyProof.Rows in
set_option maxRecDepth 100000 in
set_option maxHeartbeats 0 in
theorem PySem.Challenge.cw_slotfall_k07_reach_certificates_holds : PySem.Challenge.rw_slotfall_k07_reach_certificates.Holds := by
  w_on; o_law; k_head; (case hw => w_witness2)
  k_fill
  refine SF.walkGT (l := PySem.Challenge.rw_slotfall_k07_reach_certificates) (n := 63) (k := 10) (x := "_law_script") rfl (by decide) rfl ⟨rfl, by decide, by decide⟩ (fun w h Y => PySem.W.km_in_of Y) ?F
  case F =>
    intro w mg fa h Y KX G hmg
    refine' SF.all_mk KX G hmg ?c_HeapError ?c_MissingError ?c_NoNode ?c_NoPosition ?c_NoReference ?c_NoSlot ?c_NotFreed ?c_UndoError ?xi_NoNode ?xo_NoNode ?xd_NoNode ?xs_NoNode ?xe_NoNode ?xt_NoNode ?xk_NoNode ?xn_NoNode ?xg_NoNode ?xG_NoNode ?xf_NoNode ?xc_NoNode ?xh_NoNode ?xT_NoNode ?xm_NoNode ?a_iNoNode ?t_iNoNode ?l_iNoNode ?c_iNoNode ?k_iNoNode ?q1 ?q2 ?q3 ?q4 ?q5 ?q6 ?a_law_draw ?l_law_draw ?c_law_draw ?k_law_draw ?a_law_pen ?l_law_pen ?c_law_pen ?k_law_pen ?a_law_shuffled ?l_law_shuffled ?c_law_shuffled ?k_law_shuffled ?a_law_linked ?l_law_linked ?c_law_linked ?k_law_linked ?a_law_base ?l_law_base ?c_law_base ?k_law_base ?a_live_nodes ?l_live_nodes ?c_live_nodes ?k_live_nodes ?a_is_integer ?l_is_integer ?c_is_integer ?k_is_integer ?a_is_between ?l_is_between ?c_is_between ?k_is_between ?a_is_live ?l_is_live ?c_is_live ?k_is_live ?a_need_live ?l_need_live ?c_need_live ?k_need_live ?a_holders ?l_holders ?c_holders ?k_holders ?a_held_from ?l_held_from ?c_held_from ?k_held_from ?a_sources ?l_sources ?c_sources ?k_sources ?a_path_to ?l_path_to ?c_path_to ?k_path_to ?a_reach_certificate ?l_reach_certificate ?c_reach_certificate ?k_reach_certificate ?a_is_pair ?l_is_pair ?c_is_pair ?k_is_pair ?a_is_labelled ?l_is_labelled ?c_is_labelled ?k_is_labelled ?a_check_path ?l_check_path ?c_check_path ?k_check_path ?a_check_ascending ?l_check_ascending ?c_check_ascending ?k_check_ascending ?a_check_closed ?l_check_closed ?c_check_closed ?k_check_closed ?a_check_reach ?l_check_reach ?c_check_reach ?k_check_reach ?a_law_odd ?l_law_odd ?c_law_odd ?k_law_odd ?a_law_missing ?l_law_missing ?c_law_missing ?k_law_missing ?a_law_is_node ?l_law_is_node ?c_law_is_node ?k_law_is_node ?a_law_loose ?l_law_loose ?c_law_loose ?k_law_loose ?a_law_reached ?l_law_reached ?c_law_reached ?k_law_reached ?a_law_path_fault ?l_law_path_fault ?c_law_path_fault ?k_law_path_fault ?a_law_closed_fault ?l_law_closed_fault ?c_law_closed_fault ?k_law_closed_fault ?a_law_certified ?l_law_certified ?c_law_certified ?k_law_certified ?a_law ?l_law ?c_law ?k_law ?z_len ?z_LookupError ?z_abs ?z_int ?z_bool ?z_list ?z_tuple ?z_min ?z_max ?z_sum ?z_any ?z_all ?z_repr ?z_sorted ?z_isinstance ?z_range ?z_enumerate ?eR ?hTb ?nTb ?cdR
    (case c_HeapError => k_is)
    (case c_MissingError => k_is)
    (case c_NoNode => k_is)
    (case c_NoPosition => k_is)
    (case c_NoReference => k_is)
    (case c_NoSlot => k_is)
    (case c_NotFreed => k_is)
    (case c_UndoError => k_is)
    (case xi_NoNode => rfl)
    (case xo_NoNode => rfl)
    (case xd_NoNode => k_is)
    (case xs_NoNode => k_is)
    (case xe_NoNode => k_is)
    (case xt_NoNode => k_is)
    (case xk_NoNode => k_is)
    (case xn_NoNode => k_is)
    (case xg_NoNode => k_is)
    (case xG_NoNode => k_is)
    (case xf_NoNode => k_is)
    (case xc_NoNode => k_is)
    (case xh_NoNode => k_is)
    (case xT_NoNode => k_is)
    (case xm_NoNode => k_is)
    (case a_iNoNode => k_is)
    (case t_iNoNode => k_is)
    (case l_iNoNode => k_is)
    (case c_iNoNode => k_is)
    (case k_iNoNode => k_is)
    (case q1 => rfl)
    (case q2 => rfl)
    (case q3 => rfl)
    (case q4 => rfl)
    (case q5 => rfl)
    (case q6 => rfl)
    (case a_law_draw => k_is)
    (case l_law_draw => k_is)
    (case c_law_draw => k_is)
    (case k_law_draw => k_is)
    (case a_law_pen => k_is)
    (case l_law_pen => k_is)
    (case c_law_pen => k_is)
    (case k_law_pen => k_is)
    (case a_law_shuffled => k_is)
    (case l_law_shuffled => k_is)
    (case c_law_shuffled => k_is)
    (case k_law_shuffled => k_is)
    (case a_law_linked => k_is)
    (case l_law_linked => k_is)
    (case c_law_linked => k_is)
    (case k_law_linked => k_is)
    (case a_law_base => k_is)
    (case l_law_base => k_is)
    (case c_law_base => k_is)
    (case k_law_base => k_is)
    (case a_live_nodes => k_is)
    (case l_live_nodes => k_is)
    (case c_live_nodes => k_is)
    (case k_live_nodes => k_is)
    (case a_is_integer => k_is)
    (case l_is_integer => k_is)
    (case c_is_integer => k_is)
    (case k_is_integer => k_is)
    (case a_is_between => k_is)
    (case l_is_between => k_is)
    (case c_is_between => k_is)
    (case k_is_between => k_is)
    (case a_is_live => k_is)
    (case l_is_live => k_is)
    (case c_is_live => k_is)
    (case k_is_live => k_is)
    (case a_need_live => k_is)
    (case l_need_live => k_is)
    (case c_need_live => k_is)
    (case k_need_live => k_is)
    (case a_holders => k_is)
    (case l_holders => k_is)
    (case c_holders => k_is)
    (case k_holders => k_is)
    (case a_held_from => k_is)
    (case l_held_from => k_is)
    (case c_held_from => k_is)
    (case k_held_from => k_is)
    (case a_sources => k_is)
    (case l_sources => k_is)
    (case c_sources => k_is)
    (case k_sources => k_is)
    (case a_path_to => k_is)
    (case l_path_to => k_is)
    (case c_path_to => k_is)
    (case k_path_to => k_is)
    (case a_reach_certificate => k_is)
    (case l_reach_certificate => k_is)
    (case c_reach_certificate => k_is)
    (case k_reach_certificate => k_is)
    (case a_is_pair => k_is)
    (case l_is_pair => k_is)
    (case c_is_pair => k_is)
    (case k_is_pair => k_is)
    (case a_is_labelled => k_is)
    (case l_is_labelled => k_is)
    (case c_is_labelled => k_is)
    (case k_is_labelled => k_is)
    (case a_check_path => k_is)
    (case l_check_path => k_is)
    (case c_check_path => k_is)
    (case k_check_path => k_is)
    (case a_check_ascending => k_is)
    (case l_check_ascending => k_is)
    (case c_check_ascending => k_is)
    (case k_check_ascending => k_is)
    (case a_check_closed => k_is)
    (case l_check_closed => k_is)
    (case c_check_closed => k_is)
    (case k_check_closed => k_is)
    (case a_check_reach => k_is)
    (case l_check_reach => k_is)
    (case c_check_reach => k_is)
    (case k_check_reach => k_is)
    (case a_law_odd => k_is)
    (case l_law_odd => k_is)
    (case c_law_odd => k_is)
    (case k_law_odd => k_is)
    (case a_law_missing => k_is)
    (case l_law_missing => k_is)
    (case c_law_missing => k_is)
    (case k_law_missing => k_is)
    (case a_law_is_node => k_is)
    (case l_law_is_node => k_is)
    (case c_law_is_node => k_is)
    (case k_law_is_node => k_is)
    (case a_law_loose => k_is)
    (case l_law_loose => k_is)
    (case c_law_loose => k_is)
    (case k_law_loose => k_is)
    (case a_law_reached => k_is)
    (case l_law_reached => k_is)
    (case c_law_reached => k_is)
    (case k_law_reached => k_is)
    (case a_law_path_fault => k_is)
    (case l_law_path_fault => k_is)
    (case c_law_path_fault => k_is)
    (case k_law_path_fault => k_is)
    (case a_law_closed_fault => k_is)
    (case l_law_closed_fault => k_is)
    (case c_law_closed_fault => k_is)
    (case k_law_closed_fault => k_is)
    (case a_law_certified => k_is)
    (case l_law_certified => k_is)
    (case c_law_certified => k_is)
    (case k_law_certified => k_is)
    (case a_law => k_is)
    (case l_law => k_is)
    (case c_law => k_is)
    (case k_law => k_is)
    (case z_len => k_is)
    (case z_LookupError => k_is)
    (case z_abs => k_is)
    (case z_int => k_is)
    (case z_bool => k_is)
    (case z_list => k_is)
    (case z_tuple => k_is)
    (case z_min => k_is)
    (case z_max => k_is)
    (case z_sum => k_is)
    (case z_any => k_is)
    (case z_all => k_is)
    (case z_repr => k_is)
    (case z_sorted => k_is)
    (case z_isinstance => k_is)
    (case z_range => k_is)
    (case z_enumerate => k_is)
    (case eR => rfl)
    (case hTb => exact PySem.W.km_tabs_of Y _ List.mem_cons_self)
    (case nTb => rfl)
    (case cdR => rfl)

