import PyProof.Rows.All
import Wide.All
import OpenK.AllK
import Wide.FinOn
import HandS.ForMost
import HandS.Conv
import HandS.More
import HandS.Wide
import HandS.Style
import HandS.Flow
import HandS.EndBits
import HandS.Walk
import HandS.Steps
import KE.GoesEnum
import KE.GoesMore
import PyProof.ReprRoads
import PyProof.ReprLen
import HandS.DictComp
import HandS.SortInts
import HandS.TupAny
import HandS.SortKw
import KE.KMinBuiltin
import HandS.IsInst
import HandS.TryOnly
import KE.KMathG
import HandS.Gcd
import PySem.Challenge.RW_slotfall_k69_collect
set_option Elab.async false
set_option linter.all false
set_option maxRecDepth 100000
set_option maxHeartbeats 4000000
set_option autoImplicit false
namespace SF
open PySem PySem.Spec PyProof.Rows L2

/-! ### promises that may lean on an empty list of guards -/
structure FnG (P : Program) (w : World) (K : PySem.W.Frag) (mg : Str → Option Value) (base : Heap) (k : Nat) (f : Addr) (fd : FuncData) (ps : List Str) (sp : Sp) : Prop where
  len : ∀ vs H Q E, sp vs H Q E → vs.length = ps.length
  run : ∀ (A : Around) (outer : List Env) (s : Shared) (H : Hp) (args : Args) (us : List Value) (vs : List V) (Q : VK) (E : XK),
    A.guards = some [] → Room k A → Env0 P w K mg base A outer s H → BindsTo s fd args (ps.zip us) → Vals vs us → sp vs H Q E →
    codeAny (model P w) A (.call (.ref f) args) (CR CX0 outer P w H s Q E) s

section
variable {P : Program} {w : World} {K : PySem.W.Frag} {mg : Str → Option Value} {base : Heap}
theorem FnG.of {k : Nat} {f : Addr} {fd : FuncData} {ps : List Str} {sp : Sp} (F : FnOk P w K mg base CX0 k f fd ps sp) : FnG P w K mg base k f fd ps sp :=
  ⟨F.len, fun A o s H a us vs Q E _ hr => F.run A o s H a us vs Q E hr⟩
theorem fnG_of {k : Nat} {f : Addr} {name qual : Str} {params : Arguments} {body : List Stmt} {scope : Scope} {kV doc pm cdv ct oc : Value} {an od : Option Addr}
    {osl : Array (Option Value)} {N ps : List Str} {sp : Sp}
    (lk : K.lookup f = some ⟨oc, od, .func (PySem.W.fnOf name qual params body scope .none kV doc pm an cdv ct), osl⟩)
    (hcd : PySem.W.codeIn K cdv qual = true) (S : FnScope N ps scope)
    (len : ∀ vs H Q E, sp vs H Q E → vs.length = ps.length)
    (hbody : ∀ (A : Around) (outer : List Env) (s : Shared) (H : Hp) (vs : List V) (Q : VK) (E : XK),
      (A.deeper (envOfC qual scope s.heap.objs.size f cdv)).guards = some [] →
      Room k (A.deeper (envOfC qual scope s.heap.objs.size f cdv)) → sp vs H Q E →
      ∃ t, PSs (cxOf CX0 P w K mg base N qual scope f cdv A outer s H E) body t ∧ t { nx := fun _ H' => Q .non H', rt := Q } (start N vs) H) :
    FnG P w K mg base (k + 1) f (PySem.W.fnOf name qual params body scope .none kV doc pm an cdv ct) ps sp := by
  constructor
  · exact len
  intro A outer s H args us vs Q E hgd hr e0 hb r hsp
  have hl := len _ _ _ _ hsp
  have inK : K.In s.heap := e0.mod.kin.keeps fun b o e => (e0.bs b o e).1
  have lim : s.heap.NoLimit := e0.mod.nolimit.keeps fun b o e => (e0.bs b o e).1
  have kinds : ∀ y ∈ ps.zip us, scope.names.lookup y.1 = some .local ∨
      (scope.names.lookup y.1 = some .cell ∧ ((cellsFrom (s.heap.objs.size + 1) scope.names []).lookup y.1).isSome = true) := by
    rintro ⟨n, v⟩ hy
    rcases S.par n (List.of_mem_zip hy).1 with q | q
    · exact Or.inl q
    · exact Or.inr ⟨q, PySem.W.cellsFrom_some _ _ _ (.inl q)⟩
  have code := PySem.W.codeRec_of inK hcd
  refine codeAny_call_function hr.depth (inK _ _ lk) rfl S.co S.gen rfl code (hb _ _ _ _ ?_)
  refine wpAny_newFunctionEnv_cells S.kind kinds fun env he s1 x => ?_
  subst he
  refine ⟨lim.keeps x.toInCall.keep, codeAny_func ?_⟩
  obtain ⟨t, ht, hq⟩ := hbody A outer s H vs Q E hgd (hr.deeper _) hsp
  have I := inv_start (CX := CX0) (E := E) (N := N) S hr.hd e0 hl r x
  refine wpAny_mono (ht.run [] s1 (start N vs) H _ I hq) (fun fl s' hs => ?_) fun e s' hs => hs
  cases fl with
  | ret u =>
    obtain ⟨v, σ', H', J, rv, q⟩ := hs
    exact ⟨v, H', J.os, J.bare, J.base, J.hok, rv, q⟩
  | next =>
    obtain ⟨σ', H', J, q⟩ := hs
    exact ⟨V.non, H', J.os, J.bare, J.base, J.hok, rfl, q⟩
  | brk =>
    obtain ⟨_, _, _, q⟩ := hs
    exact q.elim
  | cont =>
    obtain ⟨_, _, _, q⟩ := hs
    exact q.elim
theorem FnG.body {x qual : Str} {st : Stmt} {f : Addr} {fd : FuncData} {N ps : List Str} {k : Nat} {sp : Sp} (F : Fun K x qual st f fd) (S : FnScope N ps (defScope st))
    (len : ∀ vs H Q E, sp vs H Q E → vs.length = ps.length)
    (hbody : ∀ (cdv : Value) (A : Around) (outer : List Env) (s : Shared) (H : Hp) (vs : List V) (Q : VK) (E : XK),
      (A.deeper (envOfC qual (defScope st) s.heap.objs.size f cdv)).guards = some [] → Room k (A.deeper (envOfC qual (defScope st) s.heap.objs.size f cdv)) → sp vs H Q E →
      ∃ t, PSs (cxOf CX0 P w K mg base N qual (defScope st) f cdv A outer s H E).nox (defBody st) t ∧ t { nx := fun _ H' => Q .non H', rt := Q } (start N vs) H) :
    FnG P w K mg base (k + 1) f fd ps sp := by
  obtain ⟨oc, od, kV, doc, pm, an, cdv, ct, osl, rfl, lk, hcd⟩ := F.ex
  refine fnG_of lk hcd S len fun A outer s H vs Q E hgd hr hsp => ?_
  obtain ⟨t, h, q⟩ := hbody cdv A outer s H vs Q E hgd hr hsp
  exact ⟨t, h.nox, q⟩
end

/-! ### links to a callee: its promise, its place, its binding -/
structure Lk (P : Program) (w : World) (K : PySem.W.Frag) (mg : Str → Option Value) (base : Heap) (x : Str) (k : Nat) (ps : List Str) (sp : Sp) : Prop where
  ex : ∃ (f : Addr) (fd : FuncData), FnG P w K mg base k f fd ps sp ∧ mg x = some (.ref f) ∧ PySem.W.keepIn K (.ref f) = true ∧ Binds K fd ps []
/-- a callee that asks nothing of the guards -/
structure Lo (P : Program) (w : World) (K : PySem.W.Frag) (mg : Str → Option Value) (base : Heap) (x : Str) (k : Nat) (ps : List Str) (sp : Sp) : Prop where
  ex : ∃ (f : Addr) (fd : FuncData), FnOk P w K mg base CX0 k f fd ps sp ∧ mg x = some (.ref f) ∧ PySem.W.keepIn K (.ref f) = true ∧ Binds K fd ps []
theorem Lo.lk {P : Program} {w : World} {K : PySem.W.Frag} {mg : Str → Option Value} {base : Heap} {x : Str} {k : Nat} {ps : List Str} {sp : Sp} (L : Lo P w K mg base x k ps sp) : Lk P w K mg base x k ps sp := by
  obtain ⟨f, fd, a, b, c, d⟩ := L.ex
  exact ⟨f, fd, .of a, b, c, d⟩
section
variable {X : Cx} {k : Nat} {ps : List Str} {sp : Sp} {x : Str} {p pos : Pos} {e : Expr} {es : List Expr} {t tk : TA} {kws : List Keyword}
/-- what the callee's run is -/
theorem runG {pins : List (Addr × Obj)} {σ : L2.St} {H : Hp} {s : Shared} {Q : VK} {f : Addr} {fd : FuncData} {us : List Value} {kw : List (Str × Value)} {vs : List V} {ws : List Value}
    (F : FnG X.prog X.w X.K X.mg X.base k f fd ps sp) (hgd : X.A.guards = some []) (hr : Room k X.A) (hb : BindsTo s fd ⟨us, kw⟩ (ps.zip ws)) (I : Inv X pins σ H s) (r : Vals vs ws) (h : sp vs H Q E0) :
    wpAny (model X.prog X.w) X.A (call (.ref f) us kw) (EP X pins σ Q) X.xe s := by
  refine wpAny_call (codeAny_mono (F.run X.A X.stack s H ⟨us, kw⟩ ws vs Q E0 hgd hr I.env0 hb r h) fun r s' hq => ?_)
  match r, hq with
  | .ok (.ret u), hq => exact I.after hq
  | .ok .next, hq => exact hq.elim
  | .ok .brk, hq => exact hq.elim
  | .ok .cont, hq => exact hq.elim
  | .error e, hq => exact False.elim hq
theorem run0 {pins : List (Addr × Obj)} {σ : L2.St} {H : Hp} {s : Shared} {Q : VK} {f : Addr} {fd : FuncData} {us : List Value} {kw : List (Str × Value)} {vs : List V} {ws : List Value}
    (F : FnOk X.prog X.w X.K X.mg X.base CX0 k f fd ps sp) (hr : Room k X.A) (hb : BindsTo s fd ⟨us, kw⟩ (ps.zip ws)) (I : Inv X pins σ H s) (r : Vals vs ws) (h : sp vs H Q E0) :
    wpAny (model X.prog X.w) X.A (call (.ref f) us kw) (EP X pins σ Q) X.xe s := by
  refine wpAny_call (codeAny_mono (F.run X.A X.stack s H ⟨us, kw⟩ ws vs Q E0 hr I.env0 hb r h) fun r s' hq => ?_)
  match r, hq with
  | .ok (.ret u), hq => exact I.after hq
  | .ok .next, hq => exact hq.elim
  | .ok .brk, hq => exact hq.elim
  | .ok .cont, hq => exact hq.elim
  | .error e, hq => exact False.elim hq
/-- x(e, ..) -/
theorem pe_lo (L : Lo X.prog X.w X.K X.mg X.base x k ps sp) (hr : Room k X.A) (hg : Gl X x) (ha : PA X (e :: es) t)
    (hdb : (x == ("__debug__" : Str)) = false := by decide) (he : starEach (e :: es) X.env = (false, eval e X.env) :: starEach es X.env := by rfl) (hpl : (backTo pos (starEach es X.env)).any (·.1) = false := by rfl) :
    PE X (.Call (.Name x p) (e :: es) [] pos) (tCall sp [] E0 t) := by
  obtain ⟨f, fd, F, hm, hk, hb⟩ := L.ex
  exact pe_call F hr hg hm hk hb .nil pass0 ha hdb he hpl
theorem pe_lk (L : Lk X.prog X.w X.K X.mg X.base x k ps sp) (hgd : X.A.guards = some []) (hr : Room k X.A) (hg : Gl X x) (ha : PA X (e :: es) t)
    (hdb : (x == ("__debug__" : Str)) = false := by decide) (he : starEach (e :: es) X.env = (false, eval e X.env) :: starEach es X.env := by rfl) (hpl : (backTo pos (starEach es X.env)).any (·.1) = false := by rfl) :
    PE X (.Call (.Name x p) (e :: es) [] pos) (tCall sp [] E0 t) := by
  obtain ⟨f, fd, F, hm, hk, hb⟩ := L.ex
  constructor
  intro pins s σ H Q I h
  refine wpAny_Call_Name_kw (ld_glob I hg hm ?_ hdb)
  refine PySem.W.callWith_K (h₀ := X.base) I.ok.mod.kin hk (thn (ha.run pos pins s σ H _ I h) ?_) he hpl
  rintro us s1 ⟨vs, H1, I1, r, q⟩
  have q' : sp vs H1 Q E0 := by simpa using q
  have hl : us.length = ps.length := r.length ▸ F.len _ _ _ _ q'
  have hb1 := hb s1 us I1.kIn (by simpa using hl)
  simp only [List.append_nil] at hb1
  exact ⟨I1.kIn, runG F hgd hr hb1 I1 r q'⟩
/-- the promise at the keywords' values in the parameters' order: gV -/
def tCallKw (sp : Sp) (gV : List V → List V) (tk : TA) : TE := fun σ H Q => tk σ H fun zs H1 => sp (gV zs) H1 Q E0
structure KB (K : PySem.W.Frag) (fd : FuncData) (ps ks : List Str) (g : List Value → List Value) (gV : List V → List V) : Prop where
  to : ∀ (s : Shared) (ws : List Value), K.In s.heap → (g ws).length = ps.length → BindsTo s fd ⟨[], ks.zip ws⟩ (ps.zip (g ws))
  rel : ∀ {zs : List V} {ws : List Value}, Vals zs ws → Vals (gV zs) (g ws)
/-- x(k = v, ..) -/
theorem pe_kw0 {f : Addr} {fd : FuncData} {ks : List Str} {g : List Value → List Value} {gV : List V → List V} (F : FnOk X.prog X.w X.K X.mg X.base CX0 k f fd ps sp) (hr : Room k X.A) (hg : Gl X x) (hm : X.mg x = some (.ref f)) (hk : PySem.W.keepIn X.K (.ref f) = true)
    (hb : KB X.K fd ps ks g gV) (hkw : PK X kws tk)
    (hall : (backToKw pos (keywordEach kws X.env)).all (·.1.isSome) = true := by rfl) (hks : (backToKw pos (keywordEach kws X.env)).filterMap (·.1) = ks := by rfl)
    (hdb : (x == ("__debug__" : Str)) = false := by decide)
    (hpl : ((backTo pos (starEach [] X.env)).any (·.1) || (backToKw pos (keywordEach kws X.env)).any (·.1.isNone)) = false := by rfl) :
    PE X (.Call (.Name x p) [] kws pos) (tCallKw sp gV tk) := by
  constructor
  intro pins s σ H Q I h
  refine wpAny_Call_Name_kw (ld_glob I hg hm ?_ hdb)
  refine PySem.W.callWith_KW0 (h₀ := X.base) I.ok.mod.kin hk hall ?_ hpl
  refine thn (hkw.run pos pins s σ H _ I h) ?_
  rintro ws s2 ⟨zs, H2, I2, rz, q2⟩
  refine ⟨I2.kIn, ?_⟩
  rw [hks]
  have r2 := hb.rel rz
  have hl : (g ws).length = ps.length := r2.length ▸ F.len _ _ _ _ q2
  exact run0 F hr (hb.to s2 ws I2.kIn hl) I2 r2 q2
end

/-! ### repr of data -/
section
variable {X : Cx}
def rRepr (K : PySem.W.Frag) : List V → Hp → VK → Prop := fun xs H Q => ∃ a d, xs = [.ref a] ∧ Dp K H (.ref a) d ∧ d.showable = true ∧ d.hasDict = false ∧ d.depth ≤ 60 ∧ d.shown.length ≤ sizeLine ∧ Q (.str d.shown) H
theorem call_repr (hgd : X.A.guards = some []) (hu : X.A.units + 64 < cLine) : CallR X (.builtin "repr") (rRepr X.K) := by
  intro pins s σ H xs us Q I r h
  obtain ⟨a, d, rfl, hd, h1, h2, h3, h4, q⟩ := h
  rw [Vals.ref1 r]
  obtain ⟨as, hr⟩ := Dp.reads I d _ (.ref a) hd rfl
  refine repr_of_reads' hr h1 (PyData.noDict_hsm h2) hgd (by omega) (fun _ _ e => e) (fun h' u tk hk => ?_) h4
  exact ⟨.str d.shown, H, I.kept hk, ⟨u, rfl⟩, q⟩
end


/-! ### enumerate(tuple) -/
theorem meets_enum_newT (l : Addr) (items : Array Value) :
    Meets (Builtin.«enumerate.__new__» ⟨[.type "enumerate", .ref l], []⟩) (fun _ R s => s.heap.IsTuple l items ∧
      R (.ok (.ret (.ref (s.heap.push { cls := .type "tuple_iterator", data := .fields #[.ref l, .int 0 0] }).objs.size)))
        { s with heap := (s.heap.push { cls := .type "tuple_iterator", data := .fields #[.ref l, .int 0 0] }).push { cls := .type "enumerate", data := .fields #[.none, .bool false, .ref s.heap.objs.size, rawInt 0, .none, .none] } }) :=
  .of_wp fun prog w A R s h => by
    obtain ⟨hp, g, d, tk, os⟩ := s
    obtain ⟨hl, h⟩ := h
    have hsub := sub_enumerate
    have hT : Heap.IsTuple (Shared.heap ⟨hp, g, d, tk, os⟩) l items := hl
    obtain ⟨⟨c, dct, dt, sl⟩, ho, hc, n, hd⟩ := id hl
    replace hc : c = .type "tuple" := hc
    replace hd : dt = .seq items n := hd
    subst hc hd
    wp_walk using AutoSeq1.wpAny_loadPart' ho
    refine wpAny_stack_any fun st => wpAny_pure ?_
    split
    · rename_i c _ _ _ _ _
      cases (c == Value.type "enumerate")
      · wp_walk using AutoSeq1.wpAny_loadPart' ho, wpAny_pyIter_tuple hT
        exact ⟨_, rfl, h⟩
      · wp_walk using AutoSeq1.wpAny_loadPart' ho, wpAny_pyIter_tuple hT
        exact ⟨_, rfl, h⟩
    · wp_walk using AutoSeq1.wpAny_loadPart' ho, wpAny_pyIter_tuple hT
      exact ⟨_, rfl, h⟩
theorem call_enum_tup {prog : Program} {w : World} {A : Around} {E : Value → Shared → Prop} {s : Shared} {l : Addr} {items : Array Value} {Q : Value → Shared → Prop} (hL : s.heap.IsTuple l items)
    (h : ∀ h', IsEnum h' (s.heap.objs.size + 1) s.heap.objs.size 0 .none → h'.IsTupleIter s.heap.objs.size l 0 → h'.objs.size = s.heap.objs.size + 2 →
      (∀ b o, s.heap.get? b = some o → h'.get? b = some o) → Q (.ref (s.heap.objs.size + 1)) { s with heap := h' }) :
    wpAny (model prog w) A (call (.type "enumerate") [.ref l]) Q E s := by
  refine callType_new F.called_enumerate (by decide) (F.typeCall_enumerate_1 _) (F.newCall_enumerate_1 _) (fun obj => F.args_object_init_2 obj _) F.entry_enumerate_new (meets_enum_newT l items) ⟨hL, ?_⟩
  have hz : (s.heap.push { cls := .type "tuple_iterator", data := .fields #[.ref l, .int 0 0] }).objs.size = s.heap.objs.size + 1 := Heap.size_push ..
  show _ ∧ _
  rw [hz]
  have he := Heap.get?_push_size (s.heap.push { cls := .type "tuple_iterator", data := .fields #[.ref l, .int 0 0] })
      (o := { cls := .type "enumerate", data := .fields #[.none, .bool false, .ref s.heap.objs.size, rawInt 0, .none, .none] }) rfl
  rw [hz] at he
  refine ⟨⟨_, he, rfl⟩, h _ he ⟨_, Heap.get?_push_of_some _ (Heap.get?_push_size _ rfl), rfl, rfl⟩ (by rw [Heap.size_push, hz]) ?_⟩
  exact fun b o x => Heap.get?_push_of_some _ (Heap.get?_push_of_some _ x)
def IteT (K : PySem.W.Frag) (a : Addr) : It where
  go := fun i H => ∃ (xs : List V) (x : V), SqT K H a xs ∧ xs[i]? = some x
  yld := fun i H v H' => ∃ T x, v = .ref T ∧ H T = none ∧ H' = upd H T (.tup [.int (i : Nat), x]) ∧ ∀ xs, SqT K H a xs → xs[i]? = some x
  stop := fun i H => ∃ xs : List V, SqT K H a xs ∧ xs.length ≤ i
theorem turn_enumT {P : Program} {w : World} {K : PySem.W.Frag} {elts : List Expr} {kk : Nat} {tpos : Pos} (a e it : Addr) :
    Turn P w K (.Tuple elts kk tpos) (IteT K a) [e, it] e (fun i h => (∃ old, IsEnum h e it ((i : Nat) : Int) old) ∧ h.IsTupleIter it a i ∧ e ≠ it) where
  mem := List.mem_cons_self
  obj := by
    rintro i h ⟨⟨old, he⟩, ⟨o, ho, hc, hd⟩, _⟩ b hb
    have cs : b = e ∨ b = it := by simpa using hb
    rcases cs with rfl | rfl
    · exact ⟨_, he, fun v q => nomatch q⟩
    · exact ⟨o, ho, fun v q => by rw [hd] at q; cases q⟩
  keep := by
    rintro i h h' ⟨⟨old, he⟩, hi, hne⟩ k
    exact ⟨⟨old, k e (by simp) _ he⟩, hi.at fun o q => k it (by simp) o q, hne⟩
  item := by
    intro X hP hw hK hc i pins s σ H E I hf st hg
    subst hP hw hK
    obtain ⟨⟨old, he⟩, hit, hne⟩ := st
    obtain ⟨xs, x, hq, hx⟩ := hg
    obtain ⟨its, rv, p, hz⟩ := I.tuple hq
    obtain ⟨u, hu, ru⟩ := rv.get hx
    have hel : e < s.heap.objs.size := Heap.lt_size he
    have hil : it < s.heap.objs.size := by
      obtain ⟨_, q, _⟩ := hit
      exact Heap.lt_size q
    have hha : X.A.in1.handled = none := I.ok.hd hc
    have pa : s.heap.IsTuple a its.toArray := p
    have nai : a ≠ it := by
      rintro rfl
      obtain ⟨o, q1, q2, q3⟩ := hit
      obtain ⟨o', q1', q2', n', q3'⟩ := pa
      rw [q1] at q1'
      cases q1'
      rw [q3] at q3'
      cases q3'
    have nae : a ≠ e := by
      rintro rfl
      obtain ⟨o', q1', q2', n', q3'⟩ := pa
      rw [show s.heap.get? a = _ from he] at q1'
      cases q1'
      cases q3'
    refine wpAny_pyNext_enum_itemD (n := its.toArray.size) (Draws.tuple hha it a nai its.toArray) he ⟨hit, pa⟩ (by have := List.getElem?_eq_some_iff.mp hu; obtain ⟨q, _⟩ := this; simpa using q) hne (by simp [hne, Ne.symm nae]) fun y h' tk hy ho hst hT hsz hk => ?_
    have ey : y = u := by
      have hy' : its.toArray[i]? = some y := hy
      have : its[i]? = some y := by simpa using hy'
      rw [hu] at this
      exact (Option.some.inj this).symm
    subst ey
    refine ⟨_, rfl, wpAny_letOwnedTupleGo_enum (s := { s with heap := h', toks := tk + 1 }) ho fun h'' he' sb => ?_⟩
    have hT2 : h''.get? s.heap.objs.size = some { cls := .type "tuple", data := .seq #[.int i tk, y] } := (sb.2 _ (Nat.ne_of_gt hel)).trans hT
    have new : ObjOk X.prog X.w (upd H s.heap.objs.size (.tup [.int (i : Nat), x])) h'' s.heap.objs.size (.tup [.int (i : Nat), x]) :=
      ⟨by show 2 ≤ sizeLine; decide, [.int i tk, y], .cons ⟨_, rfl⟩ (.cons ru .nil), ⟨_, hT2, rfl, _, rfl⟩⟩
    have I1 : Inv X pins σ (upd H s.heap.objs.size (.tup [.int (i : Nat), x])) { s with heap := h'', toks := tk + 1 } :=
      I.turnedNew (ch := [e, it]) (fun b ob hb q => (sb.2 b (fun z => hb (by simp [z]))).trans (hk b ob (fun z => hb (by simp [z])) (fun z => hb (by simp [z])) q)) hf (Nat.le_refl _) new
    refine ⟨.ref s.heap.objs.size, _, I1, rfl, ⟨_, x, rfl, I.hok.fresh (Nat.le_refl _), rfl, fun ys hy => by rw [I.tuple_inj hy hq]; exact hx⟩, ⟨⟨y, ?_⟩, hst.1.at fun o q => (sb.2 it (Ne.symm hne)).trans q, hne⟩, fun b hb => ?_⟩
    · have e1 : ((i + 1 : Nat) : Int) = (i : Int) + 1 := by omega
      rw [e1]
      exact he'
    · have cs : b = e ∨ b = it := by simpa using hb
      have hb' : b < s.heap.objs.size := by
        rcases cs with rfl | rfl
        · exact hel
        · exact hil
      rw [upd_ne (Nat.ne_of_lt hb')]
      exact (hf b hb).1
  done := by
    intro X hP hw hK hc i pins s σ H E I hf st hg
    subst hP hw hK
    obtain ⟨⟨old, he⟩, hit, hne⟩ := st
    obtain ⟨xs, hq, hx⟩ := hg
    obtain ⟨its, rv, p, hz⟩ := I.tuple hq
    obtain ⟨f0, f1, f2, f3, f4, f5⟩ := hf it (by simp)
    have pa : s.heap.IsTuple a its.toArray := p
    have hha : X.A.in1.handled = none := I.ok.hd hc
    have nai : a ≠ it := by
      rintro rfl
      obtain ⟨o, q1, q2, q3⟩ := hit
      obtain ⟨o', q1', q2', n', q3'⟩ := pa
      rw [q1] at q1'
      cases q1'
      rw [q3] at q3'
      cases q3'
    -- an iterator behind the end stands like one at the end: the next of it is told apart
    unfold pyNext
    have hT : s.TypeIs (.ref e) "enumerate" := ⟨_, he, rfl⟩
    refine wpAny_bind (wpAny_attempt (wpAny_callSpecial?_slot (name := Str.ofString "__next__") hT F.slot_enumerate_next
      (wpAny_call_entry F.slot_enumerate_next hT F.entry_enumerate_next ?_ (F.args_enumerate_next_1 _))))
    show wpAny _ _ (field (.ref e) 2 >>= _) _ _ _
    refine wpAny_bind (wpAny_field he rfl (x := .ref it) rfl ?_)
    refine wpAny_bind (wpAny_nextOf_tuple_end hha hit pa (by simp; have := rv.length; omega) fun h' x he' hx' => ?_)
    obtain ⟨o, ho, hc⟩ := hx'
    refine wpAny_bind (wpAny_isInstance (T := "StopIteration") (b := true) ⟨o, ho, hc⟩ isSubtype_stop ?_)
    exact wpAny_pure ⟨rfl, I.turned (t' := s.toks) (fun b o hb q => he' b o hb q) f0 f1 f3 f4 f5⟩
  self := fun A i s Q E st h => let ⟨⟨_, he⟩, _⟩ := st; wpAny_pyIter_enum he h
def iEnumT (K : PySem.W.Frag) (ta : TA) : TI := fun σ H R => ta σ H fun vs H1 => ∃ a xs, vs = [.ref a] ∧ SqT K H1 a xs ∧ R (IteT K a) H1
theorem pi_enumT {X : Cx} {e : Expr} {ta : TA} {p pos tpos : Pos} {elts : List Expr} {kk : Nat} (hg : Gl X "enumerate") (hm : X.mg "enumerate" = none) (ha : PA X [e] ta)
    (hs : starEach [e] X.env = [(false, eval e X.env)] := by rfl) : PI X (.Tuple elts kk tpos) (.Call (.Name "enumerate" p) [e] [] pos) (iEnumT X.K ta) := by
  constructor
  intro pins s σ H R I h
  refine Call_ (ld_blt I hg hm boot_enumerate (PyProof.Rows.callWith_type1 (thn (ha.run pos pins s σ H _ I h) ?_) hs rfl))
  rintro us s1 ⟨vs, H1, I1, r1, a, xs, ex, hq, q⟩
  subst ex
  rw [Vals.ref1 r1]
  obtain ⟨its, rv, p', hz⟩ := I1.tuple hq
  refine call_enum_tup p' fun h' he hit hsz hk => wpAny_pyIter_enum he ?_
  have I2 : Inv X pins σ H1 { s1 with heap := h' } := I1.kept (t' := s1.toks) hk
  refine ⟨s1.heap.objs.size + 1, [s1.heap.objs.size + 1, s1.heap.objs.size], _, _, H1, rfl, I2, turn_enumT a (s1.heap.objs.size + 1) s1.heap.objs.size, ⟨⟨.none, he⟩, hit, Nat.succ_ne_self _⟩, fun b hb => ?_, q⟩
  have cs : b = s1.heap.objs.size + 1 ∨ b = s1.heap.objs.size := by simpa using hb
  have hle : s1.heap.objs.size ≤ b := by
    rcases cs with z | z
    · rw [z]
      exact Nat.le_succ _
    · rw [z]
      exact Nat.le_refl _
  exact I1.fpOk hle (I1.hok.fresh hle)
theorem walk_enumT {K : PySem.W.Frag} {a : Addr} {xs : List V} : Walk (IteT K a) xs.length (fun H => SqT K H a xs) (YPair (fun i => some (.int (i : Nat))) (fun i => xs[i]?)) := by
  refine ⟨fun i _ hi q => ⟨xs, xs[i], q, by simp [hi]⟩, fun _ q => ⟨xs, q, Nat.le_refl _⟩, ?_⟩
  rintro i H v H' _ q ⟨T, x, h1, h2, h3, h4⟩
  exact ⟨T, .int (i : Nat), x, h1, h2, h3, rfl, h4 xs q⟩

/-! ### tuple.count of flat items -/
section
variable {X : Cx}
def rCountT (K : PySem.W.Frag) : V → List V → Hp → VK → Prop := fun x vs H Q => ∃ (a : Addr) (ys : List V) (y : V), x = V.ref a ∧ vs = [y] ∧ SqT K H a ys ∧ flatV y = true ∧ ys.all flatV = true ∧ Q (.int ((ys.countP fun z => eqV z y : Nat) : Int)) H
theorem countP_vals {y : V} : ∀ {xs : List V} {us : List Value}, Vals xs us → xs.all flatV = true → us.countP (eqU y) = xs.countP fun z => eqV z y
  | _, _, .nil, _ => rfl
  | x :: xs, u :: us, .cons r t, f => by
    rw [List.all_cons, Bool.and_eq_true] at f
    rw [List.countP_cons, List.countP_cons, countP_vals t f.2, eqU_of r f.1]
theorem mt_countT : MtR X "tuple.count" (rCountT X.K) := by
  intro pins s σ H x xs v us Q I rx rxs h
  obtain ⟨a, ys, y, rfl, rfl, hs, fy, fys, q⟩ := h
  cases rx
  cases rxs with
  | cons ry rt =>
    rename_i uy ut
    cases rt
    obtain ⟨its, rv, ⟨o, ho, hc, n, hd⟩, hlen⟩ := I.tuple hs
    obtain ⟨cls, dd, data, sl⟩ := o
    replace hc : cls = _ := hc
    replace hd : data = _ := hd
    subst hc hd
    refine call_meets PySem.F.slot_tuple_count ⟨_, ho, rfl⟩ PySem.F.entry_tuple_count (PySem.F.args_tuple_count_2 _ _)
      (SeqAt.tuple_countAt a its.toArray n dd sl uy (eqU y)) ⟨ho, fun u' hu' => mem_eqAt ry fy rv fys u' (by simpa using hu'), ?_⟩
    have e1 : its.toArray.toList.countP (eqU y) = ys.countP fun z => eqV z y := by
      rw [List.toList_toArray]
      exact countP_vals rv fys
    rw [e1]
    exact ⟨.int ((ys.countP fun z => eqV z y : Nat) : Int), H, I.tok _, ⟨_, rfl⟩, q⟩
end


/-- the law's own run from an abstract heap that knows the script alone, where the promise may lean on the empty list of guards -/
theorem lawG {P : Program} {w : World} {K : PySem.W.Frag} {mg mb : Str → Option Value} {k : Nat} {fa a : Addr} {fd : FuncData} {x : Str} {sp : Sp} {s₁ : Shared} {vs : List Value} {ns : List Int}
    (KX : K.In s₁.heap) (hns : s₁.heap.Ns mainGlobals mg) (hb : s₁.heap.Ns builtinsNs mb) (hbb : ∀ x : Str, x ≠ "__name__" → mb x = bootBuiltins x) (hlim : s₁.heap.NoLimit) (hg : s₁.gens = #[])
    (ha : s₁.heap.get? a = some { cls := .type "list", data := .seq vs.toArray }) (hi : IntsAre vs ns) (hl : ns.length ≤ sizeLine) (hr : Room k callerA)
    (F : ∀ base : Heap, K.In base → base.Ns mainGlobals mg → FnG P w K mg base k fa fd [x] sp) (hbind : ∀ (s : Shared) (u : Value), BindsTo s fd ⟨[u], []⟩ [(x, u)])
    (hsp : ∀ H : Hp, Only H → SqL K H a (ns.map V.int) → sp [.ref a] H (fun v _ => v = .bl true) E0) :
    codeAny (model P w) callerA (.call (.ref fa) ⟨[.ref a], []⟩)
      (fun r s' => r = .ok (.ret (.bool true)) ∧ OldK s₁.heap s'.heap ∧ s'.os = s₁.os ∧ AllBare s'.gens) s₁ := by
  have rv := vals_ints hi
  have lenV := hi.length
  have core : ∀ H : Hp, Only H → SqL K H a (ns.map V.int) → HOk P w H s₁.heap → (∀ b, H b ≠ none → b = a) → (H a ≠ none → K.lookup a = none) →
      codeAny (model P w) callerA (.call (.ref fa) ⟨[.ref a], []⟩)
        (fun r s' => r = .ok (.ret (.bool true)) ∧ OldK s₁.heap s'.heap ∧ s'.os = s₁.os ∧ AllBare s'.gens) s₁ := by
    intro H hO hS hok hA hK
    have dicts : ∀ {b : Addr} {o : Obj} {es : Array DictEntry} {ep : Nat}, s₁.heap.get? b = some o → o.data = .dict es ep → H b = none := by
      intro b o es ep e d
      match q : H b with
      | none => rfl
      | some u =>
        have eb : b = a := hA b (by rw [q]; simp)
        rw [eb, ha] at e
        rw [← Option.some.inj e] at d
        cases (show Data.seq vs.toArray _ = Data.dict es ep from d)
    have ns' : ∀ {b : Addr} {m : Str → Option Value}, s₁.heap.Ns b m → (hidT s₁.heap H).Ns b m := by
      rintro b m ⟨o, es, ep, e, d, r⟩
      exact ⟨o, es, ep, hidT_get e (dicts e d), d, r⟩
    have inK : K.In (hidT s₁.heap H) := by
      intro b o e
      refine hidT_get (KX b o e) ?_
      match q : H b with
      | none => rfl
      | some u =>
        have eb : b = a := hA b (by rw [q]; simp)
        rw [eb, hK (by rw [← eb, q]; simp)] at e
        cases e
    have md : Mod K mg (hidT s₁.heap H) := by
      obtain ⟨mc, h1, h2⟩ := hlim
      exact ⟨inK, ns' hns, ⟨mb, ns' hb, hbb⟩, ⟨mc, ns' h1, h2⟩⟩
    have e0 : Env0 P w K mg (hidT s₁.heap H) callerA [] s₁ H := by
      refine ⟨rfl, md, fun b o e => of_hidT e, ?_, trivial, ?_, hok, .of_eq hg⟩
      · exact Nat.le_of_eq (hidT_size _ _)
      · exact fun b hb => absurd (show b ∈ ([] : List Addr) from hb) (by simp)
    have run := (F _ inK (ns' hns)).run callerA [] s₁ H ⟨[.ref a], []⟩ [.ref a] [.ref a] _ _ rfl hr e0 (hbind s₁ (.ref a)) (.cons rfl .nil) (hsp H hO hS)
    refine codeAny_mono run fun r s' h => ?_
    match r, h with
    | .error e, h => exact False.elim h
    | .ok .next, h => exact False.elim h
    | .ok .brk, h => exact False.elim h
    | .ok .cont, h => exact False.elim h
    | .ok (.ret u), h =>
      obtain ⟨v, H', os, bare, un, hok', r', q⟩ := h
      replace q : v = .bl true := q
      subst q
      obtain rfl : u = Value.bool true := r'
      refine ⟨rfl, OldK.of_keep ?_, os, bare⟩
      intro b o e
      match q : H b with
      | none => exact un.keep b o e q (fun z => absurd (show b ∈ ([] : List Addr) from z) (by simp)) (by simp)
      | some u =>
        rcases hO b with z | ⟨ob, xs, z⟩
        · rw [q] at z
          cases z
        · obtain ⟨e1, _⟩ := hok b _ z
          obtain ⟨e2, _⟩ := hok' b _ (un.frzs b ob _ z)
          rw [e] at e1
          rw [Option.some.inj e1]
          exact e2
  match hk : K.lookup a with
  | some o =>
    have e := KX a o hk
    rw [ha] at e
    have eo := Option.some.inj e
    subst eo
    refine core (fun _ => none) (fun _ => .inl rfl) (.inr ⟨_, vs.toArray, _, hk, rfl, rfl, rfl, ?_, by simpa using rv⟩) (fun b u z => ?_) (fun b z => absurd rfl z) fun z => absurd rfl z
    · rw [List.size_toArray, lenV]
      exact hl
    · cases (show (none : Option HO) = some u from z)
  | none =>
    let Hs : Hp := fun b => if b = a then some (.frz { cls := .type "list", data := .seq vs.toArray } (.lst (ns.map V.int))) else none
    have hs1 : Hs a = some (.frz { cls := .type "list", data := .seq vs.toArray } (.lst (ns.map V.int))) := if_pos rfl
    have hs2 : ∀ b, b ≠ a → Hs b = none := fun b hb => if_neg hb
    have hs3 : ∀ b, Hs b ≠ none → b = a := fun b z => Classical.byContradiction fun hb => z (hs2 b hb)
    refine core Hs (fun b => ?_) (.inl (.inr ⟨{ cls := .type "list", data := .seq vs.toArray }, hs1⟩)) (fun b u z => ?_) hs3 fun _ => hk
    · by_cases hb : b = a
      · exact .inr ⟨_, _, hb ▸ hs1⟩
      · exact .inl (hs2 b hb)
    · have eb : b = a := hs3 b (by rw [z]; simp)
      rw [eb, hs1] at z
      rw [← Option.some.inj z, eb]
      exact ⟨ha, by rw [List.length_map]; exact hl, vs, _, rv, ha⟩
/-- the goal that k_head leaves, from such a promise of the law -/
theorem walkG {l : PySem.W.OpenLaw} {n k : Nat} {q : Program} {loose : List Str} {XP : (Str → Option Value) → Heap → Prop} {YP : World → Heap → Prop} {d : DefRec} {K : Params → PySem.W.Frag} {sp : PySem.W.Frag → Sp} {x : Str}
    (hn : l.most = some n) (hn2 : n ≤ sizeLine) (hdf : d.params.defaults = []) (hr : Room k callerA)
    (hY : ∀ (w : World) (h : Heap), YP w h → (K w.params).In h)
    (F : ∀ (w : World) (mg : Str → Option Value) (fa : Addr) (h : Heap), (K w.params).In h → h.Ns mainGlobals mg → mg d.name = some (.ref fa) →
      ∃ fd : FuncData, (∀ (s : Shared) (u : Value), BindsTo s fd ⟨[u], []⟩ [(x, u)]) ∧
        ∀ base : Heap, (K w.params).In base → base.Ns mainGlobals mg → FnG l.prog w (K w.params) mg base k fa fd [x] (sp (K w.params)))
    (hsp : ∀ (K : PySem.W.Frag) (H : Hp) (a : Addr) (ns : List Int), ns.length ≤ n → (∀ z ∈ ns, Builtin.Int.intBits z ≤ 1048576) → Only H → SqL K H a (ns.map V.int) → sp K [.ref a] H (fun v _ => v = .bl true) E0) :
    PySem.W.WalkO q loose XP YP l.row.toRowW d [] (fun f vs => PySem.call f vs) := by
  refine Att.attach_callB hn hdf ?_
  intro w s₀ s₁ mg mb fa o pm cd doc a vs ns G Y ho hd hcd hmg hobj hints hlen hbits hg
  have KX := hY w _ Y
  obtain ⟨fd, hb, hF⟩ := F w mg fa _ KX G.T.g hmg
  exact lawG KX G.T.g G.T.b G.T.builtins G.T.nolimit hg hobj hints (Nat.le_trans hlen hn2) hr hF hb fun H hO hS => hsp (K w.params) H a ns hlen hbits hO hS


/-! ### tuples whose very object is known: they have no dict, so their methods may be called -/
def tyF (T : String) (x : V) (H : Hp) : Prop := ∃ p o u, x = .ref p ∧ H p = some (.frz o u) ∧ o.cls = .type T ∧ o.dict = none
def FT (H : Hp) (a : Addr) (xs : List V) : Prop := ∃ o, H a = some (.frz o (.tup xs)) ∧ o.cls = .type "tuple" ∧ o.dict = none
theorem FT.seq {K : PySem.W.Frag} {H : Hp} {a : Addr} {xs : List V} (h : FT H a xs) : SqT K H a xs := by
  obtain ⟨o, h, _⟩ := h
  exact .inl (.inr ⟨o, h⟩)
theorem FT.ty {H : Hp} {a : Addr} {xs : List V} (h : FT H a xs) : tyF "tuple" (.ref a) H := by
  obtain ⟨o, h, c, d⟩ := h
  exact ⟨a, o, _, rfl, h, c, d⟩
def tBMF (T : String) (r : V → List V → Hp → VK → Prop) (to : TE) (t : TA) : TE := fun σ H Q => to σ H fun x H1 => tyF T x H1 ∧ t σ H1 fun xs H2 => r x xs H2 Q
section
variable {X : Cx} {o e : Expr} {es : List Expr} {to : TE} {t : TA} {name : Str} {apos cpos pos : Pos} {T id : String} {r : V → List V → Hp → VK → Prop}
theorem pe_bmF (pa : PlainAttrs T) (slot : Slot T name id) (hty : typeOf (.builtin id) = pure (.type "method_descriptor")) (hm : MtR X id r) (ho : PE X o to) (ha : PA X (e :: es) t)
    (hbase : attributeBase o name X.env (eval o X.env) = eval o X.env := by rfl)
    (hfew : ((backTo cpos (starEach (e :: es) X.env)).all (fun x => !x.1) && (backToKw cpos (keywordEach [] X.env)).all (fun x => x.1.isSome)
      && decide ((e :: es).length + ([] : List Keyword).length + (if ([] : List Keyword).isEmpty then 0 else 1) < 30)) = true := by rfl)
    (hline : (apos.endLine == cpos.line) = true := by rfl) (hs : starEach (e :: es) X.env = (false, eval e X.env) :: starEach es X.env := by rfl) (hplain : (backTo cpos (starEach es X.env)).any (·.1) = false := by rfl) :
    PE X (.Call (.Attribute o name apos) (e :: es) [] cpos) (tBMF T r to t) := by
  constructor
  intro pins s σ H Q I h
  refine wpAny_Call_method_late hbase hfew hline rfl (thn (ho.run pins s σ H _ I h) ?_)
  rintro v s1 ⟨x, H1, I1, r1, ⟨p, ob, u, rfl, hp, hc, hd⟩, q1⟩
  cases r1
  have hob := (I1.hok p _ hp).1
  refine ⟨T, id, pa, slot, hty, ⟨ob, hob, hc⟩, ?_, ?_⟩
  · intro a ea
    cases ea
    exact ⟨ob, hob, hd⟩
  have hA := ha.run cpos pins s1 σ H1 _ I1 q1
  rw [hs] at hA ⊢
  refine Calls.callWith_builtin ?_ (Calls.evalArgs_plain (thn hA fun us s2 ⟨vs, H2, I2, r2, q2⟩ => hm pins s2 σ H2 (.ref p) vs (.ref p) us Q I2 (show RelV (.ref p) (.ref p) from rfl) r2 q2))
  show (false || (backTo cpos (starEach es X.env)).any (·.1)) = false
  rw [hplain, Bool.false_or]
theorem call_tupF : CallR X (.type "tuple") (fun xs H Q => ∃ p ys, xs = [.ref p] ∧ SqL X.K H p ys ∧ ∀ l o, H l = none → o.cls = .type "tuple" → o.dict = none → Q (.ref l) (upd H l (.frz o (.tup ys)))) := by
  intro pins s σ H xs us Q I r h
  obtain ⟨p, ys, rfl, hq, q⟩ := h
  rw [Vals.ref1 r]
  obtain ⟨its, r', pl, hz⟩ := I.list hq
  have hlen := r'.length
  refine call_tuple_list pl.isList (fun h' kp => ?_) (by simp only [List.size_toArray] <;> omega)
  have I1 : Inv X pins σ H { s with heap := h' } := I.kept (t' := s.toks) kp
  let ob : Obj := { cls := .type "tuple", data := .seq its.toArray }
  have I2 : Inv X pins σ (upd H h'.objs.size (.frz ob (.tup ys))) { s with heap := h'.push ob } :=
    I1.laid (t' := s.toks) (fun b o e => Heap.get?_push_of_some _ e) (Nat.le_refl _) ⟨Heap.get?_push_size _ rfl, hz, its, r', IsTup.new _ _⟩
  exact ⟨.ref h'.objs.size, _, I2, rfl, q _ ob (I1.hok.fresh (Nat.le_refl _)) rfl rfl⟩
def tTupF (t : TA) : TE := fun σ H Q => t σ H fun xs H1 => xs.length ≤ sizeLine ∧ ∀ p o, H1 p = none → o.cls = .type "tuple" → o.dict = none → Q (.ref p) (upd H1 p (.frz o (.tup xs)))
theorem pe_tupF {x1} (h : PA X es t) : PE X (.Tuple es x1 pos) (tTupF t) := by
  constructor
  intro pins s σ H Q I hq
  refine wpAny_Tuple_spliced (thn (h.run pos pins s σ H _ I hq) ?_)
  rintro us s1 ⟨xs, H1, I1, r, z, q⟩
  refine ⟨by rw [← r.length]; exact z, ?_⟩
  have hf : H1 s1.heap.objs.size = none := I1.hok.fresh (Nat.le_refl _)
  refine ⟨.ref s1.heap.objs.size, upd H1 s1.heap.objs.size (.frz { cls := .type "tuple", data := .seq us.toArray } (.tup xs)), I1.laid (t' := s1.toks) (fun b u e => Heap.get?_push_of_some _ e) (Nat.le_refl _) ?_, rfl, q _ _ hf rfl rfl⟩
  exact ⟨Heap.get?_push_size _ rfl, z, us, r, ⟨_, Heap.get?_push_size _ rfl, rfl, _, rfl⟩⟩
end

/-! ### what an update of the list at a place leaves, for the reading of o[i] op= e -/
def rGetL (K : PySem.W.Frag) : V → V → Hp → VK → Prop := fun o i H Q => ∃ p xs k v, o = .ref p ∧ i = .int k ∧ SqL K H p xs ∧ atI xs k = some v ∧ Q v H

/-! ### steps of a reading -/
abbrev SS := L2.St
section
variable {K : PySem.W.Frag} {σ : SS} {H H' : Hp} {Q : VK} {QB : Bool → Hp → Prop} {QA : List V → Hp → Prop} {QS : SS → Hp → Prop} {x y v : V} {ta tb te : TE} {tt tu : TT} {t : TA} {xs : List V} {p : Addr} {i j : Int} {n : Nat}
theorem x_var (h : σ[n]? = some (some v)) (q : Q v H) : tVar n σ H Q := ⟨v, h, q⟩
theorem x_c (q : Q v H) : tC v σ H Q := q
theorem x_op {r : R2} (q : ta σ H fun x H1 => tb σ H1 fun y H2 => r x y H2 Q) : tOp r ta tb σ H Q := q
theorem x_un {r : V → Hp → VK → Prop} (q : ta σ H fun x H1 => r x H1 Q) : tUn r ta σ H Q := q
theorem x_I0 {g : Int → Int → V} (q : Q (g i j) H) : rI0 g (.int i) (.int j) H Q := ⟨i, j, rfl, rfl, q⟩
theorem x_I {C : Int → Int → Prop} {g : Int → Int → V} (c : C i j) (q : Q (g i j) H) : rI C g (.int i) (.int j) H Q := ⟨i, j, rfl, rfl, c, q⟩
theorem x_U {g : Int → V} (q : Q (g i) H) : rU g (.int i) H Q := ⟨i, rfl, q⟩
theorem x_eq (s : scal x y = true) (q : Q (.bl (decide (x = y))) H) : rEq x y H Q := ⟨s, q⟩
theorem x_ne (s : scal x y = true) (q : Q (.bl (!decide (x = y))) H) : rNe x y H Q := ⟨s, q⟩
theorem x_isN (q : Q (.bl (decide (x = .non))) H) : rIsN x .non H Q := ⟨rfl, q⟩
theorem x_notN (q : Q (.bl (!decide (x = .non))) H) : rNotN x .non H Q := ⟨rfl, q⟩
theorem x_ixL (h : SqL K H p xs) (a : atI xs i = some v) (q : Q v H) : rIxL K (.ref p) (.int i) H Q := ⟨p, xs, i, v, rfl, rfl, h, a, q⟩
theorem x_ixT (h : SqT K H p xs) (a : atI xs i = some v) (q : Q v H) : rIxT K (.ref p) (.int i) H Q := ⟨p, xs, i, v, rfl, rfl, h, a, q⟩
theorem x_nil (q : QA [] H) : tNil σ H QA := q
theorem x_cons {tr : TA} (q : ta σ H fun x H1 => tr σ H1 fun xs H2 => QA (x :: xs) H2) : tCons ta tr σ H QA := q
theorem x_lst (q : t σ H fun xs H1 => xs.length ≤ sizeLine ∧ ∀ p, H1 p = none → Q (.ref p) (upd H1 p (.lst xs))) : tLst t σ H Q := q
theorem x_tup (q : t σ H fun xs H1 => xs.length ≤ sizeLine ∧ ∀ p, H1 p = none → Q (.ref p) (upd H1 p (.tup xs))) : tTup t σ H Q := q
theorem x_tupF (q : t σ H fun xs H1 => xs.length ≤ sizeLine ∧ ∀ p o, H1 p = none → o.cls = .type "tuple" → o.dict = none → Q (.ref p) (upd H1 p (.frz o (.tup xs)))) : tTupF t σ H Q := q
theorem x_CB {r : List V → Hp → VK → Prop} (q : t σ H fun vs H1 => r vs H1 Q) : tCB r t σ H Q := q
theorem x_call {sp : Sp} {E : XK} (q : t σ H fun vs H1 => sp (vs ++ []) H1 Q E) : tCall sp [] E t σ H Q := q
theorem x_test (q : te σ H fun x H' => ∃ k, x = .bl k ∧ QB k H') : tTest te σ H QB := q
theorem x_bl {b : Bool} {R : Bool → Prop} (q : R b) : ∃ k, V.bl b = .bl k ∧ R k := ⟨b, rfl, q⟩
theorem x_B (q : te σ H fun x H1 => ∃ c, x = .bl c ∧ QB c H1) : tB te σ H QB := q
theorem x_andV (q : ta σ H fun x H1 => ∃ c, x = .bl c ∧ if c = true then tb σ H1 Q else Q (.bl false) H1) : tAndV ta tb σ H Q := q
theorem x_orV (q : ta σ H fun x H1 => ∃ c, x = .bl c ∧ if c = true then Q (.bl true) H1 else tb σ H1 Q) : tOrV ta tb σ H Q := q
theorem x_notV (q : ta σ H fun x H1 => ∃ c, x = .bl c ∧ Q (.bl (!c)) H1) : tNotV ta σ H Q := q
theorem x_and (q : tt σ H fun c H1 => if c = true then tu σ H1 QB else QB false H1) : tAnd tt tu σ H QB := q
theorem x_or (q : tt σ H fun c H1 => if c = true then QB true H1 else tu σ H1 QB) : tOr tt tu σ H QB := q
theorem x_not (q : tt σ H fun c H1 => QB (!c) H1) : tNot tt σ H QB := q
theorem x_if (q : tt σ H fun c H1 => if c = true then ta σ H1 Q else tb σ H1 Q) : tIf tt ta tb σ H Q := q
theorem x_sl {r : V → Option Int → Option Int → Hp → VK → Prop} {tl th : TO} (q : te σ H fun x H1 => tl σ H1 fun l H2 => th σ H2 fun u H3 => r x l u H3 Q) : tSl r te tl th σ H Q := q
theorem x_no {QO : Option Int → Hp → Prop} (q : QO none H) : tNoPart σ H QO := q
theorem x_part {QO : Option Int → Hp → Prop} (q : te σ H fun x H1 => ∃ i, x = .int i ∧ QO (some i) H1) : tPart te σ H QO := q
theorem x_int {R : Int → Prop} (q : R i) : ∃ k, V.int i = .int k ∧ R k := ⟨i, rfl, q⟩
theorem x_slL {lo hi : Option Int} (h : SqL K H p xs) (q : ∀ a, H a = none → Q (.ref a) (upd H a (.lst (cutV xs lo hi)))) : rSlL K (.ref p) lo hi H Q := ⟨p, xs, rfl, h, q⟩
/- statements: the ends written out -/
variable {nx bk ct : SS → Hp → Prop} {rt : VK} {s1 s2 : TS} {g : TG}
theorem x_seq (q : s1 ⟨s2 ⟨nx, rt, bk, ct⟩, rt, bk, ct⟩ σ H) : tSeq s1 s2 ⟨nx, rt, bk, ct⟩ σ H := q
theorem x_next (q : nx σ H) : tNext ⟨nx, rt, bk, ct⟩ σ H := q
theorem x_brk (q : bk σ H) : tBreak ⟨nx, rt, bk, ct⟩ σ H := q
theorem x_cont (q : ct σ H) : tCont ⟨nx, rt, bk, ct⟩ σ H := q
theorem x_drop (q : te σ H fun _ H1 => nx σ H1) : tDrop te ⟨nx, rt, bk, ct⟩ σ H := q
theorem x_ret (q : te σ H rt) : tRet te ⟨nx, rt, bk, ct⟩ σ H := q
theorem x_retN (q : rt .non H) : tRetN ⟨nx, rt, bk, ct⟩ σ H := q
theorem x_asg (q : te σ H fun x H1 => g x σ H1 nx) : tAsg te g ⟨nx, rt, bk, ct⟩ σ H := q
theorem x_name (q : QS (σ.set n (some v)) H) : gName n v σ H QS := q
theorem x_gtup {m : Nat} {u : TGs} (h : SqT K H p xs) (l : xs.length = m) (q : u xs σ H QS) : gTup K m u (.ref p) σ H QS := ⟨p, xs, rfl, h, l, q⟩
theorem x_gnil (q : QS σ H) : gNil [] σ H QS := ⟨rfl, q⟩
theorem x_gcons {u : TGs} (q : g v σ H fun σ' H' => u xs σ' H' QS) : gCons g u (v :: xs) σ H QS := ⟨v, xs, rfl, q⟩
theorem x_gsub {to ti : TE} {s : TSet} (q : to σ H fun o H1 => ti σ H1 fun i H2 => s o i v H2 fun H3 => QS σ H3) : gSub to ti s v σ H QS := q
theorem x_setL {QH : Hp → Prop} {k : Nat} (h : H p = some (.lst xs)) (a : ixN xs.length i = some k) (q : QH (upd H p (.lst (xs.set k v)))) : rSetL (.ref p) (.int i) v H QH := ⟨p, xs, i, k, rfl, rfl, h, a, q⟩
theorem x_par {k m : Nat} (q : t σ H fun vs H1 => ∃ v w, vs = [v, w] ∧ nx ((σ.set k (some v)).set m (some w)) H1) : tPar k m t ⟨nx, rt, bk, ct⟩ σ H := q
theorem x_two {R : V → V → Prop} (q : R x y) : ∃ v w, [x, y] = [v, w] ∧ R v w := ⟨x, y, rfl, q⟩
theorem x_ifS {c : TT} (q : c σ H fun b H1 => if b = true then s1 ⟨nx, rt, bk, ct⟩ σ H1 else s2 ⟨nx, rt, bk, ct⟩ σ H1) : tIfS c s1 s2 ⟨nx, rt, bk, ct⟩ σ H := q
theorem x_aug {ti : TIp} (h : σ[n]? = some (some x)) (q : te σ H fun y H1 => ti x y H1 fun z H2 => nx (σ.set n (some z)) H2) : tAug n te ti ⟨nx, rt, bk, ct⟩ σ H := ⟨x, h, q⟩
theorem x_ipI {f : Int → Int → Int} (q : Q (.int (f i j)) H) : ipI f (.int i) (.int j) H Q := ⟨i, j, rfl, rfl, q⟩
theorem x_augS {to ti : TE} {tget : V → V → Hp → VK → Prop} {tip : TIp} {tset : TSet} (q : to σ H fun o H1 => ti σ H1 fun i H2 => tget o i H2 fun x H3 => te σ H3 fun y H4 => tip x y H4 fun z H5 => tset o i z H5 fun H6 => nx σ H6) : tAugS to ti te tget tip tset ⟨nx, rt, bk, ct⟩ σ H := q
/- built-ins -/
theorem x_lenS {R : List V → Prop} (h : SqL K H p xs) (q : R xs) : ∃ p' ys, [V.ref p] = [.ref p'] ∧ (SqL K H p' ys ∨ SqT K H p' ys) ∧ R ys := ⟨p, xs, rfl, .inl h, q⟩
theorem x_lenT {R : List V → Prop} (h : SqT K H p xs) (q : R xs) : ∃ p' ys, [V.ref p] = [.ref p'] ∧ (SqL K H p' ys ∨ SqT K H p' ys) ∧ R ys := ⟨p, xs, rfl, .inr h, q⟩
theorem x_abs {R : Int → Prop} (q : R i) : ∃ k, [V.int i] = [.int k] ∧ R k := ⟨i, rfl, q⟩
theorem x_toI {R : Int → Prop} {R' : Bool → Prop} (q : R i) : (∃ k, [V.int i] = [.int k] ∧ R k) ∨ ∃ k, [V.int i] = [.bl k] ∧ R' k := .inl ⟨i, rfl, q⟩
theorem x_toIb {R : Int → Prop} {R' : Bool → Prop} {b : Bool} (q : R' b) : (∃ k, [V.bl b] = [.int k] ∧ R k) ∨ ∃ k, [V.bl b] = [.bl k] ∧ R' k := .inr ⟨b, rfl, q⟩
theorem x_min2 {R : Int → Int → Prop} (q : R i j) : ∃ a b, [V.int i, V.int j] = [.int a, .int b] ∧ R a b := ⟨i, j, rfl, q⟩
theorem x_tupS {Q1 Q2 : Addr → List V → Prop} (h : SqL K H p xs) (q : Q1 p xs) : ∃ p' ys, [V.ref p] = [.ref p'] ∧ ((SqL K H p' ys ∧ Q1 p' ys) ∨ (SqT K H p' ys ∧ Q2 p' ys)) := ⟨p, xs, rfl, .inl ⟨h, q⟩⟩
theorem x_tupF1 {R : List V → Prop} (h : SqL K H p xs) (q : R xs) : ∃ p' ys, [V.ref p] = [.ref p'] ∧ SqL K H p' ys ∧ R ys := ⟨p, xs, rfl, h, q⟩
theorem x_insert {R : Addr → List V → Int → V → Prop} (h : H p = some (.lst xs)) (l : xs.length < sizeLine) (h0 : 0 ≤ i) (h1 : i < 2 ^ 63) (q : R p xs i v) :
    ∃ (l : Addr) (ys : List V) (k : Int) (y : V), V.ref p = .ref l ∧ [V.int i, v] = [.int k, y] ∧ H l = some (.lst ys) ∧ ys.length < sizeLine ∧ 0 ≤ k ∧ k < 2 ^ 63 ∧ R l ys k y := ⟨p, xs, i, v, rfl, rfl, h, l, h0, h1, q⟩
theorem x_bm {r : V → List V → Hp → VK → Prop} {T : String} (q : ta σ H fun x H1 => tyV K T x H1 ∧ t σ H1 fun xs H2 => r x xs H2 Q) : tBM K T r ta t σ H Q := q
theorem x_bm0 {r : V → List V → Hp → VK → Prop} {T : String} (q : ta σ H fun x H1 => tyV K T x H1 ∧ r x [] H1 Q) : tBM0 K T r ta σ H Q := q
theorem x_bmF {r : V → List V → Hp → VK → Prop} {T : String} (q : ta σ H fun x H1 => tyF T x H1 ∧ t σ H1 fun xs H2 => r x xs H2 Q) : tBMF T r ta t σ H Q := q
theorem ty_list (h : SqL K H p xs) : tyV K "list" (.ref p) H := .inl ⟨rfl, xs, h⟩
theorem x_append {Q : VK} (h : H p = some (.lst xs)) (l : xs.length < sizeLine) (q : Q .non (upd H p (.lst (xs ++ [v])))) : rAppend (.ref p) [v] H Q := ⟨p, xs, v, rfl, rfl, h, l, q⟩
theorem x_reverse {Q : VK} (h : H p = some (.lst xs)) (q : Q .non (upd H p (.lst xs.reverse))) : rReverse (.ref p) [] H Q := ⟨p, xs, rfl, rfl, h, q⟩
theorem x_lrg {Q : VK} {te : SS → Hp → (Int → Int → Hp → Prop) → Prop} (q : te σ H fun a b H1 => RgOk a b ∧ ∀ q, H1 q = none → Q (.ref q) (upd H1 q (.lst (rgV a b)))) : tLstRg te σ H Q := q
theorem x_rg1 {QR : Int → Int → Hp → Prop} (q : ta σ H fun x H1 => ∃ n, x = .int n ∧ QR 0 n H1) : tRg1 ta σ H QR := q
end
section
variable {K : PySem.W.Frag} {H : Hp} {Q : VK} {n : Nat}
theorem x_new {R : Addr → Prop} (z : n ≤ sizeLine) (q : ∀ p, H p = none → R p) : n ≤ sizeLine ∧ ∀ p, H p = none → R p := ⟨z, q⟩
theorem x_newF {R : Addr → Obj → Prop} (z : n ≤ sizeLine) (q : ∀ p (o : Obj), H p = none → o.cls = .type "tuple" → o.dict = none → R p o) : n ≤ sizeLine ∧ ∀ p (o : Obj), H p = none → o.cls = .type "tuple" → o.dict = none → R p o := ⟨z, q⟩
theorem x_iteT {A B : Prop} (q : A) : if true = true then A else B := iteT q
theorem x_iteF {A B : Prop} (q : B) : if false = true then A else B := iteF q
theorem dp_ints {a : Addr} : ∀ cs : List Int, DpAll K H (cs.map V.int) (cs.map PyData.int)
  | [] => .nil
  | z :: r => .cons (.int z) (dp_ints (a := a) r)
theorem lay_ints : ∀ cs : List Int, PyData.canLayAll0 (cs.map PyData.int) = true
  | [] => by simp only [List.map_nil, PyData.canLayAll0]
  | z :: r => by simp only [List.map_cons, PyData.canLayAll0, PyData.canLay0, lay_ints r, Bool.and_self]
theorem deep_ints : ∀ cs : List Int, PyData.depthAll (cs.map PyData.int) = 0
  | [] => by simp only [List.map_nil, PyData.depthAll]
  | z :: r => by simp [List.map_cons, PyData.depthAll, PyData.depth, deep_ints r]
theorem shaped_ints (cs : List Int) : SeqAt.shaped (.list (cs.map PyData.int)) = true := by
  unfold SeqAt.shaped
  simp [PyData.canLay0, PyData.depth, lay_ints, deep_ints]
theorem x_neNil {a b : Addr} {cs : List Int} (h : SqL K H a (cs.map V.int)) (hb : SqL K H b []) (q : Q (.bl (!cs.isEmpty)) H) : rNeD K (.ref a) (.ref b) H Q := by
  refine ⟨.list (cs.map PyData.int), .list [], .lst h (dp_ints (a := a) cs), .lst hb .nil, shaped_ints cs, shaped_ints [], ?_⟩
  have e : PyData.eqv (.list (cs.map PyData.int)) (.list []) = cs.isEmpty := by
    cases cs <;> simp [PyData.eqv, PyData.eqvAll]
  rw [e]
  exact q
end
theorem natAbs_lt {i : Int} {n : Nat} (h : -(n : Int) < i) (h2 : i < n) : i.natAbs < n := by omega
/- looking up -/
theorem boot'_len : bootBuiltins "len" = some (.builtin "len") := by decide +kernel
theorem boot'_abs : bootBuiltins "abs" = some (.builtin "abs") := by decide +kernel
theorem boot'_int : bootBuiltins "int" = some (.type "int") := by decide +kernel
theorem boot'_bool : bootBuiltins "bool" = some (.type "bool") := by decide +kernel
theorem boot'_list : bootBuiltins "list" = some (.type "list") := by decide +kernel
theorem boot'_tuple : bootBuiltins "tuple" = some (.type "tuple") := by decide +kernel
theorem boot'_str : bootBuiltins "str" = some (.type "str") := by decide +kernel
theorem boot'_min : bootBuiltins "min" = some (.builtin "min") := by decide +kernel
theorem boot'_max : bootBuiltins "max" = some (.builtin "max") := by decide +kernel
theorem boot'_sum : bootBuiltins "sum" = some (.builtin "sum") := by decide +kernel
theorem boot'_any : bootBuiltins "any" = some (.builtin "any") := by decide +kernel
theorem boot'_all : bootBuiltins "all" = some (.builtin "all") := by decide +kernel
theorem boot'_repr : bootBuiltins "repr" = some (.builtin "repr") := by decide +kernel
theorem boot'_sorted : bootBuiltins "sorted" = some (.builtin "sorted") := by decide +kernel
theorem boot'_isinstance : bootBuiltins "isinstance" = some (.builtin "isinstance") := by decide +kernel
theorem boot'_range : bootBuiltins "range" = some (.type "range") := by decide +kernel
theorem boot'_enumerate : bootBuiltins "enumerate" = some (.type "enumerate") := by decide +kernel
theorem boot'_set : bootBuiltins "set" = some (.type "set") := by decide +kernel
theorem x_start {t : TS} {D : Ends} {σ σ' : SS} {H : Hp} (e : σ = σ') (q : t D σ' H) : t D σ H := e ▸ q

theorem lk_ne {H : Hp} {p q : Addr} {o u : HO} (h : H q = some u) (n : H p = none) : upd H p o q = some u := (upd_ne (ne_of_none h n)).trans h
theorem lk_ne2 {H : Hp} {p q : Addr} {o u : HO} (hne : q ≠ p) (h : H q = some u) : upd H p o q = some u := (upd_ne hne).trans h
/-- all but what stands in S is kept -/
def Kx (S : List Addr) (H H' : Hp) : Prop := ∀ b o, b ∉ S → H b = some o → H' b = some o
theorem Kx.refl (S : List Addr) (H : Hp) : Kx S H H := fun _ _ _ h => h
theorem Kx.trans {S : List Addr} {H H1 H2 : Hp} (a : Kx S H H1) (b : Kx S H1 H2) : Kx S H H2 := fun c o n h => b c o n (a c o n h)
theorem Kx.new {S : List Addr} {H H1 : Hp} {p : Addr} {o : HO} (a : Kx S H H1) (n : H1 p = none) : Kx S H (upd H1 p o) := fun b u hb h => lk_ne (a b u hb h) n
theorem Kx.fresh {S : List Addr} {H H1 : Hp} {p : Addr} (a : Kx S H H1) (hp : p ∉ S) (n : H1 p = none) : H p = none := by
  cases q : H p with
  | none => rfl
  | some o => rw [a p o hp q] at n; cases n
/-- a write at a thing that H did not know, or that S bears -/
theorem Kx.wr {S : List Addr} {H H1 : Hp} {p : Addr} {o : HO} (a : Kx S H H1) (n : H p = none ∨ p ∈ S) : Kx S H (upd H1 p o) := fun b u hb h => by
  have nb : b ≠ p := by
    rcases n with n | n
    · exact ne_of_none h n
    · exact fun e => hb (e ▸ n)
  rw [upd_ne nb]
  exact a b u hb h
theorem Kx.mono {S T : List Addr} {H H' : Hp} (a : Kx S H H') (h : ∀ b ∈ S, b ∈ T) : Kx T H H' := fun b o n e => a b o (fun z => n (h b z)) e
theorem lk_keep {S : List Addr} {H H' : Hp} {q : Addr} {u : HO} (k : Kx S H H') (hq : q ∉ S) (h : H q = some u) : H' q = some u := k q u hq h
theorem Kx.sqT {S : List Addr} {K : PySem.W.Frag} {H H' : Hp} {a : Addr} {xs : List V} (k : Kx S H H') (n : a ∉ S) (h : SqT K H a xs) : SqT K H' a xs := by
  rcases h with (h | ⟨o, h⟩) | h
  · exact .inl (.inl (k _ _ n h))
  · exact .inl (.inr ⟨o, k _ _ n h⟩)
  · exact .inr h
theorem Kx.sqL {S : List Addr} {K : PySem.W.Frag} {H H' : Hp} {a : Addr} {xs : List V} (k : Kx S H H') (n : a ∉ S) (h : SqL K H a xs) : SqL K H' a xs := by
  rcases h with (h | ⟨o, h⟩) | h
  · exact .inl (.inl (k _ _ n h))
  · exact .inl (.inr ⟨o, k _ _ n h⟩)
  · exact .inr h
theorem Kx.same {H H' : Hp} (h : Same H H') (S : List Addr) : Kx S H H' := fun b o _ e => h b o e


/-! ### loops and comprehensions: what each asks, by a word Pv of the turn -/
section
variable {K : PySem.W.Frag} {σ : SS} {H : Hp} {Q : VK} {nx bk ct : SS → Hp → Prop} {rt : VK} {g : TG} {tb : TS} {tl te : TE} {ta : TA} {tt : TT} {vs : List Nat}
/-- the asking of a for over n turns that give what Y tells while G holds -/
def AskF (n : Nat) (G : Hp → Prop) (Y : Nat → Hp → V → Hp → Prop) (g : TG) (tb : TS) (nx : SS → Hp → Prop) (rt : VK) (σ : SS) (H : Hp) : Prop :=
  ∃ Pv : Nat → SS → Hp → Prop, Pv 0 σ H ∧ (∀ i σ H, i ≤ n → Pv i σ H → G H) ∧
    (∀ i x σ H H', i < n → Pv i σ H → Y i H x H' → g x σ H' fun σ2 H2 => tb ⟨Pv (i + 1), rt, nx, Pv (i + 1)⟩ σ2 H2) ∧ ∀ σ H, Pv n σ H → nx σ H
def AskC (n : Nat) (G : Hp → Prop) (Y : Nat → Hp → V → Hp → Prop) (g : TG) (tt : TT) (te : TE) (vs : List Nat) (σ : SS) (H : Hp) (Q : VK) : Prop :=
  ∀ D, H D = none → ∃ Pv : Nat → Hp → Prop, Pv 0 (upd H D (.lst [])) ∧ (∀ i H, i ≤ n → Pv i H → G H) ∧
    (∀ i x H H', i < n → Pv i H → Y i H x H' → g x (wipe σ vs) H' fun σ2 H2 => wipe σ2 vs = wipe σ vs ∧ tt σ2 H2 fun b H3 =>
      if b = true then te σ2 H3 fun y H4 => ∃ acc, H4 D = some (.lst acc) ∧ acc.length < sizeLine ∧ Pv (i + 1) (upd H4 D (.lst (acc ++ [y]))) else Pv (i + 1) H3) ∧ ∀ H, Pv n H → Q (.ref D) H
theorem askF {J : It} {n : Nat} {G : Hp → Prop} {Y : Nat → Hp → V → Hp → Prop} (w : Walk J n G Y) (q : AskF n G Y g tb nx rt σ H) :
    ∃ W : Nat → Nat → SS → Hp → Prop, (∃ m, W 0 m σ H) ∧ ∀ i m σ H, W i m σ H → (J.stop i H ∧ nx σ H) ∨
      (J.go i H ∧ ∃ N : SS → Hp → Prop, (∀ σ' H', N σ' H' → ∃ m', m' < m ∧ W (i + 1) m' σ' H') ∧ ∀ x H', J.yld i H x H' → g x σ H' fun σ2 H2 => tb ⟨N, rt, nx, N⟩ σ2 H2) := by
  obtain ⟨Pv, h0, h1, h2, h3⟩ := q
  exact for_it (D := ⟨nx, rt, fun _ _ => False, fun _ _ => False⟩) w Pv h0 h1 h2 h3
theorem askC {J : It} {n : Nat} {G : Hp → Prop} {Y : Nat → Hp → V → Hp → Prop} (w : Walk J n G Y) (q : AskC n G Y g tt te vs σ H Q) :
    ∀ D, H D = none → ∃ W : Nat → Nat → Hp → Prop, (∃ m, W 0 m (upd H D (.lst []))) ∧ ∀ i m H, W i m H → (J.stop i H ∧ Q (.ref D) H) ∨
      (J.go i H ∧ ∃ Nx : Hp → Prop, (∀ H', Nx H' → ∃ m', m' < m ∧ W (i + 1) m' H') ∧ ∀ x H', J.yld i H x H' → g x (wipe σ vs) H' fun σ2 H2 => wipe σ2 vs = wipe σ vs ∧ tt σ2 H2 fun b H3 =>
        if b = true then te σ2 H3 fun y H4 => ∃ acc, H4 D = some (.lst acc) ∧ acc.length < sizeLine ∧ Nx (upd H4 D (.lst (acc ++ [y]))) else Nx H3) := by
  intro D hD
  obtain ⟨Pv, h0, h1, h2, h3⟩ := q D hD
  exact lc_it w Pv h0 h1 h2 h3
abbrev YA (xs : List V) := YAt xs
abbrev YE (xs : List V) := YPair (fun i => some (.int (i : Nat))) (fun i => xs[i]?)
def WF (J : It) (g : TG) (tb : TS) (nx : SS → Hp → Prop) (rt : VK) (σ : SS) (H : Hp) : Prop := ∃ W : Nat → Nat → SS → Hp → Prop, (∃ m, W 0 m σ H) ∧ ∀ i m σ H, W i m σ H → (J.stop i H ∧ nx σ H) ∨
      (J.go i H ∧ ∃ N : SS → Hp → Prop, (∀ σ' H', N σ' H' → ∃ m', m' < m ∧ W (i + 1) m' σ' H') ∧ ∀ x H', J.yld i H x H' → g x σ H' fun σ2 H2 => tb ⟨N, rt, nx, N⟩ σ2 H2)
def WC (J : It) (g : TG) (tt : TT) (te : TE) (vs : List Nat) (σ : SS) (H : Hp) (Q : VK) : Prop := ∀ D, H D = none → ∃ W : Nat → Nat → Hp → Prop, (∃ m, W 0 m (upd H D (.lst []))) ∧ ∀ i m H, W i m H → (J.stop i H ∧ Q (.ref D) H) ∨
      (J.go i H ∧ ∃ Nx : Hp → Prop, (∀ H', Nx H' → ∃ m', m' < m ∧ W (i + 1) m' H') ∧ ∀ x H', J.yld i H x H' → g x (wipe σ vs) H' fun σ2 H2 => wipe σ2 vs = wipe σ vs ∧ tt σ2 H2 fun b H3 =>
        if b = true then te σ2 H3 fun y H4 => ∃ acc, H4 D = some (.lst acc) ∧ acc.length < sizeLine ∧ Nx (upd H4 D (.lst (acc ++ [y]))) else Nx H3)
theorem x_for {wi : TI} (q : wi σ H fun J H1 => WF J g tb nx rt σ H1) : tFor wi g tb ⟨nx, rt, bk, ct⟩ σ H := q
theorem x_lc {wi : TI} (q : wi σ H fun J H1 => WC J g tt te vs σ H1 Q) : tLc wi g tt te vs σ H Q := q
theorem x_yes {QB : Bool → Hp → Prop} (q : QB true H) : tYes σ H QB := q
theorem x_iL {R : It → Hp → Prop} (q : tl σ H fun x H1 => ∃ a, x = .ref a ∧ (∃ xs, SqL K H1 a xs) ∧ R (Itl K a) H1) : iList K tl σ H R := q
theorem x_iT {R : It → Hp → Prop} (q : tl σ H fun x H1 => ∃ a, x = .ref a ∧ (∃ xs, SqT K H1 a xs) ∧ R (Itt K a) H1) : iTup K tl σ H R := q
theorem x_iR1 {R : It → Hp → Prop} (q : ta σ H fun vs H1 => ∃ j : Int, vs = [.int j] ∧ -(2 ^ 62) ≤ j ∧ j < 2 ^ 62 ∧ R (Itr 0 j.toNat) H1) : iRng1 ta σ H R := q
theorem x_iR2 {R : It → Hp → Prop} (q : ta σ H fun vs H1 => ∃ i j : Int, vs = [.int i, .int j] ∧ (-(2 ^ 62) ≤ i ∧ i < 2 ^ 62 ∧ -(2 ^ 62) ≤ j ∧ j < 2 ^ 62) ∧ R (Itr i (j - i).toNat) H1) : iRng2 ta σ H R := q
theorem x_iE {R : It → Hp → Prop} (q : ta σ H fun vs H1 => ∃ a xs, vs = [.ref a] ∧ SqL K H1 a xs ∧ R (Ite K a) H1) : iEnum K ta σ H R := q
theorem x_iET {R : It → Hp → Prop} (q : ta σ H fun vs H1 => ∃ a xs, vs = [.ref a] ∧ SqT K H1 a xs ∧ R (IteT K a) H1) : iEnumT K ta σ H R := q
/- the asking, at the end of the walked thing's value -/
variable {a : Addr} {xs : List V}
theorem y_forL (h : SqL K H a xs) (q : AskF xs.length (fun H => SqL K H a xs) (YA xs) g tb nx rt σ H) : ∃ b, V.ref a = .ref b ∧ (∃ xs, SqL K H b xs) ∧ WF (Itl K b) g tb nx rt σ H := ⟨a, rfl, ⟨xs, h⟩, askF walk_list q⟩
theorem y_forT (h : SqT K H a xs) (q : AskF xs.length (fun H => SqT K H a xs) (YA xs) g tb nx rt σ H) : ∃ b, V.ref a = .ref b ∧ (∃ xs, SqT K H b xs) ∧ WF (Itt K b) g tb nx rt σ H := ⟨a, rfl, ⟨xs, h⟩, askF walk_tup q⟩
theorem y_forR1 {j : Int} (h0 : 0 ≤ j) (h1 : j < 1000000) (q : AskF j.toNat (fun _ => True) (YFn fun i => .int (0 + i)) g tb nx rt σ H) : -(2 ^ 62) ≤ j ∧ j < 2 ^ 62 ∧ WF (Itr 0 j.toNat) g tb nx rt σ H :=
  ⟨by omega, by omega, askF walk_range q⟩
theorem y_forR2 {i j : Int} (h0 : -1000000 < i) (h1 : i < 1000000) (h2 : -1000000 < j) (h3 : j < 1000000) (q : AskF (j - i).toNat (fun _ => True) (YFn fun k => .int (i + k)) g tb nx rt σ H) : (-(2 ^ 62) ≤ i ∧ i < 2 ^ 62 ∧ -(2 ^ 62) ≤ j ∧ j < 2 ^ 62) ∧ WF (Itr i (j - i).toNat) g tb nx rt σ H :=
  ⟨⟨by omega, by omega, by omega, by omega⟩, askF walk_range q⟩
theorem y_forE (h : SqL K H a xs) (q : AskF xs.length (fun H => SqL K H a xs) (YE xs) g tb nx rt σ H) : ∃ b ys, [V.ref a] = [.ref b] ∧ SqL K H b ys ∧ WF (Ite K b) g tb nx rt σ H := ⟨a, xs, rfl, h, askF walk_enum q⟩
theorem y_forET (h : SqT K H a xs) (q : AskF xs.length (fun H => SqT K H a xs) (YE xs) g tb nx rt σ H) : ∃ b ys, [V.ref a] = [.ref b] ∧ SqT K H b ys ∧ WF (IteT K b) g tb nx rt σ H := ⟨a, xs, rfl, h, askF walk_enumT q⟩
theorem y_lcL (h : SqL K H a xs) (q : AskC xs.length (fun H => SqL K H a xs) (YA xs) g tt te vs σ H Q) : ∃ b, V.ref a = .ref b ∧ (∃ xs, SqL K H b xs) ∧ WC (Itl K b) g tt te vs σ H Q := ⟨a, rfl, ⟨xs, h⟩, askC walk_list q⟩
theorem y_lcT (h : SqT K H a xs) (q : AskC xs.length (fun H => SqT K H a xs) (YA xs) g tt te vs σ H Q) : ∃ b, V.ref a = .ref b ∧ (∃ xs, SqT K H b xs) ∧ WC (Itt K b) g tt te vs σ H Q := ⟨a, rfl, ⟨xs, h⟩, askC walk_tup q⟩
theorem y_lcR1 {j : Int} (h0 : 0 ≤ j) (h1 : j < 1000000) (q : AskC j.toNat (fun _ => True) (YFn fun i => .int (0 + i)) g tt te vs σ H Q) : -(2 ^ 62) ≤ j ∧ j < 2 ^ 62 ∧ WC (Itr 0 j.toNat) g tt te vs σ H Q :=
  ⟨by omega, by omega, askC walk_range q⟩
theorem y_lcE (h : SqL K H a xs) (q : AskC xs.length (fun H => SqL K H a xs) (YE xs) g tt te vs σ H Q) : ∃ b ys, [V.ref a] = [.ref b] ∧ SqL K H b ys ∧ WC (Ite K b) g tt te vs σ H Q := ⟨a, xs, rfl, h, askC walk_enum q⟩
theorem y_lcET (h : SqT K H a xs) (q : AskC xs.length (fun H => SqT K H a xs) (YE xs) g tt te vs σ H Q) : ∃ b ys, [V.ref a] = [.ref b] ∧ SqT K H b ys ∧ WC (IteT K b) g tt te vs σ H Q := ⟨a, xs, rfl, h, askC walk_enumT q⟩
end

/-! ### the same rules where the block's own K is told from outside -/
section
variable {X : Cx} {K : PySem.W.Frag}
theorem ix_listK (e : X.K = K := by rfl) : IxR X (rIxL K) := e ▸ ix_list
theorem ix_tupK (e : X.K = K := by rfl) : IxR X (rIxT K) := e ▸ ix_tup
theorem sl_listK (e : X.K = K := by rfl) : SlR X (rSlL K) := e ▸ sl_list
theorem call_lenK (e : X.K = K := by rfl) : CallR X (.builtin "len") (fun xs H Q => ∃ p ys, xs = [.ref p] ∧ (SqL K H p ys ∨ SqT K H p ys) ∧ Q (.int ys.length) H) := e ▸ call_len_seq
theorem call_tupFK (e : X.K = K := by rfl) : CallR X (.type "tuple") (fun xs H Q => ∃ p ys, xs = [.ref p] ∧ SqL K H p ys ∧ ∀ l o, H l = none → o.cls = .type "tuple" → o.dict = none → Q (.ref l) (upd H l (.frz o (.tup ys)))) := e ▸ call_tupF
theorem call_tuple_ofK (e : X.K = K := by rfl) : CallR X (.type "tuple") (fun xs H Q => ∃ p ys, xs = [.ref p] ∧ ((SqL K H p ys ∧ ∀ l, H l = none → Q (.ref l) (upd H l (.tup ys))) ∨ (SqT K H p ys ∧ Q (.ref p) H))) := e ▸ call_tuple_of
theorem call_list_ofK (e : X.K = K := by rfl) : CallR X (.type "list") (fun xs H Q => ∃ p ys, xs = [.ref p] ∧ (SqL K H p ys ∨ SqT K H p ys) ∧ ∀ l, H l = none → Q (.ref l) (upd H l (.lst ys))) := e ▸ call_list_of
theorem mt_countTK (e : X.K = K := by rfl) : MtR X "tuple.count" (rCountT K) := e ▸ mt_countT
theorem op_in_seqK (e : X.K = K := by rfl) : OpR X (compareOp .In) (rIn K false) := e ▸ op_in_seq
theorem op_notIn_seqK (e : X.K = K := by rfl) : OpR X (compareOp .NotIn) (rIn K true) := e ▸ op_notIn_seq
theorem pg_tupK {es : List Expr} {k : Nat} {pos : Pos} {t : TGs} {n : Nat} (e : X.K = K) (hc : X.calm = true) (h : PGs X es t)
    (hn : (assignEach es X.env).length = n := by rfl) (hst : (assignEach es X.env).findIdx? (·.1) = none := by rfl) : PG X (.Tuple es k pos) (gTup K n t) := e ▸ pg_tup hc h hn hst
end

/-! ### comprehensions whose turn gives one value f i, the heap but for what is new as it was -/
theorem cut63 (xs : List V) : cutV xs none (some 63) = xs.take 63 := by
  unfold cutV
  rw [HT.sIx_none, show HT.sIx xs.length xs.length (some 63) = min 63 xs.length from HT.sIx_nat xs.length xs.length 63]
  show List.take (min 63 xs.length - 0) (List.drop 0 xs) = _
  rw [Nat.sub_zero, List.drop_zero]
  rcases Nat.le_total 63 xs.length with h | h
  · rw [Nat.min_eq_left h]
  · rw [Nat.min_eq_right h, List.take_length, List.take_of_length_le h]


section
variable {X : Cx}
theorem get_list : PGet X (rGetL X.K) := by
  intro pins s σ H o i ov iv Q I ro ri h
  obtain ⟨p, xs, k, v, rfl, rfl, hq, he, q⟩ := h
  cases ro
  obtain ⟨t, rfl⟩ := ri
  obtain ⟨its, r, pl, hz⟩ := I.list hq
  obtain ⟨j, h1, h2, h3, h4, h5⟩ := atI_get he
  obtain ⟨w, ew, rw'⟩ := r.get h2
  have hl := r.length
  have hn := line63
  by_cases h0 : 0 ≤ k
  · have hj : k.toNat = j := by
      rw [seqIndex_of h0 h5] at h1
      exact Option.some.inj h1
    exact wpAny_getItem_list pl.isList h0 (by omega) (by rw [hj]; simpa using ew) ⟨v, H, I, rw', q⟩
  · have hj : (k + (its.toArray.size : Int)).toNat = j := by
      rw [seqIndex_neg (by omega) h4] at h1
      rw [List.size_toArray, ← hl]
      exact Option.some.inj h1
    exact wpAny_getItem_list_neg pl.isList (by omega) (by rw [List.size_toArray] <;> omega) (by omega) (by rw [hj]; simpa using ew) ⟨v, H, I, rw', q⟩
end
section
variable {K : PySem.W.Frag} {σ : SS} {H : Hp} {Q : VK} {v : V} {p : Addr} {xs : List V} {i : Int}
theorem x_getL (h : SqL K H p xs) (a : atI xs i = some v) (q : Q v H) : rGetL K (.ref p) (.int i) H Q := ⟨p, xs, i, v, rfl, rfl, h, a, q⟩
theorem x_rep {k : Int} {l : Addr} (h : H l = some (.lst xs)) (h0 : 0 ≤ k) (h1 : k < 1000000) (z : xs.length * k.toNat ≤ sizeLine) (q : ∀ p, H p = none → Q (.ref p) (upd H p (.lst (List.replicate k.toNat xs).flatten))) : rRep (.ref l) (.int k) H Q :=
  ⟨l, k, xs, rfl, rfl, h, by omega, by omega, z, q⟩
theorem x_sum {a : Addr} {ns : List Int} (h : SqL K H a (ns.map V.int)) (q : Q (.int ns.sum) H) : rSum K [.ref a] H Q := ⟨a, ns, rfl, h, q⟩
theorem x_countT {a : Addr} {ys : List V} {y : V} (h : SqT K H a ys) (f : flatV y = true) (fs : ys.all flatV = true) (q : Q (.int ((ys.countP fun z => eqV z y : Nat) : Int)) H) : rCountT K (.ref a) [y] H Q := ⟨a, ys, y, rfl, rfl, h, f, fs, q⟩
end

/-! ### data whose repr is told -/
structure Good (d : PyData) (dep w : Nat) : Prop where
  sh : d.showable = true
  nd : d.hasDict = false
  dp : d.depth ≤ dep
  sl : d.leavesShort 13 = true
  wt : d.weight ≤ w
theorem Good.mono {d : PyData} {a b w v : Nat} (g : Good d a w) (h : a ≤ b) (h2 : w ≤ v) : Good d b v := ⟨g.sh, g.nd, Nat.le_trans g.dp h, g.sl, Nat.le_trans g.wt h2⟩
theorem Good.none : Good .none 0 0 := ⟨rfl, rfl, Nat.le_refl _, rfl, Nat.le_refl _⟩
theorem Good.bool (b : Bool) : Good (.bool b) 0 0 := ⟨rfl, rfl, Nat.le_refl _, rfl, Nat.le_refl _⟩
theorem Good.int {z : Int} (h : z.natAbs < 10 ^ 9) : Good (.int z) 0 31 := by
  have hl : z.natAbs.log2 < 30 := PySem.Flt.log2_lt_of (by decide) (Nat.lt_of_lt_of_le h (by decide))
  refine ⟨?_, rfl, Nat.le_refl _, ?_, ?_⟩
  · simp only [PyData.showable, decide_eq_true_eq]
    omega
  · simp only [PyData.leavesShort, PyData.shown]
    have := int_text_length_le10 (k := 9) (by decide) h
    refine decide_eq_true ?_
    show (Str.ofString (toString z)).length ≤ 13
    rw [PySem.ofString_length]
    omega
  · simp only [PyData.weight]
    split <;> omega
theorem good_all {k w : Nat} : ∀ {ds : List PyData}, (∀ d ∈ ds, Good d k w) → PyData.showableAll ds = true ∧ PyData.hasDictAll ds = false ∧ PyData.depthAll ds ≤ k ∧ PyData.leavesShortAll 13 ds = true ∧ PyData.weightAll ds ≤ ds.length * (w + 1)
  | [], _ => ⟨rfl, rfl, Nat.zero_le _, rfl, Nat.zero_le _⟩
  | d :: ds, h => by
    obtain ⟨a1, a2, a3, a4, a5⟩ := good_all (ds := ds) fun x hx => h x (List.mem_cons_of_mem _ hx)
    have g := h d List.mem_cons_self
    refine ⟨?_, ?_, ?_, ?_, ?_⟩
    · simp only [PyData.showableAll, g.sh, a1, Bool.and_self]
    · simp only [PyData.hasDictAll, g.nd, a2, Bool.or_self]
    · simp only [PyData.depthAll]
      exact Nat.max_le.mpr ⟨g.dp, a3⟩
    · simp only [PyData.leavesShortAll, g.sl, a4, Bool.and_self]
    · simp only [PyData.weightAll, List.length_cons, Nat.add_mul]
      have := g.wt
      omega
theorem Good.list {ds : List PyData} {k w n : Nat} (h : ∀ d ∈ ds, Good d k w) (hn : ds.length ≤ n) : Good (.list ds) (k + 1) (n * (w + 1)) := by
  obtain ⟨a1, a2, a3, a4, a5⟩ := good_all h
  exact ⟨by simpa only [PyData.showable] using a1, by simpa only [PyData.hasDict] using a2, by simp only [PyData.depth]; omega, by simpa only [PyData.leavesShort] using a4, by simp only [PyData.weight]; exact Nat.le_trans a5 (Nat.mul_le_mul_right _ hn)⟩
theorem Good.tuple {ds : List PyData} {k w n : Nat} (h : ∀ d ∈ ds, Good d k w) (hn : ds.length ≤ n) : Good (.tuple ds) (k + 1) (n * (w + 1)) := by
  obtain ⟨a1, a2, a3, a4, a5⟩ := good_all h
  exact ⟨by simpa only [PyData.showable] using a1, by simpa only [PyData.hasDict] using a2, by simp only [PyData.depth]; omega, by simpa only [PyData.leavesShort] using a4, by simp only [PyData.weight]; exact Nat.le_trans a5 (Nat.mul_le_mul_right _ hn)⟩
theorem x_repr {K : PySem.W.Frag} {H : Hp} {Q : VK} {a : Addr} {d : PyData} {k w : Nat} (h : Dp K H (.ref a) d) (g : Good d k w) (hk : k ≤ 60) (hw : w ≤ 2 ^ 20) (q : Q (.str d.shown) H) : rRepr K [.ref a] H Q :=
  ⟨a, d, rfl, h, g.sh, g.nd, Nat.le_trans g.dp hk, PyData.shown_fits (by decide) (by decide) g.sl (Nat.le_trans g.wt hw), q⟩
/- what stands at an address as data is kept -/
theorem Kx.rd {S : List Addr} {H H' : Hp} {a : Addr} {u : HO} (k : Kx S H H') (n : a ∉ S) (h : Rd H a u) : Rd H' a u := by
  rcases h with h | ⟨o, h⟩
  · exact .inl (k _ _ n h)
  · exact .inr ⟨o, k _ _ n h⟩
mutual
theorem dp_keep {K : PySem.W.Frag} {H H' : Hp} (k : Kx [] H H') : ∀ (d : PyData) (v : V), Dp K H v d → Dp K H' v d
  | .none, _, h => by cases h; exact .non
  | .bool b, _, h => by cases h; exact .bl b
  | .int i, _, h => by cases h; exact .int i
  | .str x, _, h => by cases h; exact .str x
  | .list ds, _, h => by
    cases h with
    | lst h1 h2 => exact .lst (k.sqL (by simp) h1) (dp_keepAll k ds _ h2)
  | .tuple ds, _, h => by
    cases h with
    | tup h1 h2 => exact .tup (k.sqT (by simp) h1) (dp_keepAll k ds _ h2)
  | .dict _, _, h => by cases h
theorem dp_keepAll {K : PySem.W.Frag} {H H' : Hp} (k : Kx [] H H') : ∀ (ds : List PyData) (vs : List V), DpAll K H vs ds → DpAll K H' vs ds
  | [], _, h => by cases h; exact .nil
  | d :: ds, _, h => by
    cases h with
    | cons h1 h2 => exact .cons (dp_keep k d _ h1) (dp_keepAll k ds _ h2)
end

section
variable {X : Cx}
/-- sorted(d) of a dict whose keys are ints -/
def rSortedD : List V → Hp → VK → Prop := fun xs H Q => ∃ (a : Addr) (kvs : List (Key × V)) (ks : List Int), xs = [.ref a] ∧ H a = some (.dK kvs) ∧ kvs.map (·.1) = ks.map Sum.inl ∧
    ∀ (ns : List Int) (p : Addr), ns.Perm ks → ns.Pairwise (· ≤ ·) → H p = none → Q (.ref p) (upd H p (.lst (ns.map V.int)))
theorem cr_sortedDI (hcalm : X.calm = true) : CallR X (.builtin "sorted") rSortedD := by
  intro pins s σ H xs us Q I r q
  obtain ⟨a, kvs, ks, ex, hd, hks, q⟩ := q
  subst ex
  obtain ⟨u, eu, rx⟩ := vals1 r
  subst eu
  cases rx
  obtain ⟨z, lo, vs, rel, dd⟩ := dk_of I.hok hd
  obtain ⟨ep, hat⟩ := dd.dictAt
  have hkeys : vs.map (·.1) = ks.map Sum.inl := rel.keys.symm.trans hks
  have hl : vs.length = ks.length := by
    have e := congrArg List.length hkeys
    rw [List.length_map, List.length_map] at e
    exact e
  have h16 : vs.length ≤ sizeLine := by rw [← rel.length]; exact z
  refine Calls.call_function_entry PyProof.Rows.kind_sorted PyProof.Rows.plain_sorted PyProof.Rows.entry_sorted (PyProof.Rows.args_sorted1 _) ?_
  unfold Builtin.«sorted»
  refine wpAny_bind (m := checkCount "sorted" 1 1 _) (wpAny_pure ?_)
  refine wpAny_bind (PySem.W.kdu_collect (A := X.A.in1) (PySem.W.kdl_dict (knd := mixKind X.prog X.w) (kvs := vs) (ep := ep) lo) (I.ok.hd hcalm) hat h16 fun h' tk acc hk hacc => ?_)
  have hal : acc.toList.length = ks.length := by rw [Array.length_toList, hacc.1, hl]
  have hv : Vals (ks.map V.int) acc.toList := vals_of_at (by rw [List.length_map, hal]) fun j x w h1 h2 => by
    obtain ⟨k, y, e1, e2⟩ := hacc.2 j w (by rw [← Array.getElem?_toList]; exact h2)
    have e3 : (vs.map (·.1))[j]? = some k := by rw [List.getElem?_map, e1]; all_goals rfl
    rw [hkeys, List.getElem?_map] at e3
    rw [List.getElem?_map] at h1
    cases e4 : ks[j]? with
    | none => rw [e4] at e3; cases e3
    | some i =>
      rw [e4] at e3 h1
      have e5 : Sum.inl i = k := Option.some.inj e3
      subst e5
      have e6 : V.int i = x := Option.some.inj h1
      subst e6
      exact keyIs_rel (k := .inl i) e2
  have hi := hv.ints
  have I1 : Inv X pins σ H { s with heap := h', toks := tk } := I.kept hk
  have hz : acc.toList.length ≤ sizeLine := by rw [hal, ← hl]; exact h16
  refine wpAny_bind (wpAny_newList ?_ hz)
  have hoL : (h'.push (PyProof.Rows.seqObj "list" acc.toList.toArray 0)).get? h'.objs.size = some (PyProof.Rows.seqObj "list" acc.toList.toArray 0) := Heap.get?_push_size _ rfl
  show wpAny _ _ _ _ _ { s with heap := h'.push (PyProof.Rows.seqObj "list" acc.toList.toArray 0), toks := tk }
  refine wpAny_bind (wpAny_holding (wpAny_call_entry PyProof.Rows.slot_list_sort ⟨_, hoL, rfl⟩ PyProof.Rows.entry_list_sort
    (SrtO.list_sort_ord SrtO.swo_int hoL hz (fun h2 => SrtO.ints_sortable hi h2) fun out h1 h2 => ⟨_, rfl, ?_⟩) (PyProof.Rows.args_list_sort _)))
  obtain ⟨k1, k2, k3⟩ := SrtO.ints_out hi h1 h2
  obtain ⟨e', he'⟩ := PyProof.Rows.sortedHeap_at (vs := acc.toList) (out := out.toArray) hoL
  have hlen : ((out.map SrtO.iv).map V.int).length ≤ sizeLine := by
    rw [List.length_map, k2.length_eq, ← hal]
    exact hz
  refine wpAny_pure ⟨_, rfl, .ref h'.objs.size, upd H h'.objs.size (.lst ((out.map SrtO.iv).map V.int)), I1.laid (t' := tk) (fun b u e => ?_) (Nat.le_refl _)
    (show ObjOk X.prog X.w _ _ _ (.lst ((out.map SrtO.iv).map V.int)) from ⟨hlen, out, e', vals_of_ints k1, he'⟩), rfl, q _ _ k2 k3 (I1.hok.fresh (Nat.le_refl _))⟩
  have hb : b < h'.objs.size := Heap.lt_size e
  rw [PyProof.Rows.sortedHeap_old (Nat.ne_of_lt hb) (by rw [size_push']; exact Nat.lt_succ_of_lt hb)]
  exact Heap.get?_push_of_some _ e
end

section
variable {X : Cx}
theorem sw_trueD {kx vx : Expr} {gs : List Comprehension} {scope : Scope} {pos py : Pos} {y : Str} {l : Nat} {env : Env} (hk : env.scope.kind = .function) (hy : env.scope.names.lookup y = some .local) (hl : (py.line == pos.line) = true)
    (ha : (scope.names.any fun (n, k) => n == y && (k == .local || k == .cell)) = false) : swapsWith (.DictComp kx vx gs scope pos) (some (.Name y py)) l env = pure true := by
  have ky : env.kindOf y = some .local := hy
  have hb : env.blockKind = .function := by unfold Env.blockKind; rw [hk]; rfl
  unfold swapsWith
  simp only [hb, ky, ha, Expr.pos, hl]
  rfl
theorem ps_setDc {i : Nat} {y : Str} {py : Pos} {kx vx tg iter : Expr} {ifs : List Expr} {scope : Scope} {own : List (Str × Nat)} {pos spos : Pos} {wi : TI} {g : TG} {tt : TT} {tk tv : TE} (hc : X.calm = true) (hN : X.N.Nodup) (hy : X.N[i]? = some y) (hyl : X.env.scope.names.lookup y = some .local)
    (hsw : swapsWith (.DictComp kx vx [⟨tg, iter, ifs, 0⟩] scope pos) (some (.Name y py)) spos.line X.env = pure true) (hi : PI X tg iter wi) (ok : BlkOk X.N X.env.scope scope own)
    (hg : ∀ (s : Shared) (H : Hp) (C : Addr) (cl : List (Str × Addr)) (fp : List Addr), PG (X.blk s H scope (compEnvC scope cl C X.env) fp) tg g) (ht : ∀ (s : Shared) (H : Hp) (C : Addr) (cl : List (Str × Addr)) (fp : List Addr), PTs (X.blk s H scope (compEnvC scope cl C X.env) fp) ifs tt)
    (hk : ∀ (s : Shared) (H : Hp) (C : Addr) (cl : List (Str × Addr)) (fp : List Addr), PE (X.blk s H scope (compEnvC scope cl C X.env) fp) kx tk)
    (he : ∀ (s : Shared) (H : Hp) (C : Addr) (cl : List (Str × Addr)) (fp : List Addr), PE (X.blk s H scope (compEnvC scope cl C X.env) fp) vx tv) (hs : ∀ x, foldedSetIterable iter X.env x = pure x := by intro _; rfl) :
    PS X (.Assign [.Name y py] (.DictComp kx vx [⟨tg, iter, ifs, 0⟩] scope pos) spos) (tAsg (tDc wi g tt tk tv (own.map (·.2))) (gName i)) := by
  refine ⟨fun pins s σ H D I h => ?_⟩
  rw [exec_Assign_Name_used _ _ _ _ hsw]
  refine wpAny_bind (wpAny_standAt (wpAny_bind ?_))
  show wpAny _ X.A (do let _ ← comprehension (.DictComp kx vx [⟨tg, iter, ifs, 0⟩] scope pos) scope X.env (firstIterPos [⟨tg, iter, ifs, 0⟩] pos) newDict false (eval iter X.env) (some (assign (.Name y py) X.env))) _ _ s
  have h : tDc wi g tt tk tv (own.map (·.2)) σ H (fun x H1 => gName i x σ H1 D.nx) := h
  refine wpAny_bind (thn (dc_core (Qf := fun _ s' => SP X pins D .next s') hc hN I hi ok hg ht hk he hs h fun L C s' m H' I' q hn f => ?_) fun _ s' hq => wpAny_pure (wpAny_pure hq))
  show wpAny _ _ (assign (.Name y py) X.env (.ref L)) _ _ _
  refine wpAny_assign_Name (store_ok2 (v := V.ref L) I' hN hy (.inl hyl) rfl (fun s2 I2 ⟨a, sb, ha⟩ => ?_) (.inr hyl))
  obtain ⟨f0, f1, f2, f3, f4, f5⟩ := f
  have haC : C ≠ a := by
    rcases ha with z | z
    · rw [z]; exact f1
    · exact fun e => f4 y a z e.symm
  refine ⟨m, hn.sameBut sb haC, fun h3 sb3 => ?_⟩
  exact ⟨_, H', I2.turned (t' := s2.toks) (fun b o hb e => (sb3.2 b hb).trans e) f0 f1 f3 f4 f5, q⟩
end
section
variable {K : PySem.W.Frag} {σ : SS} {H : Hp} {Q : VK} {QB : Bool → Hp → Prop} {nx bk ct : SS → Hp → Prop} {rt : VK} {g : TG} {tb : TS} {tl te tk tv td ty ta : TE} {tA : TA} {tt : TT} {vs : List Nat} {v : V} {a : Addr} {xs ys : List V}
def AskD (n : Nat) (G : Hp → Prop) (Y : Nat → Hp → V → Hp → Prop) (g : TG) (tt : TT) (tk tv : TE) (vs : List Nat) (σ : SS) (H : Hp) (Q : VK) : Prop :=
  ∀ D, H D = none → ∃ Pv : Nat → Hp → Prop, Pv 0 (upd H D (.dK [])) ∧ (∀ i H, i ≤ n → Pv i H → G H) ∧
    (∀ i x H H', i < n → Pv i H → Y i H x H' → g x (wipe σ vs) H' fun σ2 H2 => wipe σ2 vs = wipe σ vs ∧ tt σ2 H2 fun b H3 =>
      if b = true then tk σ2 H3 fun y H4 => tv σ2 H4 fun z H5 => ∃ kvs k, y = kV k ∧ H5 D = some (.dK kvs) ∧ kvs.length < sizeLine ∧ Pv (i + 1) (upd H5 D (.dK (putK kvs k z))) else Pv (i + 1) H3) ∧ ∀ H, Pv n H → Q (.ref D) H
def WD (J : It) (g : TG) (tt : TT) (tk tv : TE) (vs : List Nat) (σ : SS) (H : Hp) (Q : VK) : Prop := ∀ D, H D = none → ∃ W : Nat → Nat → Hp → Prop, (∃ m, W 0 m (upd H D (.dK []))) ∧ ∀ i m H, W i m H →
  (J.stop i H ∧ Q (.ref D) H) ∨ (J.go i H ∧ ∃ Nx : Hp → Prop, (∀ H', Nx H' → ∃ m', m' < m ∧ W (i + 1) m' H') ∧ ∀ x H', J.yld i H x H' → g x (wipe σ vs) H' fun σ2 H2 => wipe σ2 vs = wipe σ vs ∧ tt σ2 H2 fun b H3 =>
    if b = true then tk σ2 H3 fun y H4 => tv σ2 H4 fun z H5 => ∃ kvs k, y = kV k ∧ H5 D = some (.dK kvs) ∧ kvs.length < sizeLine ∧ Nx (upd H5 D (.dK (putK kvs k z))) else Nx H3)
theorem askD {J : It} {n : Nat} {G : Hp → Prop} {Y : Nat → Hp → V → Hp → Prop} (w : Walk J n G Y) (q : AskD n G Y g tt tk tv vs σ H Q) : WD J g tt tk tv vs σ H Q := by
  intro D hD
  obtain ⟨Pv, h0, hG, hs, hd⟩ := q D hD
  refine ⟨fun i m H => m = n - i ∧ i ≤ n ∧ Pv i H, ⟨n, by simp, Nat.zero_le _, h0⟩, ?_⟩
  rintro i m H ⟨rfl, hi, p⟩
  have qG := hG i H hi p
  by_cases hlt : i < n
  · exact .inr ⟨w.goes i H hlt qG, Pv (i + 1), fun H' p' => ⟨n - (i + 1), by omega, rfl, hlt, p'⟩, fun x H' y => hs i x H H' hlt p (w.yields i H x H' hlt qG y)⟩
  · have e : i = n := by omega
    subst e
    exact .inl ⟨w.stops H qG, hd H p⟩
theorem x_dc {wi : TI} (q : wi σ H fun J H1 => WD J g tt tk tv vs σ H1 Q) : tDc wi g tt tk tv vs σ H Q := q
theorem y_dcL (h : SqL K H a xs) (q : AskD xs.length (fun H => SqL K H a xs) (YA xs) g tt tk tv vs σ H Q) : ∃ b, V.ref a = .ref b ∧ (∃ xs, SqL K H b xs) ∧ WD (Itl K b) g tt tk tv vs σ H Q := ⟨a, rfl, ⟨xs, h⟩, askD walk_list q⟩
/-- a while, by a word of the names and the heap, and a measure -/
theorem x_while {c : TT} (q : ∃ W : Nat → SS → Hp → Prop, (∃ m, W m σ H) ∧ ∀ m σ H, W m σ H → c σ H fun b H1 => if b = true then ∃ N : SS → Hp → Prop, (∀ σ' H', N σ' H' → ∃ m', m' < m ∧ W m' σ' H') ∧ tb ⟨N, rt, nx, N⟩ σ H1 else nx σ H1) : tWhile c tb ⟨nx, rt, bk, ct⟩ σ H := q
theorem x_turn {m : Nat} {W : Nat → SS → Hp → Prop} (q : tb ⟨fun σ' H' => ∃ m', m' < m ∧ W m' σ' H', rt, nx, fun σ' H' => ∃ m', m' < m ∧ W m' σ' H'⟩ σ H) : ∃ N : SS → Hp → Prop, (∀ σ' H', N σ' H' → ∃ m', m' < m ∧ W m' σ' H') ∧ tb ⟨N, rt, nx, N⟩ σ H := ⟨_, fun _ _ h => h, q⟩
theorem x_truthL {R : Bool → Prop} (h : SqL K H a xs) (q : R (!xs.isEmpty)) : ∃ k, TruV K (.ref a) H k ∧ R k := ⟨_, .inl ⟨xs, h, rfl⟩, q⟩
theorem x_pop {Q : VK} {y : V} (h : H a = some (.lst xs)) (e : xs[xs.length - 1]? = some y) (q : Q y (upd H a (.lst xs.dropLast))) : rPop (.ref a) [] H Q := ⟨a, xs, y, rfl, rfl, h, e, q⟩
theorem x_din (q : ty σ H fun y H1 => td σ H1 fun x H2 => ∃ a o, x = .ref a ∧ DGet H2 a y o ∧ Q (.bl o.isSome) H2) : tDIn ty td σ H Q := q
theorem x_dnotin (q : ty σ H fun y H1 => td σ H1 fun x H2 => ∃ a o, x = .ref a ∧ DGet H2 a y o ∧ Q (.bl (!o.isSome)) H2) : tDNotIn ty td σ H Q := q
theorem x_dput (q : tv σ H fun v H1 => td σ H1 fun x H2 => ty σ H2 fun y H3 => ∃ a H4, x = .ref a ∧ DPut H3 a y v H4 ∧ nx σ H4) : sDPut td ty tv ⟨nx, rt, bk, ct⟩ σ H := q
theorem x_dget (q : td σ H fun x H1 => ty σ H1 fun y H2 => ∃ a v, x = .ref a ∧ DGet H2 a y (some v) ∧ Q v H2) : tDGet td ty σ H Q := q
theorem x_dgI {kvs : List (Key × V)} {i : Int} {R : Option V → Prop} (h : H a = some (.dK kvs)) (q : R (valV kvs (.inl i))) : ∃ b o, V.ref a = .ref b ∧ DGet H b (.int i) o ∧ R o := ⟨a, _, rfl, DGet.k (k := .inl i) h, q⟩
theorem x_dpI {kvs : List (Key × V)} {i : Int} {R : Hp → Prop} (h : H a = some (.dK kvs)) (l : kvs.length < sizeLine) (q : R (upd H a (.dK (putK kvs (.inl i) v)))) : ∃ b H', V.ref a = .ref b ∧ DPut H b (.int i) v H' ∧ R H' := ⟨a, _, rfl, DPut.k (k := .inl i) h l, q⟩
theorem x_listD {kvs : List (Key × V)} {Q : VK} (h : H a = some (.dK kvs)) (q : ∀ p, H p = none → Q (.ref p) (upd H p (.lst (kvs.map fun kv => kV kv.1)))) : rListD [.ref a] H Q := ⟨a, kvs, rfl, h, q⟩
theorem x_sortedD {kvs : List (Key × V)} {ks : List Int} {Q : VK} (h : H a = some (.dK kvs)) (e : kvs.map (·.1) = ks.map Sum.inl)
    (q : ∀ (ns : List Int) (p : Addr), ns.Perm ks → ns.Pairwise (· ≤ ·) → H p = none → Q (.ref p) (upd H p (.lst (ns.map V.int)))) : rSortedD [.ref a] H Q := ⟨a, kvs, ks, rfl, h, e, q⟩
theorem x_sortedL {ks : List Int} {Q : VK} (h : SqL K H a (ks.map V.int))
    (q : ∀ (ns : List Int) (p : Addr), ns.Perm ks → ns.Pairwise (· ≤ ·) → H p = none → Q (.ref p) (upd H p (.lst (ns.map V.int)))) : rSortedI K [.ref a] H Q := ⟨a, ks, rfl, h, q⟩
theorem x_inL {x : V} (h : SqL K H a xs) (f : flatV x = true) (fs : xs.all flatV = true) (q : Q (.bl (inV x xs)) H) : rIn K false x (.ref a) H Q := ⟨a, xs, rfl, .inl h, f, fs, q⟩
theorem x_notInL {x : V} (h : SqL K H a xs) (f : flatV x = true) (fs : xs.all flatV = true) (q : Q (.bl (!inV x xs)) H) : rIn K true x (.ref a) H Q := ⟨a, xs, rfl, .inl h, f, fs, q⟩
theorem x_inT {x : V} (h : SqT K H a xs) (f : flatV x = true) (fs : xs.all flatV = true) (q : Q (.bl (inV x xs)) H) : rIn K false x (.ref a) H Q := ⟨a, xs, rfl, .inr h, f, fs, q⟩
theorem x_listL {Q : VK} (h : SqL K H a xs) (q : ∀ l, H l = none → Q (.ref l) (upd H l (.lst xs))) : ∃ p ys, [V.ref a] = [.ref p] ∧ (SqL K H p ys ∨ SqT K H p ys) ∧ ∀ l, H l = none → Q (.ref l) (upd H l (.lst ys)) := ⟨a, xs, rfl, .inl h, q⟩
theorem x_listT {Q : VK} (h : SqT K H a xs) (q : ∀ l, H l = none → Q (.ref l) (upd H l (.lst xs))) : ∃ p ys, [V.ref a] = [.ref p] ∧ (SqL K H p ys ∨ SqT K H p ys) ∧ ∀ l, H l = none → Q (.ref l) (upd H l (.lst ys)) := ⟨a, xs, rfl, .inr h, q⟩
/-- t + u: some tuple of both -/
theorem x_cat {b : Addr} {Q : VK} (h : SqT K H a xs) (h2 : SqT K H b ys) (z : xs.length + ys.length ≤ sizeLine) (q : ∀ (p : Addr) (H' : Hp), SqT K H' p (xs ++ ys) → Kx [] H H' → Q (.ref p) H') : rCatA K (.ref a) (.ref b) H Q := by
  refine ⟨a, b, xs, ys, rfl, rfl, h, h2, z, fun e => ?_, fun _ e => ?_, fun _ _ p hp => ?_⟩
  · subst e
    exact q b H h2 (Kx.refl _ _)
  · subst e
    exact q a H (by rwa [List.append_nil]) (Kx.refl _ _)
  · exact q p _ (SqT.of upd_same) ((Kx.refl _ _).new hp)
theorem in_int {n : Int} : ∀ ns : List Int, inV (.int n) (ns.map V.int) = decide (n ∈ ns)
  | [] => rfl
  | m :: r => by
    have ih := in_int (n := n) r
    unfold inV at ih ⊢
    rw [List.map_cons, List.any_cons, ih]
    by_cases e : m = n
    · subst e
      simp [eqV]
    · have e2 : ¬ n = m := fun z => e z.symm
      simp [eqV, e, e2]
theorem flat_ints : ∀ ns : List Int, (ns.map V.int).all flatV = true
  | [] => rfl
  | _ :: r => flat_ints r
theorem pt_truth' {X : Cx} {a : Expr} {t : TE} (ha : PE X a t) (he : ∀ whole, isTrue a X.env whole = (do let v ← whole; standAt a.pos; holding [v] (truthy v)) := by intro _; rfl) :
    PT X a (fun σ H QB => t σ H fun x H' => ∃ k, TruV X.K x H' k ∧ QB k H') := pt_truth ha he
end
structure Lkw (P : Program) (w : World) (K : PySem.W.Frag) (mg : Str → Option Value) (base : Heap) (x : Str) (k : Nat) (ps ks : List Str) (gV : List V → List V) (sp : Sp) : Prop where
  ex : ∃ (f : Addr) (fd : FuncData) (g : List Value → List Value), FnOk P w K mg base CX0 k f fd ps sp ∧ mg x = some (.ref f) ∧ PySem.W.keepIn K (.ref f) = true ∧ KB K fd ps ks g gV
theorem pe_lkw {X : Cx} {k : Nat} {ps ks : List Str} {sp : Sp} {x : Str} {p pos : Pos} {tk : TA} {kws : List Keyword} {gV : List V → List V} (L : Lkw X.prog X.w X.K X.mg X.base x k ps ks gV sp) (hr : Room k X.A) (hg : Gl X x) (hkw : PK X kws tk)
    (hall : (backToKw pos (keywordEach kws X.env)).all (·.1.isSome) = true := by rfl) (hks : (backToKw pos (keywordEach kws X.env)).filterMap (·.1) = ks := by rfl)
    (hdb : (x == ("__debug__" : Str)) = false := by decide)
    (hpl : ((backTo pos (starEach [] X.env)).any (·.1) || (backToKw pos (keywordEach kws X.env)).any (·.1.isNone)) = false := by rfl) :
    PE X (.Call (.Name x p) [] kws pos) (tCallKw sp gV tk) := by
  obtain ⟨f, fd, g, F, hm, hk, hb⟩ := L.ex
  exact pe_kw0 F hr hg hm hk hb hkw hall hks hdb hpl
theorem x_kw {σ : SS} {H : Hp} {Q : VK} {sp : Sp} {gV : List V → List V} {tk : TA} (q : tk σ H fun zs H1 => sp (gV zs) H1 Q E0) : tCallKw sp gV tk σ H Q := q
theorem op_catAK {X : Cx} {K : PySem.W.Frag} (e : X.K = K := by rfl) : OpR X (binaryOp .Add) (rCatA K) := e ▸ op_catA
theorem op_isN1K : True := trivial

/-! ### max(ints, default=d) -/
section
variable {prog : Program} {w : World} {A : Around} {E : Value → Shared → Prop} {R : Result → Shared → Prop} {I : Addr} {fp wr : List Addr} {G : Array GenState → Array GenState → Prop} {n : Nat} {P : Nat → Value → Prop} {St : Nat → Shared → Prop}
theorem maxkw_turns (kw : List (Str × Value)) (W : WalksS prog w A.in1 I fp wr G n P St) (bt : Nat → Nat → Bool) (hcmp : CmpOf prog w A.in1 .Gt P bt) (S : Addr) (hSf : S ∉ fp) :
    ∀ (k j : Nat) (s : Shared) (vb : Value) (c : Nat), n - (j + 1) = k → j + 1 ≤ n → St (j + 1) s → P (argBest bt j) vb → s.heap.get? S = some { cls := .type "list", dict := none, data := .seq #[vb, vb] c, slots := #[] } →
      (∀ v s', P (argBest bt (n - 1)) v → Moved (S :: wr) G s s' → R (.ok (.ret v)) s') → codeAny (model prog w) A (.builtin "max.loop" ⟨[.ref I, .none, .ref S], kw⟩) R s := by
  have nm : (toString "max" ++ toString ".loop" : String) = "max.loop" := by decide
  have w1 : S ∉ wr := fun h => hSf (W.sub _ h)
  have w2 : ∀ b ∈ wr, b ∈ S :: wr := fun b hb => List.mem_cons_of_mem _ hb
  have w3 : ∀ {b : Addr}, b ∉ S :: wr → S ≠ b := fun hb h => hb (h ▸ List.mem_cons_self)
  intro k
  induction k with
  | zero =>
    intro j s vb c hk hj hst hPb hS hR
    obtain rfl : j + 1 = n := by omega
    refine codeAny_builtin PySem.F.entry_max_loop ?_
    rw [Around.under_plainId PySem.F.plain_max_loop _]; show wpAny _ A.in1 (seqItems? (.ref S) >>= _) _ _ s
    refine wpAny_bind (wpAny_seqItems hS rfl ?_); show wpAny _ A.in1 (tryCatch (pyNext (.ref I)) _ >>= _) _ _ s
    refine wpAny_bind (wpAny_tryCatch (W.done s _ _ hst fun s' hm => ?_))
    have hS' := hm.heap S _ w1 hS
    show wpAny _ A.in1 (updateSeq S (fun _ => (#[] : Array Value)) >>= _) _ _ _
    refine wpAny_bind (wpAny_updateSeq hS' rfl (wpAny_bind (wpAny_letGo (wpAny_pure (hR vb _ hPb ?_)))))
    exact (hm.mono w2).then_heap (tk := s'.toks) (Nat.le_refl _) fun b o hb e => (Heap.get?_update_other _ _ (w3 hb)).trans e
  | succ k ih =>
    intro j s vb c hk hj hst hPb hS hR
    have hlt : j + 1 < n := by omega
    refine codeAny_builtin PySem.F.entry_max_loop ?_
    rw [Around.under_plainId PySem.F.plain_max_loop _]; show wpAny _ A.in1 (seqItems? (.ref S) >>= _) _ _ s
    refine wpAny_bind (wpAny_seqItems hS rfl ?_); show wpAny _ A.in1 (tryCatch (pyNext (.ref I)) _ >>= _) _ _ s
    refine wpAny_bind (wpAny_tryCatch (W.item (j + 1) s _ _ hlt hst fun v s' hP hst' hm => ?_))
    have hS' := hm.heap S _ w1 hS
    show wpAny _ A.in1 (tryCatch (holding [v, v] (richCompare .Gt v vb >>= _)) _ >>= _) _ _ _
    refine wpAny_bind (wpAny_tryCatch (wpAny_holding (wpAny_bind (hcmp (j + 1) (argBest bt j) v vb _ _ _ hP hPb ?_)))); refine wpAny_bind (wpAny_holding (wpAny_truthy_bool ?_))
    refine wpAny_bind (wpAny_letGo (wpAny_pure ?_))
    cases hb : bt (j + 1) (argBest bt j) with
    | true =>
      simp only [if_true]
      refine wpAny_bind (wpAny_updateSeq hS' rfl (wpAny_bind (wpAny_letGo ?_))); rw [nm]
      have far : ∀ {b : Addr}, b ∉ fp → True := fun _ => trivial
      refine wpAny_pure ⟨plainId_quiet PySem.F.plain_max_loop _, ih (j + 1) _ v _ (by omega) hlt (W.frame _ s' _ s'.toks hst' (Nat.le_refl _) fun b hbf o e => (Heap.get?_update_other _ _ (fun h : S = b => hSf (h ▸ hbf))).trans e) (by simp only [argBest, hb, if_true]; exact hP) (Heap.get?_update_self _ hS' rfl) fun v' s'' hP' hm'' => hR v' s'' hP' (Moved.trans W.gtrans ((hm.mono w2).then_heap (Nat.le_refl _) fun b o hb e => (Heap.get?_update_other _ _ (w3 hb)).trans e) hm'')⟩
    | false =>
      simp only [Bool.false_eq_true, if_false]
      refine wpAny_bind (wpAny_letGo ?_); rw [nm]
      exact wpAny_pure ⟨plainId_quiet PySem.F.plain_max_loop _, ih (j + 1) _ vb c (by omega) hlt hst' (by simp only [argBest, hb, Bool.false_eq_true, if_false]; exact hPb) hS' fun v' s'' hP' hm'' => hR v' s'' hP' (Moved.trans W.gtrans (hm.mono w2) hm'')⟩
/-- the first turn, none or one -/
theorem maxkw_first {d : Value} (W : WalksS prog w A.in1 I fp wr G n P St) (bt : Nat → Nat → Bool) (hcmp : CmpOf prog w A.in1 .Gt P bt) (S : Addr) (hSf : S ∉ fp) {s : Shared} {c : Nat} (hst : St 0 s) (hS : s.heap.get? S = some { cls := .type "list", dict := none, data := .seq #[] c, slots := #[] })
    (h0 : n = 0 → ∀ s', Moved (S :: wr) G s s' → R (.ok (.ret d)) s') (h1 : 0 < n → ∀ v s', P (argBest bt (n - 1)) v → Moved (S :: wr) G s s' → R (.ok (.ret v)) s') :
    codeAny (model prog w) A (.builtin "max.loop" ⟨[.ref I, .none, .ref S], [("default", d)]⟩) R s := by
  have nm : (toString "max" ++ toString ".loop" : String) = "max.loop" := by decide
  have w1 : S ∉ wr := fun h => hSf (W.sub _ h)
  have w2 : ∀ b ∈ wr, b ∈ S :: wr := fun b hb => List.mem_cons_of_mem _ hb
  have w3 : ∀ {b : Addr}, b ∉ S :: wr → S ≠ b := fun hb h => hb (h ▸ List.mem_cons_self)
  refine codeAny_builtin PySem.F.entry_max_loop ?_
  rw [Around.under_plainId PySem.F.plain_max_loop _]; show wpAny _ A.in1 (seqItems? (.ref S) >>= _) _ _ s
  refine wpAny_bind (wpAny_seqItems hS rfl ?_); show wpAny _ A.in1 (tryCatch (pyNext (.ref I)) _ >>= _) _ _ s
  by_cases hn : 0 < n
  · refine wpAny_bind (wpAny_tryCatch (W.item 0 s _ _ hn hst fun v s' hP hst' hm => ?_))
    have hS' := hm.heap S _ w1 hS
    show wpAny _ A.in1 (updateSeq S (fun _ => #[v, v]) >>= _) _ _ _
    refine wpAny_bind (wpAny_updateSeq hS' rfl ?_); rw [nm]
    refine wpAny_pure ⟨plainId_quiet PySem.F.plain_max_loop _, maxkw_turns _ W bt hcmp S hSf _ 0 _ v _ rfl hn (W.frame _ s' _ s'.toks hst' (Nat.le_refl _) fun b hbf o e => (Heap.get?_update_other _ _ (fun h : S = b => hSf (h ▸ hbf))).trans e) hP (Heap.get?_update_self _ hS' rfl) fun v' s'' hP' hm'' => h1 hn v' s'' hP' ?_⟩
    exact Moved.trans W.gtrans ((hm.mono w2).then_heap (Nat.le_refl _) fun b o hb e => (Heap.get?_update_other _ _ (w3 hb)).trans e) hm''
  · obtain rfl : n = 0 := by omega
    refine wpAny_bind (wpAny_tryCatch (W.done s _ _ hst fun s' hm => ?_))
    refine wpAny_bind (wpAny_rule ?_)
    exact wpAny_pure (h0 rfl s' (hm.mono w2))
theorem maxd_args (a v : Value) : argsOk "max" ⟨[a], [(Str.ofString "default", v)]⟩ := by unfold argsOk; kernel_rfl
theorem max_dflt {l : Addr} {its : List Value} {ns : List Int} {d : Value} {s : Shared} {Q : Value → Shared → Prop} (hh : A.handled = none) (hl : s.heap.IsList l its.toArray) (hi : IntsAre its ns)
    (h0 : ns = [] → ∀ h' tk, (∀ b o, s.heap.get? b = some o → h'.get? b = some o) → Q d { s with heap := h', toks := tk })
    (h1 : ∀ h' tk m t', (∀ b o, s.heap.get? b = some o → h'.get? b = some o) → m ∈ ns → (∀ a, a ∈ ns → a ≤ m) → Q (.int m t') { s with heap := h', toks := tk }) :
    wpAny (model prog w) A (call (.builtin "max") [.ref l] [(Str.ofString "default", d)]) Q E s := by
  obtain ⟨xs, e⟩ := hi.allInts.items
  have hn : numsOf (intItems xs).toList = ns := e ▸ hi.numsOf
  rw [nums_intItems] at hn
  subst hn
  rw [e] at hl
  have nm : (toString "max" ++ toString ".loop" : String) = "max.loop" := by decide
  refine kmb_tree PySem.F.kind_max PySem.F.plain_max PySem.F.entry_max (maxd_args _ _) ?_
  show wpAny _ A.in1 (Builtin.Builtins.bindParams "max" ["key", "default"] 0 ⟨[], [(Str.ofString "default", d)]⟩ >>= _) _ _ s
  refine wpAny_bind (wpAny_of_eq (show Builtin.Builtins.bindParams "max" ["key", "default"] 0 ⟨[], [(Str.ofString "default", d)]⟩ = pure [none, some d] from rfl) ?_)
  refine wpAny_bind (wpAny_pure (wpAny_bind ?_))
  refine PySem.iter_intList hl fun s2 e2 st hfp hlI => ?_
  subst e2
  refine wpAny_bind (wpAny_newObj_type ?_); rw [nm]
  have W := Walks.list (prog := prog) (w := w) (A := A.in1) hh s.heap.objs.size l hlI (intItems xs)
  have hsz : (s.heap.push { cls := .type "list_iterator", data := .fields #[.ref l, .int 0 0] }).objs.size = s.heap.objs.size + 1 := Heap.size_push ..
  have hSf : (s.heap.push { cls := .type "list_iterator", data := .fields #[.ref l, .int 0 0] }).objs.size ∉ [s.heap.objs.size, l] := fun hm => Nat.lt_irrefl _ (hfp _ hm)
  have hlen : (intItems xs).size = xs.size := by simp [intItems]
  have off : ∀ {b : Addr} {o : Obj}, s.heap.get? b = some o → b ∉ [(s.heap.push { cls := .type "list_iterator", data := .fields #[.ref l, .int 0 0] }).objs.size, s.heap.objs.size] := fun {b o} q hm => by
    have hlt : b < s.heap.objs.size := Heap.lt_size q
    rw [hsz] at hm
    rcases List.mem_cons.mp hm with z | z
    · exact absurd hlt (by rw [z]; exact Nat.not_lt.mpr (Nat.le_succ _))
    · exact absurd hlt (by rw [List.mem_singleton.mp z]; exact Nat.lt_irrefl _)
  refine wpAny_pure ⟨plainId_quiet PySem.F.plain_max_loop _, maxkw_first W.toS _ (CmpOf.ints_gt (numAt xs) (fun _ _ => intItems_at)) _ hSf (W.toS.frame 0 _ _ s.toks st (Nat.le_refl _) fun b _ o q => Heap.get?_push_of_some _ q) (Heap.get?_push_size _ rfl) (fun hz s' hm => ?_) (fun hz v s' hP hm => ?_)⟩
  · rw [Moved.eq_with hm]
    exact h0 (by rw [hlen] at hz; rw [Array.eq_empty_of_size_eq_zero hz]; rfl) s'.heap s'.toks fun b o q => hm.heap b o (off q) (Heap.get?_push_of_some _ (Heap.get?_push_of_some _ q))
  · rw [Moved.eq_with hm]
    have hne : 0 < xs.size := by rwa [hlen] at hz
    have hP : (intItems xs)[argBest (fun i j => decide (numAt xs i > numAt xs j)) (xs.size - 1)]? = some v := by simpa [intItems] using hP
    obtain ⟨t, rfl⟩ := intItems_at hP
    obtain ⟨g1, g2⟩ := argBest_gt (numAt xs) (xs.size - 1)
    refine h1 s'.heap s'.toks _ t (fun b o q => hm.heap b o (off q) (Heap.get?_push_of_some _ (Heap.get?_push_of_some _ q))) ?_ fun a ha => ?_
    · rw [numAt_eq]
      exact PySem.getD_mem (by rw [List.length_map, Array.length_toList]; omega)
    · obtain ⟨j, hj, rfl⟩ := mem_getD ha
      rw [List.length_map, Array.length_toList] at hj
      exact numAt_eq xs j ▸ g2 j (by omega)
end
section
variable {X : Cx}
def rMaxD (K : PySem.W.Frag) : List V → List V → Hp → VK → Prop := fun xs zs H Q => ∃ (a : Addr) (ns : List Int) (d : Int), xs = [.ref a] ∧ zs = [.int d] ∧ SqL K H a (ns.map V.int) ∧ (ns = [] → Q (.int d) H) ∧ ∀ m, m ∈ ns → (∀ b, b ∈ ns → b ≤ m) → Q (.int m) H
theorem cr_maxD (hc : X.calm = true) : CallRK X (.builtin "max") [Str.ofString "default"] (rMaxD X.K) := by
  intro pins s σ H xs zs us ws Q I r rz h
  obtain ⟨a, ns, d, rfl, rfl, hs, q0, q1⟩ := h
  obtain ⟨its, rv, hl, _⟩ := I.list hs
  obtain ⟨u, rfl, ru⟩ := vals1 rz
  rw [Vals.ref1 r]
  exact max_dflt (I.ok.hd hc) hl.isList rv.ints (fun e h' tk hk => ⟨.int d, H, I.kept hk, ru, q0 e⟩) fun h' tk m t' hk h1 h2 => ⟨.int m, H, I.kept hk, ⟨_, rfl⟩, q1 m h1 h2⟩
end

/-! ### own classes -/
/-- a method, by its promise (self first) -/
structure Lm (P : Program) (w : World) (K : PySem.W.Frag) (mg : Str → Option Value) (base : Heap) (C : Addr) (m : Str) (k : Nat) (ps : List Str) (sp : Sp) : Prop where
  ex : ∃ (f : Addr) (fd : FuncData), FnOk P w K mg base CX0 k f fd ps sp ∧ Meth K C m f ∧ Binds K fd ps []
/-- a class that is made, by its __init__'s promise -/
structure Ln (P : Program) (w : World) (K : PySem.W.Frag) (mg : Str → Option Value) (base : Heap) (C : Addr) (x : Str) (k : Nat) (ps : List Str) (sp : Sp) : Prop where
  ex : ∃ (f : Addr) (fd : FuncData), FnOk P w K mg base CX0 k f fd ps sp ∧ Mk K C f ∧ mg x = some (.ref C) ∧ Binds K fd ps []
section
variable {X : Cx} {k : Nat} {C : Addr} {m x : Str} {ps : List Str} {sp : Sp} {o e : Expr} {es : List Expr} {apos p pos : Pos} {ta : TE} {t : TA}
theorem pe_lm {pl : Sem Bool} (L : Lm X.prog X.w X.K X.mg X.base C m k ps sp) (c : Cls X.K C) (hr : Room k X.A) (ho : PE X o ta) (ha : PA X (e :: es) t)
    (hst : starEach (e :: es) X.env = (false, eval e X.env) :: starEach es X.env := by rfl) (hpl : (backTo pos (starEach es X.env)).any (·.1) = false := by rfl)
    (ht : eval (.Call (.Attribute o m apos) (e :: es) [] pos) X.env = (do let ov ← eval o X.env; standAt apos.atName; let (f, first) ← holding [ov] (getMethod ov m pl); callWith pos f first (backTo pos (starEach (e :: es) X.env)) (backToKw pos (keywordEach [] X.env))) := by rfl) :
    PE X (.Call (.Attribute o m apos) (e :: es) [] pos) (tMeth C m sp [] E0 ta t) := by
  obtain ⟨f, fd, F, hm, hb⟩ := L.ex
  exact pe_meth (pl := pl) ho c hm F hr hb .nil pass0 ha hst hpl ht
theorem pe_lm0 {pl : Sem Bool} (L : Lm X.prog X.w X.K X.mg X.base C m k ps sp) (c : Cls X.K C) (hr : Room k X.A) (ho : PE X o ta)
    (ht : eval (.Call (.Attribute o m apos) [] [] pos) X.env = (do let ov ← eval o X.env; standAt apos.atName; let (f, first) ← holding [ov] (getMethod ov m pl); callWith pos f first (backTo pos (starEach [] X.env)) (backToKw pos (keywordEach [] X.env))) := by rfl) :
    PE X (.Call (.Attribute o m apos) [] [] pos) (tMeth C m sp [] E0 ta tNil) := by
  obtain ⟨f, fd, F, hm, hb⟩ := L.ex
  exact pe_meth0 (pl := pl) ho c hm F hr hb .nil pass0 ht
theorem pe_ln (L : Ln X.prog X.w X.K X.mg X.base C x k ps sp) (hr : Room (k + 1) X.A) (hg : Gl X x) (ha : PA X (e :: es) t) (hdb : (x == ("__debug__" : Str)) = false := by decide)
    (he : starEach (e :: es) X.env = (false, eval e X.env) :: starEach es X.env := by rfl) (hpl : (backTo pos (starEach es X.env)).any (·.1) = false := by rfl) : PE X (.Call (.Name x p) (e :: es) [] pos) (tMake C sp [] E0 t) := by
  obtain ⟨f, fd, F, hm, hg2, hb⟩ := L.ex
  exact pe_make hm F hr hg hg2 hb .nil pass0 ha hdb he hpl
end
section
variable {K : PySem.W.Frag} {σ : SS} {H : Hp} {Q : VK} {nx bk ct : SS → Hp → Prop} {rt : VK} {C a dx : Addr} {fs : List (Str × V)} {f m : Str} {v : V} {ta te : TE} {t tk : TA} {sp : Sp}
theorem x_meth (q : ta σ H fun x H1 => ∃ a dx fs, x = .ref a ∧ H1 a = some (.ins C dx fs) ∧ fs.lookup m = none ∧ t σ H1 fun vs H2 => sp (x :: (vs ++ [])) H2 Q E0) : tMeth C m sp [] E0 ta t σ H Q := q
theorem x_insM {R : Prop} (h : H a = some (.ins C dx fs)) (l : fs.lookup m = none) (q : R) : ∃ a' dx' fs', V.ref a = .ref a' ∧ H a' = some (.ins C dx' fs') ∧ List.lookup m fs' = none ∧ R := ⟨a, dx, fs, rfl, h, l, q⟩
theorem x_fld (q : ta σ H fun x H1 => ∃ a C dx fs v, x = .ref a ∧ H1 a = some (.ins C dx fs) ∧ Cls K C ∧ NoAttr K C f ∧ fs.lookup f = some v ∧ Q v H1) : tFld K ta f σ H Q := q
theorem x_insF {R : V → Prop} (h : H a = some (.ins C dx fs)) (c : Cls K C) (n : NoAttr K C f) (l : fs.lookup f = some v) (q : R v) : ∃ a' C' dx' fs' v', V.ref a = .ref a' ∧ H a' = some (.ins C' dx' fs') ∧ Cls K C' ∧ NoAttr K C' f ∧ List.lookup f fs' = some v' ∧ R v' :=
  ⟨a, C, dx, fs, v, rfl, h, c, n, l, q⟩
theorem x_sfld (q : te σ H fun y H1 => ta σ H1 fun x H2 => ∃ a C dx fs, x = .ref a ∧ H2 a = some (.ins C dx fs) ∧ Cls K C ∧ NoAttr K C f ∧ fs.length < 1000 ∧ nx σ (upd H2 a (.ins C dx (putF f y fs)))) : sFld K ta te f ⟨nx, rt, bk, ct⟩ σ H := q
theorem x_make (q : t σ H fun vs H1 => ∀ x dx, H1 x = none → H1 dx = none → dx ≠ x → sp (.ref x :: (vs ++ [])) (upd (upd H1 dx (.own x)) x (.ins C dx [])) (fun v H2 => v = .non ∧ Q (.ref x) H2) E0) : tMake C sp [] E0 t σ H Q := q
theorem x_ckw {r : List V → List V → Hp → VK → Prop} (q : t σ H fun vs H1 => tk σ H1 fun zs H2 => r vs zs H2 Q) : tCKw r t tk σ H Q := q
theorem x_maxD {ns : List Int} {d : Int} (h : SqL K H a (ns.map V.int)) (q0 : ns = [] → Q (.int d) H) (q1 : ∀ m, m ∈ ns → (∀ b, b ∈ ns → b ≤ m) → Q (.int m) H) : rMaxD K [.ref a] [.int d] H Q := ⟨a, ns, d, rfl, rfl, h, q0, q1⟩
/-- a range with a step -/
theorem x_iR3 {R : It → Hp → Prop} (q : t σ H fun vs H1 => ∃ (i j c : Int) (n : Nat), vs = [.int i, .int j, .int c] ∧ RgC i j c n ∧ R (Itc i c n) H1) : iRng3 t σ H R := q
theorem y_forDown {g : TG} {tb : TS} {i : Int} (h0 : -1 ≤ i) (h1 : i < 1000000) (q : AskF (i + 1).toNat (fun _ => True) (YFn fun k => .int (i + (k : Nat) * (-1))) g tb nx rt σ H) :
    ∃ (i' j c : Int) (n : Nat), [V.int i, V.int (-1), V.int (-1)] = [.int i', .int j, .int c] ∧ RgC i' j c n ∧ WF (Itc i' c n) g tb nx rt σ H := by
  refine ⟨i, -1, -1, (i + 1).toNat, rfl, ?_, askF walk_rangeC q⟩
  have := RgC.neg (i := i) (j := -1) (by omega) (by omega) (by decide) (by decide)
  rwa [show (i - -1) = i + 1 by omega] at this
end
theorem iteP {c : Bool} {A B : Prop} (h : c = true) (q : A) : if c = true then A else B := by rw [if_pos h]; exact q
theorem iteN {c : Bool} {A B : Prop} (h : c = false) (q : B) : if c = true then A else B := by rw [h]; exact q
section
variable {K : PySem.W.Frag} {σ : SS} {H : Hp} {Q : VK} {x y : V} {ta tb tc : TE} {r r' : R2} {QB : Bool → Hp → Prop}
theorem x_chain (q : ta σ H fun x H1 => tb σ H1 fun y H2 => r x y H2 fun z H3 => ∃ k, z = .bl k ∧ (if k = true then tc σ H3 fun w' H4 => r' y w' H4 Q else Q (.bl false) H3)) : tChain r r' ta tb tc σ H Q := q
theorem x_isi {n : String} {t : Value} {b : Bool} (ty : TyX K H x t) (k : PySem.W.kitOne K t (.type n) = some b) (q : Q (.bl b) H) : rIsi K [x, .ty n] H Q := ⟨x, .ty n, t, .type n, b, rfl, .ty n, ty, k, q⟩
theorem x_isiII {i : Int} (q : Q (.bl true) H) : rIsi K [.int i, .ty "int"] H Q := x_isi (.base (.int i)) (kit_ty (by decide +kernel)) q
theorem x_isiIB {i : Int} (q : Q (.bl false) H) : rIsi K [.int i, .ty "bool"] H Q := x_isi (.base (.int i)) (kit_ty (by decide +kernel)) q
end
section
variable {K : PySem.W.Frag} {σ : SS} {H : Hp} {Q : VK} {QS : SS → Hp → Prop} {nx bk ct : SS → Hp → Prop} {rt : VK} {s1 s2 : TS} {ta tb : TE} {tA : TA} {a b : Addr} {xs : List V} {ds : List PyData}
theorem x_par3 {i j l : Nat} (q : tA σ H fun vs H1 => ∃ u v w, vs = [u, v, w] ∧ nx (((σ.set i (some u)).set j (some v)).set l (some w)) H1) : tPar3 i j l tA ⟨nx, rt, bk, ct⟩ σ H := q
theorem x_three {R : V → V → V → Prop} {x y z : V} (q : R x y z) : ∃ u v w, [x, y, z] = [u, v, w] ∧ R u v w := ⟨x, y, z, rfl, q⟩
theorem x_orT (q : ta σ H fun x H1 => ∃ k, TruV K x H1 k ∧ if k = true then Q x H1 else tb σ H1 Q) : tOrT K ta tb σ H Q := q
theorem x_truN {R : Bool → Prop} (q : R false) : ∃ k, TruV K .non H k ∧ R k := ⟨false, rfl, q⟩
theorem x_truT {R : Bool → Prop} (h : SqT K H a xs) (q : R (!xs.isEmpty)) : ∃ k, TruV K (.ref a) H k ∧ R k := ⟨_, .inr (.inl ⟨xs, h, rfl⟩), q⟩
theorem x_glst {m : Nat} {u : TGs} (h : SqL K H a xs) (l : xs.length = m) (q : u xs σ H QS) : gLst K m u (.ref a) σ H QS := ⟨a, xs, rfl, h, l, q⟩
/-- a part of a block that may end in more than one way: what comes behind it, once -/
theorem x_seqG (P : SS → Hp → Prop) (q : ∀ G : SS → Hp → Prop, (∀ σ H, P σ H → G σ H) → s1 ⟨G, rt, bk, ct⟩ σ H) (r : ∀ σ H, P σ H → s2 ⟨nx, rt, bk, ct⟩ σ H) : tSeq s1 s2 ⟨nx, rt, bk, ct⟩ σ H := q _ r
theorem eqv_nil (ds : List PyData) : PyData.eqv (.list ds) (.list []) = ds.isEmpty := by
  cases ds <;> rfl
theorem x_neNilD (h : SqL K H a xs) (hd : DpAll K H xs ds) (sh : SeqAt.shaped (.list ds) = true) (hb : SqL K H b []) (q : Q (.bl (!ds.isEmpty)) H) : rNeD K (.ref a) (.ref b) H Q := ⟨.list ds, .list [], .lst h hd, .lst hb .nil, sh, by decide, by rw [eqv_nil]; exact q⟩
theorem x_eqNilD (h : SqL K H a xs) (hd : DpAll K H xs ds) (sh : SeqAt.shaped (.list ds) = true) (hb : SqL K H b []) (q : Q (.bl ds.isEmpty) H) : rEqD K (.ref a) (.ref b) H Q := ⟨.list ds, .list [], .lst h hd, .lst hb .nil, sh, by decide, by rw [eqv_nil]; exact q⟩
theorem x_catL {ys : List V} (h : H a = some (.lst xs)) (h2 : H b = some (.lst ys)) (z : xs.length + ys.length ≤ sizeLine) (q : ∀ p, H p = none → Q (.ref p) (upd H p (.lst (xs ++ ys)))) : rCat (.ref a) (.ref b) H Q := ⟨a, b, xs, ys, rfl, rfl, h, h2, z, q⟩
end

/-! ### the rules that speak of X.K, with K told from outside -/
section
variable {X : Cx} {K : PySem.W.Frag}
theorem op_eqDK (hu : X.A.units + 64 < cLine) (e : X.K = K := by rfl) : OpR X (compareOp .Eq) (rEqD K) := e ▸ op_eqD hu
theorem op_neDK (hu : X.A.units + 64 < cLine) (e : X.K = K := by rfl) : OpR X (compareOp .NotEq) (rNeD K) := e ▸ op_neD hu
end
section
variable {X : Cx} {K : PySem.W.Frag} {o e : Expr} {es : List Expr} {to : TE} {t : TA} {name : Str} {apos cpos : Pos} {T id : String} {r : V → List V → Hp → VK → Prop}
theorem pe_bmK (pa : PlainAttrs T) (slot : Slot T name id) (hty : typeOf (.builtin id) = pure (.type "method_descriptor")) (hm : MtR X id r) (ho : PE X o to) (ha : PA X (e :: es) t) (eK : X.K = K := by rfl)
    (hbase : attributeBase o name X.env (eval o X.env) = eval o X.env := by rfl)
    (hfew : ((backTo cpos (starEach (e :: es) X.env)).all (fun x => !x.1) && (backToKw cpos (keywordEach [] X.env)).all (fun x => x.1.isSome)
      && decide ((e :: es).length + ([] : List Keyword).length + (if ([] : List Keyword).isEmpty then 0 else 1) < 30)) = true := by rfl)
    (hline : (apos.endLine == cpos.line) = true := by rfl) (hs : starEach (e :: es) X.env = (false, eval e X.env) :: starEach es X.env := by rfl) (hplain : (backTo cpos (starEach es X.env)).any (·.1) = false := by rfl) :
    PE X (.Call (.Attribute o name apos) (e :: es) [] cpos) (tBM K T r to t) := eK ▸ pe_bm pa slot hty hm ho ha hbase hfew hline hs hplain
theorem pe_bm0K (pa : PlainAttrs T) (slot : Slot T name id) (hty : typeOf (.builtin id) = pure (.type "method_descriptor")) (hm : MtR X id r) (ho : PE X o to) (eK : X.K = K := by rfl)
    (hbase : attributeBase o name X.env (eval o X.env) = eval o X.env := by rfl) (hline : (apos.endLine == cpos.line) = true := by rfl) : PE X (.Call (.Attribute o name apos) [] [] cpos) (tBM0 K T r to) := eK ▸ pe_bm0 pa slot hty hm ho hbase hline
end
/-! ### all that is no list is kept -/
def Kt (H H' : Hp) : Prop := ∀ b o, H b = some o → (∀ xs, o ≠ .lst xs) → H' b = some o
theorem Kt.refl (H : Hp) : Kt H H := fun _ _ h _ => h
theorem Kt.trans {H H1 H2 : Hp} (a : Kt H H1) (b : Kt H1 H2) : Kt H H2 := fun c o h n => b c o (a c o h n) n
theorem Kt.of {S : List Addr} {H H' : Hp} (k : Kx S H H') (h : ∀ q ∈ S, ∃ xs, H q = some (.lst xs)) : Kt H H' := fun b o e n => by
  refine k b o (fun z => ?_) e
  obtain ⟨xs, hq⟩ := h b z
  rw [e] at hq
  exact n xs (Option.some.inj hq)
theorem Kt.of0 {H H' : Hp} (k : Kx [] H H') : Kt H H' := fun b o e _ => k b o (by simp) e
theorem Kt.of1 {H H' : Hp} {p : Addr} (k : Kx [p] H H') {xs : List V} (h : H p = some (.lst xs)) : Kt H H' := Kt.of k fun q hq => by rw [List.mem_singleton.mp hq]; exact ⟨xs, h⟩
theorem Kt.wr {H H' : Hp} {q : Addr} {o : HO} (k : Kt H H') {xs : List V} (h : H' q = some (.lst xs)) : Kt H (upd H' q o) := fun b u e n => by
  have e2 := k b u e n
  by_cases hb : b = q
  · subst hb
    rw [h] at e2
    exact absurd (Option.some.inj e2).symm (n xs)
  · rw [upd_ne hb]
    exact e2
theorem Kt.new {H H' : Hp} {q : Addr} {o : HO} (k : Kt H H') (h : H' q = none) : Kt H (upd H' q o) := fun b u e n => lk_ne (k b u e n) h
theorem Kt.sqT {K : PySem.W.Frag} {H H' : Hp} {a : Addr} {xs : List V} (k : Kt H H') (h : SqT K H a xs) : SqT K H' a xs := by
  rcases h with (h | ⟨o, h⟩) | h
  · exact .inl (.inl (k _ _ h (by intro ys z; cases z)))
  · exact .inl (.inr ⟨o, k _ _ h (by intro ys z; cases z)⟩)
  · exact .inr h
theorem Kx.cmb {S : List Addr} {H H1 H2 : Hp} {Z : Addr} (a : Kx S H H1) (b : Kx [Z] H1 H2) (n : H Z = none) : Kx S H H2 := fun q o hq h =>
  b q o (fun z => by rw [List.mem_singleton.mp z, n] at h; cases h) (a q o hq h)
/-! ### numbers -/
def oV : Option Nat → V
  | none => .non
  | some n => .int (n : Int)
def oD : Option Nat → PyData
  | none => .none
  | some n => .int (n : Int)
theorem dp_o {K : PySem.W.Frag} {H : Hp} : ∀ o : Option Nat, Dp K H (oV o) (oD o)
  | none => .non
  | some n => .int n
theorem dp_os {K : PySem.W.Frag} {H : Hp} : ∀ l : List (Option Nat), DpAll K H (l.map oV) (l.map oD)
  | [] => .nil
  | o :: r => .cons (dp_o o) (dp_os r)
theorem good_os {l : List (Option Nat)} (h : ∀ o ∈ l, ∀ n, o = some n → n < 10 ^ 9) (hl : l.length ≤ 40) : Good (.tuple (l.map oD)) 1 (40 * 32) := by
  refine Good.tuple (k := 0) (w := 31) (n := 40) ?_ (by rw [List.length_map]; exact hl)
  intro d hd
  obtain ⟨o, ho, rfl⟩ := List.mem_map.mp hd
  cases o with
  | none => exact Good.none.mono (Nat.le_refl _) (by decide)
  | some n =>
    have := h _ ho n rfl
    exact Good.int (by omega)
abbrev natV (l : List Nat) : List V := l.map fun (n : Nat) => V.int (n : Int)
theorem natV_get {l : List Nat} {i n : Nat} (h : l[i]? = some n) : (natV l)[i]? = some (V.int (n : Int)) := by
  unfold natV
  rw [List.getElem?_map, h]
  rfl
theorem natV_at {l : List Nat} {i n : Nat} (h : l[i]? = some n) : atI (natV l) (i : Int) = some (.int (n : Int)) := atI_nat (natV_get h)
theorem natV_int (l : List Nat) : natV l = (l.map fun (n : Nat) => (n : Int)).map V.int := by
  unfold natV
  rw [List.map_map]
  rfl
theorem natV_len (l : List Nat) : (natV l).length = l.length := List.length_map ..
theorem cast_back {N : Nat} : ∀ {zs : List Int}, (∀ z ∈ zs, z ∈ (List.range N).map fun (i : Nat) => (i : Int)) → natV (zs.map Int.toNat) = zs.map V.int
  | [], _ => rfl
  | z :: r, h => by
    obtain ⟨m, _, e⟩ := List.mem_map.mp (h z List.mem_cons_self)
    have ih := cast_back (zs := r) fun y hy => h y (List.mem_cons_of_mem _ hy)
    unfold natV at ih ⊢
    rw [List.map_cons, List.map_cons, List.map_cons, ih, ← e]
    rfl
theorem perm_nat {zs : List Int} {N : Nat} (h : zs.Perm ((List.range N).map fun (i : Nat) => (i : Int))) : ∃ ns : List Nat, zs.map V.int = natV ns ∧ ns.Perm (List.range N) := by
  refine ⟨zs.map Int.toNat, (cast_back fun z hz => h.mem_iff.mp hz).symm, ?_⟩
  have e := h.map Int.toNat
  rw [List.map_map] at e
  have e2 : (List.range N).map (Int.toNat ∘ fun (i : Nat) => (i : Int)) = List.range N := by
    rw [show (Int.toNat ∘ fun (i : Nat) => (i : Int)) = id from funext fun n => Int.toNat_natCast n, List.map_id]
  rwa [e2] at e
theorem rg_nat (N : Nat) : rgV 0 (N : Int) = natV (List.range N) := by
  unfold rgV natV
  rw [show ((N : Int) - 0).toNat = N by omega]
  refine List.map_congr_left fun i _ => ?_
  show V.int (0 + (i : Int)) = V.int i
  rw [Int.zero_add]
theorem erase_nat : ∀ (zs : List Nat) (i : Nat), (natV zs).eraseIdx i = natV (zs.eraseIdx i)
  | [], _ => rfl
  | _ :: _, 0 => rfl
  | z :: r, i + 1 => congrArg (V.int (z : Int) :: ·) (erase_nat r i)
theorem at_i {zs : List Int} {w : Int} (h0 : 0 ≤ w) (h1 : w < zs.length) : ∃ z ∈ zs, zs[w.toNat]? = some z ∧ atI (zs.map V.int) w = some (.int z) := by
  obtain ⟨i, rfl⟩ : ∃ i : Nat, w = i := ⟨w.toNat, by omega⟩
  have hi : i < zs.length := by omega
  have e1 := List.getElem?_eq_getElem hi
  refine ⟨zs[i], List.getElem_mem hi, by simpa using e1, atI_nat ?_⟩
  rw [List.getElem?_map, e1]
  rfl
theorem ix_n {n j : Nat} (hj : j < n) : ixN n (j : Int) = some j := by
  unfold ixN
  rw [if_pos (by omega), if_pos (by omega), Int.toNat_natCast]
theorem erase_perm0 {z : Nat} : ∀ {zs : List Nat} {i : Nat}, zs[i]? = some z → (z :: zs.eraseIdx i).Perm zs
  | [], _, h => by cases h
  | y :: r, 0, h => by
    cases Option.some.inj h
    exact .refl _
  | y :: r, i + 1, h => (List.Perm.swap y z _).trans ((erase_perm0 (zs := r) (i := i) h).cons y)
theorem erase_perm {zs : List Nat} {i : Nat} {z : Nat} (h : zs[i]? = some z) (as : List Nat) : (as ++ [z] ++ zs.eraseIdx i).Perm (as ++ zs) := by
  rw [List.append_assoc]
  exact List.Perm.append_left as (erase_perm0 h)
section
variable {K : PySem.W.Frag} {σ : SS} {H : Hp} {Q : VK} {te : TE} {a : Addr} {xs : List V} {y : V} {i : Nat} {j : Int}
theorem x_revL (q : te σ H fun x H1 => ∃ a xs, x = .ref a ∧ SqL K H1 a xs ∧ ∀ p, H1 p = none → Q (.ref p) (upd H1 p (.lst xs.reverse))) : tRevL K te σ H Q := q
theorem x_revR {R : Addr → List V → Prop} (h : SqL K H a xs) (q : ∀ p, H p = none → R p xs) : ∃ a' ys, V.ref a = .ref a' ∧ SqL K H a' ys ∧ ∀ p, H p = none → R p ys := ⟨a, xs, rfl, h, q⟩
theorem x_popAt (h : H a = some (.lst xs)) (e : j = (i : Int)) (b : i < 1000000) (s : xs[i]? = some y) (q : Q y (upd H a (.lst (xs.eraseIdx i)))) : rPopAt (.ref a) [.int j] H Q := by
  subst e
  have hi := (List.getElem?_eq_some_iff.mp s).1
  exact ⟨a, xs, i, i, y, rfl, rfl, h, by omega, by omega, seqIndex_of (by omega) (by omega), s, q⟩
theorem dp_nats : ∀ l : List Nat, DpAll K H (natV l) (l.map fun (n : Nat) => PyData.int (n : Int))
  | [] => .nil
  | n :: r => .cons (.int n) (dp_nats r)
end
theorem shaped_int2 (p s : Int) : SeqAt.shaped (.tuple [.int p, .int s]) = true := by
  unfold SeqAt.shaped
  simp [PyData.canLay0, PyData.canLayAll0, PyData.depth, PyData.depthAll]
theorem dpAll_i {K : PySem.W.Frag} {H : Hp} : ∀ {vs : List V} {ds : List PyData}, vs.length = ds.length → (∀ (i : Nat) (d : PyData), ds[i]? = some d → ∃ v, vs[i]? = some v ∧ Dp K H v d) → DpAll K H vs ds
  | [], [], _, _ => .nil
  | [], _ :: _, h, _ => by cases h
  | _ :: _, [], h, _ => by cases h
  | v :: vs, d :: ds, h, q => by
    obtain ⟨v', e, hd⟩ := q 0 d rfl
    cases Option.some.inj e
    exact .cons hd (dpAll_i (Nat.succ.inj h) fun i d' hi => q (i + 1) d' hi)

theorem in_nat {n : Nat} (ns : List Nat) : inV (.int (n : Int)) (natV ns) = decide (n ∈ ns) := by
  rw [natV_int, in_int]
  congr 1
  rw [List.mem_map]
  refine propext ⟨?_, fun h => ⟨n, h, rfl⟩⟩
  rintro ⟨m, hm, e⟩
  rwa [← Int.ofNat.inj e]
theorem flat_nats (ns : List Nat) : (natV ns).all flatV = true := by rw [natV_int]; exact flat_ints _
theorem x_neNilN {K : PySem.W.Frag} {H : Hp} {Q : VK} {a b : Addr} {l : List Nat} (h : SqL K H a (natV l)) (hb : SqL K H b []) (q : Q (.bl (!l.isEmpty)) H) : rNeD K (.ref a) (.ref b) H Q := by
  rw [natV_int] at h
  refine x_neNil h hb ?_
  cases l with
  | nil => exact q
  | cons _ _ => exact q
theorem set_range {α : Type} {n j : Nat} {f g : Nat → α} (hj : j < n) (h1 : ∀ i, i ≠ j → g i = f i) : ((List.range n).map f).set j (g j) = (List.range n).map g := by
  refine List.ext_getElem? fun i => ?_
  by_cases e : i = j
  · subst e
    rw [List.getElem?_set_self (by rw [List.length_map, List.length_range]; exact hj), List.getElem?_map, List.getElem?_range hj]
    rfl
  · rw [List.getElem?_set_ne (Ne.symm e), List.getElem?_map, List.getElem?_map]
    cases h : (List.range n)[i]? with
    | none => rfl
    | some k =>
      obtain ⟨h2, h3⟩ := List.getElem?_eq_some_iff.mp h
      rw [List.getElem_range] at h3
      show some (f k) = some (g k)
      rw [h1 k (by omega)]

open PySem PySem.Spec PySem.Calls PyProof.Rows L2
/-! ### min(ints, default=d) -/
section
variable {prog : Program} {w : World} {A : Around} {E : Value → Shared → Prop} {R : Result → Shared → Prop} {I : Addr} {fp wr : List Addr} {G : Array GenState → Array GenState → Prop} {n : Nat} {P : Nat → Value → Prop} {St : Nat → Shared → Prop}
theorem minkw_turns (kw : List (Str × Value)) (W : WalksS prog w A.in1 I fp wr G n P St) (bt : Nat → Nat → Bool) (hcmp : CmpOf prog w A.in1 .Lt P bt) (S : Addr) (hSf : S ∉ fp) :
    ∀ (k j : Nat) (s : Shared) (vb : Value) (c : Nat), n - (j + 1) = k → j + 1 ≤ n → St (j + 1) s → P (argBest bt j) vb → s.heap.get? S = some { cls := .type "list", dict := none, data := .seq #[vb, vb] c, slots := #[] } →
      (∀ v s', P (argBest bt (n - 1)) v → Moved (S :: wr) G s s' → R (.ok (.ret v)) s') → codeAny (model prog w) A (.builtin "min.loop" ⟨[.ref I, .none, .ref S], kw⟩) R s := by
  have nm : (toString "min" ++ toString ".loop" : String) = "min.loop" := by decide
  have w1 : S ∉ wr := fun h => hSf (W.sub _ h)
  have w2 : ∀ b ∈ wr, b ∈ S :: wr := fun b hb => List.mem_cons_of_mem _ hb
  have w3 : ∀ {b : Addr}, b ∉ S :: wr → S ≠ b := fun hb h => hb (h ▸ List.mem_cons_self)
  intro k
  induction k with
  | zero =>
    intro j s vb c hk hj hst hPb hS hR
    obtain rfl : j + 1 = n := by omega
    refine codeAny_builtin PySem.F.entry_min_loop ?_
    rw [Around.under_plainId PySem.F.plain_min_loop _]; show wpAny _ A.in1 (seqItems? (.ref S) >>= _) _ _ s
    refine wpAny_bind (wpAny_seqItems hS rfl ?_); show wpAny _ A.in1 (tryCatch (pyNext (.ref I)) _ >>= _) _ _ s
    refine wpAny_bind (wpAny_tryCatch (W.done s _ _ hst fun s' hm => ?_))
    have hS' := hm.heap S _ w1 hS
    show wpAny _ A.in1 (updateSeq S (fun _ => (#[] : Array Value)) >>= _) _ _ _
    refine wpAny_bind (wpAny_updateSeq hS' rfl (wpAny_bind (wpAny_letGo (wpAny_pure (hR vb _ hPb ?_)))))
    exact (hm.mono w2).then_heap (tk := s'.toks) (Nat.le_refl _) fun b o hb e => (Heap.get?_update_other _ _ (w3 hb)).trans e
  | succ k ih =>
    intro j s vb c hk hj hst hPb hS hR
    have hlt : j + 1 < n := by omega
    refine codeAny_builtin PySem.F.entry_min_loop ?_
    rw [Around.under_plainId PySem.F.plain_min_loop _]; show wpAny _ A.in1 (seqItems? (.ref S) >>= _) _ _ s
    refine wpAny_bind (wpAny_seqItems hS rfl ?_); show wpAny _ A.in1 (tryCatch (pyNext (.ref I)) _ >>= _) _ _ s
    refine wpAny_bind (wpAny_tryCatch (W.item (j + 1) s _ _ hlt hst fun v s' hP hst' hm => ?_))
    have hS' := hm.heap S _ w1 hS
    show wpAny _ A.in1 (tryCatch (holding [v, v] (richCompare .Lt v vb >>= _)) _ >>= _) _ _ _
    refine wpAny_bind (wpAny_tryCatch (wpAny_holding (wpAny_bind (hcmp (j + 1) (argBest bt j) v vb _ _ _ hP hPb ?_)))); refine wpAny_bind (wpAny_holding (wpAny_truthy_bool ?_))
    refine wpAny_bind (wpAny_letGo (wpAny_pure ?_))
    cases hb : bt (j + 1) (argBest bt j) with
    | true =>
      simp only [if_true]
      refine wpAny_bind (wpAny_updateSeq hS' rfl (wpAny_bind (wpAny_letGo ?_))); rw [nm]
      have far : ∀ {b : Addr}, b ∉ fp → True := fun _ => trivial
      refine wpAny_pure ⟨plainId_quiet PySem.F.plain_min_loop _, ih (j + 1) _ v _ (by omega) hlt (W.frame _ s' _ s'.toks hst' (Nat.le_refl _) fun b hbf o e => (Heap.get?_update_other _ _ (fun h : S = b => hSf (h ▸ hbf))).trans e) (by simp only [argBest, hb, if_true]; exact hP) (Heap.get?_update_self _ hS' rfl) fun v' s'' hP' hm'' => hR v' s'' hP' (Moved.trans W.gtrans ((hm.mono w2).then_heap (Nat.le_refl _) fun b o hb e => (Heap.get?_update_other _ _ (w3 hb)).trans e) hm'')⟩
    | false =>
      simp only [Bool.false_eq_true, if_false]
      refine wpAny_bind (wpAny_letGo ?_); rw [nm]
      exact wpAny_pure ⟨plainId_quiet PySem.F.plain_min_loop _, ih (j + 1) _ vb c (by omega) hlt hst' (by simp only [argBest, hb, Bool.false_eq_true, if_false]; exact hPb) hS' fun v' s'' hP' hm'' => hR v' s'' hP' (Moved.trans W.gtrans (hm.mono w2) hm'')⟩
/-- the first turn, none or one -/
theorem minkw_first {d : Value} (W : WalksS prog w A.in1 I fp wr G n P St) (bt : Nat → Nat → Bool) (hcmp : CmpOf prog w A.in1 .Lt P bt) (S : Addr) (hSf : S ∉ fp) {s : Shared} {c : Nat} (hst : St 0 s) (hS : s.heap.get? S = some { cls := .type "list", dict := none, data := .seq #[] c, slots := #[] })
    (h0 : n = 0 → ∀ s', Moved (S :: wr) G s s' → R (.ok (.ret d)) s') (h1 : 0 < n → ∀ v s', P (argBest bt (n - 1)) v → Moved (S :: wr) G s s' → R (.ok (.ret v)) s') :
    codeAny (model prog w) A (.builtin "min.loop" ⟨[.ref I, .none, .ref S], [("default", d)]⟩) R s := by
  have nm : (toString "min" ++ toString ".loop" : String) = "min.loop" := by decide
  have w1 : S ∉ wr := fun h => hSf (W.sub _ h)
  have w2 : ∀ b ∈ wr, b ∈ S :: wr := fun b hb => List.mem_cons_of_mem _ hb
  have w3 : ∀ {b : Addr}, b ∉ S :: wr → S ≠ b := fun hb h => hb (h ▸ List.mem_cons_self)
  refine codeAny_builtin PySem.F.entry_min_loop ?_
  rw [Around.under_plainId PySem.F.plain_min_loop _]; show wpAny _ A.in1 (seqItems? (.ref S) >>= _) _ _ s
  refine wpAny_bind (wpAny_seqItems hS rfl ?_); show wpAny _ A.in1 (tryCatch (pyNext (.ref I)) _ >>= _) _ _ s
  by_cases hn : 0 < n
  · refine wpAny_bind (wpAny_tryCatch (W.item 0 s _ _ hn hst fun v s' hP hst' hm => ?_))
    have hS' := hm.heap S _ w1 hS
    show wpAny _ A.in1 (updateSeq S (fun _ => #[v, v]) >>= _) _ _ _
    refine wpAny_bind (wpAny_updateSeq hS' rfl ?_); rw [nm]
    refine wpAny_pure ⟨plainId_quiet PySem.F.plain_min_loop _, minkw_turns _ W bt hcmp S hSf _ 0 _ v _ rfl hn (W.frame _ s' _ s'.toks hst' (Nat.le_refl _) fun b hbf o e => (Heap.get?_update_other _ _ (fun h : S = b => hSf (h ▸ hbf))).trans e) hP (Heap.get?_update_self _ hS' rfl) fun v' s'' hP' hm'' => h1 hn v' s'' hP' ?_⟩
    exact Moved.trans W.gtrans ((hm.mono w2).then_heap (Nat.le_refl _) fun b o hb e => (Heap.get?_update_other _ _ (w3 hb)).trans e) hm''
  · obtain rfl : n = 0 := by omega
    refine wpAny_bind (wpAny_tryCatch (W.done s _ _ hst fun s' hm => ?_))
    refine wpAny_bind (wpAny_rule ?_)
    exact wpAny_pure (h0 rfl s' (hm.mono w2))
theorem mind_args (a v : Value) : argsOk "min" ⟨[a], [(Str.ofString "default", v)]⟩ := by unfold argsOk; kernel_rfl
theorem min_dflt {l : Addr} {its : List Value} {ns : List Int} {d : Value} {s : Shared} {Q : Value → Shared → Prop} (hh : A.handled = none) (hl : s.heap.IsList l its.toArray) (hi : IntsAre its ns)
    (h0 : ns = [] → ∀ h' tk, (∀ b o, s.heap.get? b = some o → h'.get? b = some o) → Q d { s with heap := h', toks := tk })
    (h1 : ∀ h' tk m t', (∀ b o, s.heap.get? b = some o → h'.get? b = some o) → m ∈ ns → (∀ a, a ∈ ns → m ≤ a) → Q (.int m t') { s with heap := h', toks := tk }) :
    wpAny (model prog w) A (call (.builtin "min") [.ref l] [(Str.ofString "default", d)]) Q E s := by
  obtain ⟨xs, e⟩ := hi.allInts.items
  have hn : numsOf (intItems xs).toList = ns := e ▸ hi.numsOf
  rw [nums_intItems] at hn
  subst hn
  rw [e] at hl
  have nm : (toString "min" ++ toString ".loop" : String) = "min.loop" := by decide
  refine kmb_tree PySem.F.kind_min PySem.F.plain_min PySem.F.entry_min (mind_args _ _) ?_
  show wpAny _ A.in1 (Builtin.Builtins.bindParams "min" ["key", "default"] 0 ⟨[], [(Str.ofString "default", d)]⟩ >>= _) _ _ s
  refine wpAny_bind (wpAny_of_eq (show Builtin.Builtins.bindParams "min" ["key", "default"] 0 ⟨[], [(Str.ofString "default", d)]⟩ = pure [none, some d] from rfl) ?_)
  refine wpAny_bind (wpAny_pure (wpAny_bind ?_))
  refine PySem.iter_intList hl fun s2 e2 st hfp hlI => ?_
  subst e2
  refine wpAny_bind (wpAny_newObj_type ?_); rw [nm]
  have W := Walks.list (prog := prog) (w := w) (A := A.in1) hh s.heap.objs.size l hlI (intItems xs)
  have hsz : (s.heap.push { cls := .type "list_iterator", data := .fields #[.ref l, .int 0 0] }).objs.size = s.heap.objs.size + 1 := Heap.size_push ..
  have hSf : (s.heap.push { cls := .type "list_iterator", data := .fields #[.ref l, .int 0 0] }).objs.size ∉ [s.heap.objs.size, l] := fun hm => Nat.lt_irrefl _ (hfp _ hm)
  have hlen : (intItems xs).size = xs.size := by simp [intItems]
  have off : ∀ {b : Addr} {o : Obj}, s.heap.get? b = some o → b ∉ [(s.heap.push { cls := .type "list_iterator", data := .fields #[.ref l, .int 0 0] }).objs.size, s.heap.objs.size] := fun {b o} q hm => by
    have hlt : b < s.heap.objs.size := Heap.lt_size q
    rw [hsz] at hm
    rcases List.mem_cons.mp hm with z | z
    · exact absurd hlt (by rw [z]; exact Nat.not_lt.mpr (Nat.le_succ _))
    · exact absurd hlt (by rw [List.mem_singleton.mp z]; exact Nat.lt_irrefl _)
  refine wpAny_pure ⟨plainId_quiet PySem.F.plain_min_loop _, minkw_first W.toS _ (CmpOf.ints_lt (numAt xs) (fun _ _ => intItems_at)) _ hSf (W.toS.frame 0 _ _ s.toks st (Nat.le_refl _) fun b _ o q => Heap.get?_push_of_some _ q) (Heap.get?_push_size _ rfl) (fun hz s' hm => ?_) (fun hz v s' hP hm => ?_)⟩
  · rw [Moved.eq_with hm]
    exact h0 (by rw [hlen] at hz; rw [Array.eq_empty_of_size_eq_zero hz]; rfl) s'.heap s'.toks fun b o q => hm.heap b o (off q) (Heap.get?_push_of_some _ (Heap.get?_push_of_some _ q))
  · rw [Moved.eq_with hm]
    have hne : 0 < xs.size := by rwa [hlen] at hz
    have hP : (intItems xs)[argBest (fun i j => decide (numAt xs i < numAt xs j)) (xs.size - 1)]? = some v := by simpa [intItems] using hP
    obtain ⟨t, rfl⟩ := intItems_at hP
    obtain ⟨g1, g2⟩ := argBest_lt (numAt xs) (xs.size - 1)
    refine h1 s'.heap s'.toks _ t (fun b o q => hm.heap b o (off q) (Heap.get?_push_of_some _ (Heap.get?_push_of_some _ q))) ?_ fun a ha => ?_
    · rw [numAt_eq]
      exact PySem.getD_mem (by rw [List.length_map, Array.length_toList]; omega)
    · obtain ⟨j, hj, rfl⟩ := mem_getD ha
      rw [List.length_map, Array.length_toList] at hj
      exact numAt_eq xs j ▸ g2 j (by omega)
end
section
variable {X : Cx}
def rMinD (K : PySem.W.Frag) : List V → List V → Hp → VK → Prop := fun xs zs H Q => ∃ (a : Addr) (ns : List Int) (d : V), xs = [.ref a] ∧ zs = [d] ∧ SqL K H a (ns.map V.int) ∧ (ns = [] → Q d H) ∧ ∀ m, m ∈ ns → (∀ b, b ∈ ns → m ≤ b) → Q (.int m) H
theorem cr_minD (hc : X.calm = true) : CallRK X (.builtin "min") [Str.ofString "default"] (rMinD X.K) := by
  intro pins s σ H xs zs us ws Q I r rz h
  obtain ⟨a, ns, d, rfl, rfl, hs, q0, q1⟩ := h
  obtain ⟨its, rv, hl, _⟩ := I.list hs
  obtain ⟨u, rfl, ru⟩ := vals1 rz
  rw [Vals.ref1 r]
  exact min_dflt (I.ok.hd hc) hl.isList rv.ints (fun e h' tk hk => ⟨d, H, I.kept hk, ru, q0 e⟩) fun h' tk m t' hk h1 h2 => ⟨.int m, H, I.kept hk, ⟨_, rfl⟩, q1 m h1 h2⟩
end

theorem cr_minDK {X : Cx} {K : PySem.W.Frag} (hc : X.calm = true) (e : X.K = K := by rfl) : CallRK X (.builtin "min") [Str.ofString "default"] (rMinD K) := e ▸ cr_minD hc
theorem x_minD {K : PySem.W.Frag} {H : Hp} {Q : VK} {a : Addr} {ns : List Int} {d : V} (h : SqL K H a (ns.map V.int)) (q0 : ns = [] → Q d H) (q1 : ∀ m, m ∈ ns → (∀ b, b ∈ ns → m ≤ b) → Q (.int m) H) : rMinD K [.ref a] [d] H Q := ⟨a, ns, d, rfl, rfl, h, q0, q1⟩
/-! ### math.lcm -/
section
variable {X : Cx}
def rLcm : List V → Hp → VK → Prop := fun vs H Q => ∃ a b : Int, vs = [.int a, .int b] ∧ a.natAbs < 2 ^ 10000 ∧ b.natAbs < 2 ^ 10000 ∧ (Nat.lcm a.natAbs b.natAbs) < 2 ^ 20000 ∧ Q (.int ((Nat.lcm a.natAbs b.natAbs : Nat) : Int)) H
theorem log_lt {n k : Nat} (h : n < 2 ^ k) (hk : 0 < k) : n.log2 < k := by
  by_cases h0 : n = 0
  · subst h0
    rw [Nat.log2_zero]
    exact hk
  · exact (Nat.log2_lt h0).mpr h
theorem max_lt2 {a b k : Nat} (ha : a < 2 ^ k) (hb : b < 2 ^ k) : max a b < 2 ^ k := Nat.max_lt.mpr ⟨ha, hb⟩
theorem cr_lcm : CallR X (.builtin "math.lcm") rLcm := by
  intro pins s σ H vs us Q I r h
  obtain ⟨a, b, rfl, ha, hb, hl, q⟩ := h
  obtain ⟨t, u, rfl⟩ := Vals.int2 r
  have e1 : Nat.lcm 1 a.natAbs = a.natAbs := Nat.lcm_one_left _
  have h1 : (max 1 a.natAbs).log2 < 10000 := log_lt (max_lt2 (Nat.one_lt_two_pow (by decide)) ha) (by decide)
  have h2 : (max a.natAbs b.natAbs).log2 < 10000 := log_lt (max_lt2 ha hb) (by decide)
  have h3 : (Nat.lcm a.natAbs b.natAbs).log2 < 20000 := log_lt hl (by decide)
  have h4 : (((((Nat.lcm 1 a.natAbs).lcm b.natAbs : Nat) : Int)).natAbs).log2 < bitsLine := by
    rw [e1, Int.natAbs_natCast]
    exact Nat.lt_of_lt_of_le h3 (by decide)
  refine call_function_meets PySem.W.MGF.kind_lcm PySem.W.MGF.plain_lcm PySem.W.MGF.entry_lcm (PySem.W.MGF.args_lcm _ _) (PySem.W.mg_run_lcm a t b u (by omega) (by omega) h4).meets ?_
  rw [e1]
  exact ⟨.int _, H, I.tok _, ⟨_, rfl⟩, q⟩
end
/-! ### a comprehension in a comprehension -/
def relabel' (scope sc : Scope) : Scope := { scope with names := scope.names.map fun (n, k) => if k == NameKind.free && sc.kind == .function && sc.names.lookup n == some .cell then (n, NameKind.cell) else (n, k) }
theorem relabel_eq (scope : Scope) (env : Env) : relabel scope env = relabel' scope env.scope := rfl
theorem blkOk_byN {N : List Str} {scope0 scope : Scope} {env0 : Env} {own : List (Str × Nat)} (h : blkC N (relabel' scope0 env0.scope) scope own = true) : BlkOk N (relabel scope0 env0) scope own := blkOk_by h
section
variable {X : Cx} {K : PySem.W.Frag} {tg e : Expr} {tl : TE}
theorem pi_listK (h : PE X e tl) (eK : X.K = K := by rfl) : PI X tg e (iList K tl) := eK ▸ pi_list h
theorem pi_tupK (h : PE X e tl) (eK : X.K = K := by rfl) : PI X tg e (iTup K tl) := eK ▸ pi_tup h
end

/-! ### calls by position and by name -/
structure Lkx (P : Program) (w : World) (K : PySem.W.Frag) (mg : Str → Option Value) (base : Heap) (x : Str) (k : Nat) (ps ks : List Str) (gV : List V → List V → List V) (sp : Sp) : Prop where
  ex : ∃ (f : Addr) (fd : FuncData) (g : List Value → List Value → List Value), FnOk P w K mg base CX0 k f fd ps sp ∧ mg x = some (.ref f) ∧ PySem.W.keepIn K (.ref f) = true ∧ KBinds K fd ps ks g gV
section
variable {X : Cx} {k : Nat} {x : Str} {ps ks : List Str} {sp : Sp} {e : Expr} {es : List Expr} {p pos : Pos} {t tk : TA} {kws : List Keyword} {gV : List V → List V → List V}
theorem pe_lkx (L : Lkx X.prog X.w X.K X.mg X.base x k ps ks gV sp) (hr : Room k X.A) (hg : Gl X x) (ha : PA X (e :: es) t) (hkw : PK X kws tk)
    (hall : (backToKw pos (keywordEach kws X.env)).all (·.1.isSome) = true := by rfl) (hks : (backToKw pos (keywordEach kws X.env)).filterMap (·.1) = ks := by rfl)
    (hdb : (x == ("__debug__" : Str)) = false := by decide) (he : starEach (e :: es) X.env = (false, eval e X.env) :: starEach es X.env := by rfl)
    (hpl : ((backTo pos (starEach (e :: es) X.env)).any (·.1) || (backToKw pos (keywordEach kws X.env)).any (·.1.isNone)) = false := by rfl) :
    PE X (.Call (.Name x p) (e :: es) kws pos) (tCallK sp gV E0 t tk) := by
  obtain ⟨f, fd, g, F, hm, hk, hb⟩ := L.ex
  exact pe_callK F hr hg hm hk hb pass0 ha hkw hall hks hdb he hpl
end
theorem x_kwx {σ : SS} {H : Hp} {Q : VK} {sp : Sp} {gV : List V → List V → List V} {t tk : TA} (q : t σ H fun vs H1 => tk σ H1 fun zs H2 => sp (gV vs zs) H2 Q E0) : tCallK sp gV E0 t tk σ H Q := q
/-- n by position, then m by name in their order -/
def gApp (n m : Nat) {α : Type} (us ws : List α) : List α := if us.length = n ∧ ws.length = m then us ++ ws else []
/-- n by name, the other way round -/
def gRev (n : Nat) {α : Type} (ws : List α) : List α := if ws.length = n then ws.reverse else []
theorem vals_app {vs zs : List V} {us ws : List Value} (r : Vals vs us) (q : Vals zs ws) : Vals (vs ++ zs) (us ++ ws) := by
  induction r with
  | nil => exact q
  | cons h _ ih => exact .cons h ih
theorem vals_rev {vs : List V} {us : List Value} (r : Vals vs us) : Vals vs.reverse us.reverse := by
  induction r with
  | nil => exact .nil
  | cons h _ ih =>
    rw [List.reverse_cons, List.reverse_cons]
    exact vals_app ih (.cons h .nil)
theorem gApp_rel {n m : Nat} {vs zs : List V} {us ws : List Value} (r : Vals vs us) (q : Vals zs ws) : Vals (gApp n m vs zs) (gApp n m us ws) := by
  unfold gApp
  rw [r.length, q.length]
  split
  · exact vals_app r q
  · exact .nil
theorem gRev_rel {n : Nat} {zs : List V} {ws : List Value} (q : Vals zs ws) : Vals (gRev n zs) (gRev n ws) := by
  unfold gRev
  rw [q.length]
  split
  · exact vals_rev q
  · exact .nil
theorem gApp_to {n m : Nat} {α : Type} {us ws : List α} (h : (gApp n m us ws).length = n + m) (h0 : 0 < n + m) : us.length = n ∧ ws.length = m := by
  unfold gApp at h
  split at h
  · assumption
  · rw [List.length_nil] at h; omega
theorem gRev_to {n : Nat} {α : Type} {ws : List α} (h : (gRev n ws).length = n) (h0 : 0 < n) : ws.length = n := by
  unfold gRev at h
  split at h
  · assumption
  · rw [List.length_nil] at h; omega
theorem len1 {α : Type} {l : List α} (h : l.length = 1) : ∃ a, l = [a] := by
  match l, h with
  | [a], _ => exact ⟨a, rfl⟩
theorem len2 {α : Type} {l : List α} (h : l.length = 2) : ∃ a b, l = [a, b] := by
  match l, h with
  | [a, b], _ => exact ⟨a, b, rfl⟩
theorem len3 {α : Type} {l : List α} (h : l.length = 3) : ∃ a b c, l = [a, b, c] := by
  match l, h with
  | [a, b, c], _ => exact ⟨a, b, c, rfl⟩
theorem len4 {α : Type} {l : List α} (h : l.length = 4) : ∃ a b c d, l = [a, b, c, d] := by
  match l, h with
  | [a, b, c, d], _ => exact ⟨a, b, c, d, rfl⟩
theorem x_rg2 {σ : SS} {H : Hp} {ta tb : TE} {QR : Int → Int → Hp → Prop} (q : ta σ H fun x H1 => tb σ H1 fun y H2 => ∃ n m, x = .int n ∧ y = .int m ∧ QR n m H2) : tRg2 ta tb σ H QR := q
theorem x_int2 {i j : Int} {R : Int → Int → Prop} (q : R i j) : ∃ n m, V.int i = .int n ∧ V.int j = .int m ∧ R n m := ⟨i, j, rfl, rfl, q⟩
theorem x_isIf {c : TT} {s1 s2 s3 : TS} {D : Ends} {σ : SS} {H : Hp} (q : tSeq (tIfS c s1 s2) s3 D σ H) : tSeq (tIfS c s1 s2) s3 D σ H := q

/-! ### sorted(t), t a tuple of ints -/
section
variable {prog : Program} {w : World} {A : Around} {E : Value → Shared → Prop} {s : Shared}
/-- the list that a walk over a tuple makes first -/
theorem gather_tup {t : Addr} {vs : List Value} {Q : List Value → Shared → Prop} (ht : s.heap.IsTuple t vs.toArray) (hz : vs.length ≤ sizeLine)
    (q : ∀ h', (∀ b o, s.heap.get? b = some o → h'.get? b = some o) → Q vs { s with heap := h' }) : wpAny (model prog w) A (collect (.ref t)) Q E s := by
  obtain ⟨o, ho, hc, n, hd⟩ := id ht
  have kp : (s.heap.push (seqObj "list" #[] 0)).get? t = some o := Heap.get?_push_of_some _ ho
  have nw : (s.heap.push (seqObj "list" #[] 0)).get? s.heap.objs.size = some (seqObj "list" #[] 0) := Heap.get?_push_size _ rfl
  have tt : (Value.type "tuple" == Value.type "tuple") = true := by rfl
  unfold collect
  refine wpAny_bind (wpAny_runValue (codeAny_builtin entry_proto_collect' (show wpAny _ _ (do again (.builtin "list.__iadd__" ⟨[← newList [], .ref t], []⟩)) _ _ s from
    wpAny_bind (wpAny_newList (wpAny_pure ⟨Code.quiet_builtin _ (by decide +kernel), codeAny_builtin entry_list_iadd'
      (show wpAny _ _ (Builtin.List.listExtendWith (.ref s.heap.objs.size) (.ref t) (.ref s.heap.objs.size)) _ _ { s with heap := s.heap.push (seqObj "list" #[] 0) } from ?_)⟩)))))
  unfold Builtin.List.listExtendWith
  refine wpAny_bind (wpAny_typeOf (T := "tuple") ⟨o, kp, hc⟩ ?_)
  rw [if_pos (by rw [tt]; simp)]
  refine wpAny_bind (listItems_at kp hd (wpAny_bind (listItems_at nw rfl ?_)))
  rw [if_neg (by simp)]
  refine wpAny_bind (listUpdate_at nw rfl (wpAny_pure ?_) (Nat.zero_le _) (by show (#[] ++ vs.toArray).size ≤ sizeLine + 1; simp only [Array.size_append, List.size_toArray, List.length_nil]; omega))
  show wpAny (model prog w) A (load s.heap.objs.size >>= fun o => match o.data with | .seq xs _ => pure xs.toList | _ => unsupported "internal:collect") Q E { s with heap := (s.heap.push (seqObj "list" #[] 0)).update s.heap.objs.size (Obj.mapSeq (· ++ vs.toArray)) }
  refine wpAny_bind (wpAny_load (get?_update_seq nw _) ?_)
  show wpAny _ _ (pure ((#[] : Array Value) ++ vs.toArray).toList) Q E _
  have e : ((#[] : Array Value) ++ vs.toArray).toList = vs := by simp
  rw [e]
  refine wpAny_pure (q _ fun b o' e' => ?_)
  rw [Heap.get?_update_other _ _ (Ne.symm (Nat.ne_of_lt (Heap.lt_size e')))]
  exact Heap.get?_push_of_some _ e'
end
section
variable {X : Cx}
def rSortedTup (K : PySem.W.Frag) : List V → Hp → VK → Prop := fun xs H Q => ∃ (a : Addr) (ks : List Int), xs = [.ref a] ∧ SqT K H a (ks.map V.int) ∧
    ∀ (ns : List Int) (p : Addr), ns.Perm ks → ns.Pairwise (· ≤ ·) → H p = none → Q (.ref p) (upd H p (.lst (ns.map V.int)))
theorem cr_sortedTup : CallR X (.builtin "sorted") (rSortedTup X.K) := by
  intro pins s σ H xs us Q I r q
  obtain ⟨a, ks, rfl, ht, q⟩ := q
  obtain ⟨its, rv, htup, hz0⟩ := I.tuple ht
  rw [Vals.ref1 r]
  have hal : its.length = ks.length := by rw [← rv.length, List.length_map]
  have hz : its.length ≤ sizeLine := by rw [← rv.length]; exact hz0
  refine Calls.call_function_entry PyProof.Rows.kind_sorted PyProof.Rows.plain_sorted PyProof.Rows.entry_sorted (PyProof.Rows.args_sorted1 _) ?_
  unfold Builtin.«sorted»
  refine wpAny_bind (m := checkCount "sorted" 1 1 _) (wpAny_pure (wpAny_bind (gather_tup htup hz fun h' hk => ?_)))
  have hi := rv.ints
  have I1 : Inv X pins σ H { s with heap := h', toks := s.toks } := I.kept hk
  refine wpAny_bind (wpAny_newList ?_ hz)
  have hoL : (h'.push (PyProof.Rows.seqObj "list" its.toArray 0)).get? h'.objs.size = some (PyProof.Rows.seqObj "list" its.toArray 0) := Heap.get?_push_size _ rfl
  show wpAny _ _ _ _ _ { s with heap := h'.push (PyProof.Rows.seqObj "list" its.toArray 0), toks := s.toks }
  refine wpAny_bind (wpAny_holding (wpAny_call_entry PyProof.Rows.slot_list_sort ⟨_, hoL, rfl⟩ PyProof.Rows.entry_list_sort
    (SrtO.list_sort_ord SrtO.swo_int hoL hz (fun h2 => SrtO.ints_sortable hi h2) fun out h1 h2 => ⟨_, rfl, ?_⟩) (PyProof.Rows.args_list_sort _)))
  obtain ⟨k1, k2, k3⟩ := SrtO.ints_out hi h1 h2
  obtain ⟨e', he'⟩ := PyProof.Rows.sortedHeap_at (vs := its) (out := out.toArray) hoL
  have hlen : ((out.map SrtO.iv).map V.int).length ≤ sizeLine := by
    rw [List.length_map, k2.length_eq, ← hal]
    exact hz
  refine wpAny_pure ⟨_, rfl, .ref h'.objs.size, upd H h'.objs.size (.lst ((out.map SrtO.iv).map V.int)), I1.laid (t' := s.toks) (fun b u e => ?_) (Nat.le_refl _)
    (show ObjOk X.prog X.w _ _ _ (.lst ((out.map SrtO.iv).map V.int)) from ⟨hlen, out, e', vals_of_ints k1, he'⟩), rfl, q _ _ k2 k3 (I1.hok.fresh (Nat.le_refl _))⟩
  have hb : b < h'.objs.size := Heap.lt_size e
  rw [PyProof.Rows.sortedHeap_old (Nat.ne_of_lt hb) (by rw [size_push']; exact Nat.lt_succ_of_lt hb)]
  exact Heap.get?_push_of_some _ e
end
theorem x_sortedTup {K : PySem.W.Frag} {H : Hp} {Q : VK} {a : Addr} {ks : List Int} (h : SqT K H a (ks.map V.int)) (q : ∀ (ns : List Int) (p : Addr), ns.Perm ks → ns.Pairwise (· ≤ ·) → H p = none → Q (.ref p) (upd H p (.lst (ns.map V.int)))) : rSortedTup K [.ref a] H Q := ⟨a, ks, rfl, h, q⟩

local macro_rules | `(tactic| walk_at "lk") => `(tactic| first
  | assumption
  | exact upd_same
  | (refine' lk_ne ?h (by assumption); (case h => walk_at "lk"))
  | (refine' lk_ne2 ?n ?h; (case n => walk_at "ne"); (case h => walk_at "lk"))
  | (refine' lk_keep (by assumption) ?n ?h; (case n => walk_at "nin"); (case h => walk_at "lk")))
local macro_rules | `(tactic| walk_at "ne") => `(tactic| first
  | assumption
  | exact Ne.symm (by assumption))
local macro_rules | `(tactic| walk_at "nin") => `(tactic| first
  | assumption
  | (simp only [List.mem_cons, List.not_mem_nil, or_false, not_or, not_false_eq_true, and_true]; (repeat' apply And.intro); all_goals walk_at "ne"))
local macro_rules | `(tactic| walk_at "lkL") => `(tactic| first
  | assumption
  | (refine' SqL.of ?h; (case h => walk_at "lk"))
  | (refine' Kx.sqL ?k ?n ?h; (case k => walk_at "kx"); (case n => walk_at "nin"); (case h => walk_at "lkL")))
local macro_rules | `(tactic| walk_at "kx") => `(tactic| first
  | assumption
  | (refine' Kx.new ?k ?n; (case n => assumption); (case k => first | walk_at "kx" | exact Kx.refl [] _)))
local macro_rules | `(tactic| walk_at "lkT") => `(tactic| first
  | assumption
  | (refine' SqT.of ?h; (case h => walk_at "lk"))
  | (refine' FT.seq ?h; (case h => assumption))
  | (refine' Kx.sqT ?k ?n ?h; (case k => walk_at "kx"); (case n => walk_at "nin"); (case h => walk_at "lkT")))
local macro_rules | `(tactic| walk_at "sz") => `(tactic| first
  | exact Nat.zero_le _
  | (show (_ : Nat) ≤ sizeLine; decide)
  | (refine Nat.le_of_lt (small1000 ?h); (case h => first | omega | (simp; done) | (simp; omega))))
local macro_rules | `(tactic| walk_at "at") => `(tactic| first
  | exact rfl
  | assumption)
local macro_rules | `(tactic| walk_at "side") => `(tactic| first
  | assumption
  | (show (0 : Int) < _; first | decide | omega)
  | exact Or.inl ⟨by omega, by omega⟩
  | exact Or.inr ⟨by omega, by omega⟩
  | exact ⟨by omega, by omega⟩
  | exact ⟨by decide, by decide, by decide⟩
  | exact ⟨by decide, by decide, natAbs_lt (by omega) (by omega)⟩
  | exact small1000 (by first | omega | (simp; done) | (simp; omega))
  | omega)
local macro_rules | `(tactic| walk_at "rd") => `(tactic| dsimp only)
local macro_rules | `(tactic| walk_at "rd") => `(tactic| ((with_reducible refine' x_c  ?_)))
local macro_rules | `(tactic| walk_at "rd") => `(tactic| ((with_reducible refine' x_op  ?_)))
local macro_rules | `(tactic| walk_at "rd") => `(tactic| ((with_reducible refine' x_un  ?_)))
local macro_rules | `(tactic| walk_at "rd") => `(tactic| ((with_reducible refine' x_I0  ?_)))
local macro_rules | `(tactic| walk_at "rd") => `(tactic| ((with_reducible refine' x_U  ?_)))
local macro_rules | `(tactic| walk_at "rd") => `(tactic| ((with_reducible refine' x_isN  ?_)))
local macro_rules | `(tactic| walk_at "rd") => `(tactic| ((with_reducible refine' x_notN  ?_)))
local macro_rules | `(tactic| walk_at "rd") => `(tactic| ((with_reducible refine' x_nil  ?_)))
local macro_rules | `(tactic| walk_at "rd") => `(tactic| ((with_reducible refine' x_cons  ?_)))
local macro_rules | `(tactic| walk_at "rd") => `(tactic| ((with_reducible refine' x_lst  ?_)))
local macro_rules | `(tactic| walk_at "rd") => `(tactic| ((with_reducible refine' x_tup  ?_)))
local macro_rules | `(tactic| walk_at "rd") => `(tactic| ((with_reducible refine' x_tupF  ?_)))
local macro_rules | `(tactic| walk_at "rd") => `(tactic| ((with_reducible refine' x_CB  ?_)))
local macro_rules | `(tactic| walk_at "rd") => `(tactic| ((with_reducible refine' x_call  ?_)))
local macro_rules | `(tactic| walk_at "rd") => `(tactic| ((with_reducible refine' x_test  ?_)))
local macro_rules | `(tactic| walk_at "rd") => `(tactic| ((with_reducible refine' x_bl  ?_)))
local macro_rules | `(tactic| walk_at "rd") => `(tactic| ((with_reducible refine' x_B  ?_)))
local macro_rules | `(tactic| walk_at "rd") => `(tactic| ((with_reducible refine' x_andV  ?_)))
local macro_rules | `(tactic| walk_at "rd") => `(tactic| ((with_reducible refine' x_orV  ?_)))
local macro_rules | `(tactic| walk_at "rd") => `(tactic| ((with_reducible refine' x_notV  ?_)))
local macro_rules | `(tactic| walk_at "rd") => `(tactic| ((with_reducible refine' x_and  ?_)))
local macro_rules | `(tactic| walk_at "rd") => `(tactic| ((with_reducible refine' x_or  ?_)))
local macro_rules | `(tactic| walk_at "rd") => `(tactic| ((with_reducible refine' x_not  ?_)))
local macro_rules | `(tactic| walk_at "rd") => `(tactic| ((with_reducible refine' x_if  ?_)))
local macro_rules | `(tactic| walk_at "rd") => `(tactic| ((with_reducible refine' x_sl  ?_)))
local macro_rules | `(tactic| walk_at "rd") => `(tactic| ((with_reducible refine' x_no  ?_)))
local macro_rules | `(tactic| walk_at "rd") => `(tactic| ((with_reducible refine' x_part  ?_)))
local macro_rules | `(tactic| walk_at "rd") => `(tactic| ((with_reducible refine' x_int  ?_)))
local macro_rules | `(tactic| walk_at "rd") => `(tactic| ((with_reducible refine' x_seq  ?_)))
local macro_rules | `(tactic| walk_at "rd") => `(tactic| ((with_reducible refine' x_next  ?_)))
local macro_rules | `(tactic| walk_at "rd") => `(tactic| ((with_reducible refine' x_brk  ?_)))
local macro_rules | `(tactic| walk_at "rd") => `(tactic| ((with_reducible refine' x_cont  ?_)))
local macro_rules | `(tactic| walk_at "rd") => `(tactic| ((with_reducible refine' x_drop  ?_)))
local macro_rules | `(tactic| walk_at "rd") => `(tactic| ((with_reducible refine' x_ret  ?_)))
local macro_rules | `(tactic| walk_at "rd") => `(tactic| ((with_reducible refine' x_retN  ?_)))
local macro_rules | `(tactic| walk_at "rd") => `(tactic| ((with_reducible refine' x_asg  ?_)))
local macro_rules | `(tactic| walk_at "rd") => `(tactic| ((with_reducible refine' x_gnil  ?_)))
local macro_rules | `(tactic| walk_at "rd") => `(tactic| ((with_reducible refine' x_gcons  ?_)))
local macro_rules | `(tactic| walk_at "rd") => `(tactic| ((with_reducible refine' x_gsub  ?_)))
local macro_rules | `(tactic| walk_at "rd") => `(tactic| ((with_reducible refine' x_par  ?_)))
local macro_rules | `(tactic| walk_at "rd") => `(tactic| ((with_reducible refine' x_ifS  ?_)))
local macro_rules | `(tactic| walk_at "rd") => `(tactic| ((with_reducible refine' x_ipI  ?_)))
local macro_rules | `(tactic| walk_at "rd") => `(tactic| ((with_reducible refine' x_augS  ?_)))
local macro_rules | `(tactic| walk_at "rd") => `(tactic| ((with_reducible refine' x_abs  ?_)))
local macro_rules | `(tactic| walk_at "rd") => `(tactic| ((with_reducible refine' x_toI  ?_)))
local macro_rules | `(tactic| walk_at "rd") => `(tactic| ((with_reducible refine' x_toIb  ?_)))
local macro_rules | `(tactic| walk_at "rd") => `(tactic| ((with_reducible refine' x_min2  ?_)))
local macro_rules | `(tactic| walk_at "rd") => `(tactic| ((with_reducible refine' x_bm  ?_)))
local macro_rules | `(tactic| walk_at "rd") => `(tactic| ((with_reducible refine' x_bm0  ?_)))
local macro_rules | `(tactic| walk_at "rd") => `(tactic| ((with_reducible refine' x_bmF  ?_)))
local macro_rules | `(tactic| walk_at "rd") => `(tactic| ((with_reducible refine' x_lrg  ?_)))
local macro_rules | `(tactic| walk_at "rd") => `(tactic| ((with_reducible refine' x_yes  ?_)))
local macro_rules | `(tactic| walk_at "rd") => `(tactic| ((with_reducible refine' x_rg1  ?_)))
local macro_rules | `(tactic| walk_at "rd") => `(tactic| ((with_reducible refine' x_for  ?_)))
local macro_rules | `(tactic| walk_at "rd") => `(tactic| ((with_reducible refine' x_lc  ?_)))
local macro_rules | `(tactic| walk_at "rd") => `(tactic| ((with_reducible refine' x_iL  ?_)))
local macro_rules | `(tactic| walk_at "rd") => `(tactic| ((with_reducible refine' x_iT  ?_)))
local macro_rules | `(tactic| walk_at "rd") => `(tactic| ((with_reducible refine' x_iR1  ?_)))
local macro_rules | `(tactic| walk_at "rd") => `(tactic| ((with_reducible refine' x_iR2  ?_)))
local macro_rules | `(tactic| walk_at "rd") => `(tactic| ((with_reducible refine' x_iE  ?_)))
local macro_rules | `(tactic| walk_at "rd") => `(tactic| ((with_reducible refine' x_iET  ?_)))
local macro_rules | `(tactic| walk_at "rd") => `(tactic| ((with_reducible refine' x_name  ?_); try simp only [List.set_cons_zero, List.set_cons_succ]))
local macro_rules | `(tactic| walk_at "rd") => `(tactic| ((with_reducible refine' x_new ?s0 ?_); (case s0 => walk_at "sz"); intro _ _))
local macro_rules | `(tactic| walk_at "rd") => `(tactic| ((with_reducible refine' x_newF ?s0 ?_); (case s0 => walk_at "sz"); intro _ _ _ _ _))
local macro_rules | `(tactic| walk_at "rd") => `(tactic| ((with_reducible refine' x_iteT  ?_)))
local macro_rules | `(tactic| walk_at "rd") => `(tactic| ((with_reducible refine' x_iteF  ?_)))
local macro_rules | `(tactic| walk_at "rd") => `(tactic| ((with_reducible refine' x_neNil ?s0 ?s1 ?_); (case s0 => walk_at "lkL"); (case s1 => walk_at "lkL")))
local macro_rules | `(tactic| walk_at "rd") => `(tactic| ((with_reducible refine' x_two  ?_); try simp only [List.set_cons_zero, List.set_cons_succ]))
local macro_rules | `(tactic| walk_at "rd") => `(tactic| ((with_reducible refine' x_getL ?s0 ?s1 ?_); (case s0 => walk_at "lkL"); (case s1 => walk_at "at")))
local macro_rules | `(tactic| walk_at "rd") => `(tactic| ((with_reducible refine' x_var ?s0 ?_); (case s0 => exact rfl)))
local macro_rules | `(tactic| walk_at "rd") => `(tactic| ((with_reducible refine' x_eq ?s0 ?_); (case s0 => exact rfl)))
local macro_rules | `(tactic| walk_at "rd") => `(tactic| ((with_reducible refine' x_ne ?s0 ?_); (case s0 => exact rfl)))
local macro_rules | `(tactic| walk_at "rd") => `(tactic| ((with_reducible refine' x_I ?s0 ?_); (case s0 => walk_at "side")))
local macro_rules | `(tactic| walk_at "rd") => `(tactic| ((with_reducible refine' x_ixL ?s0 ?s1 ?_); (case s0 => walk_at "lkL"); (case s1 => walk_at "at")))
local macro_rules | `(tactic| walk_at "rd") => `(tactic| ((with_reducible refine' x_ixT ?s0 ?s1 ?_); (case s0 => walk_at "lkT"); (case s1 => walk_at "at")))
local macro_rules | `(tactic| walk_at "rd") => `(tactic| ((with_reducible refine' x_slL ?s0 ?_); (case s0 => walk_at "lkL")))
local macro_rules | `(tactic| walk_at "rd") => `(tactic| ((with_reducible refine' x_gtup ?s0 ?s1 ?_); (case s0 => walk_at "lkT"); (case s1 => exact rfl)))
local macro_rules | `(tactic| walk_at "rd") => `(tactic| ((with_reducible refine' x_setL ?s0 ?s1 ?_); (case s0 => walk_at "lk"); (case s1 => walk_at "at"); try simp only [Int.reduceToNat, List.set]))
local macro_rules | `(tactic| walk_at "rd") => `(tactic| ((with_reducible refine' x_aug ?s0 ?_); (case s0 => exact rfl)))
local macro_rules | `(tactic| walk_at "rd") => `(tactic| ((with_reducible refine' x_lenS ?s0 ?_); (case s0 => walk_at "lkL")))
local macro_rules | `(tactic| walk_at "rd") => `(tactic| ((with_reducible refine' x_lenT ?s0 ?_); (case s0 => walk_at "lkT")))
local macro_rules | `(tactic| walk_at "rd") => `(tactic| ((with_reducible refine' x_tupS ?s0 ?_); (case s0 => walk_at "lkL")))
local macro_rules | `(tactic| walk_at "rd") => `(tactic| ((with_reducible refine' x_tupF1 ?s0 ?_); (case s0 => walk_at "lkL")))
local macro_rules | `(tactic| walk_at "rd") => `(tactic| ((with_reducible refine' x_insert ?s0 ?s1 ?s2 ?s3 ?_); (case s0 => walk_at "lk"); (case s1 => walk_at "side"); (case s2 => walk_at "side"); (case s3 => walk_at "side")))
local macro_rules | `(tactic| walk_at "rd") => `(tactic| ((with_reducible refine' x_append ?s0 ?s1 ?_); (case s0 => walk_at "lk"); (case s1 => walk_at "side")))
local macro_rules | `(tactic| walk_at "rd") => `(tactic| ((with_reducible refine' x_reverse ?s0 ?_); (case s0 => walk_at "lk")))
local macro_rules | `(tactic| walk_at "rd") => `(tactic| ((with_reducible refine' x_dc  ?_)))
local macro_rules | `(tactic| walk_at "rd") => `(tactic| ((with_reducible refine' x_while  ?_)))
local macro_rules | `(tactic| walk_at "rd") => `(tactic| ((with_reducible refine' x_din  ?_)))
local macro_rules | `(tactic| walk_at "rd") => `(tactic| ((with_reducible refine' x_dnotin  ?_)))
local macro_rules | `(tactic| walk_at "rd") => `(tactic| ((with_reducible refine' x_dput  ?_)))
local macro_rules | `(tactic| walk_at "rd") => `(tactic| ((with_reducible refine' x_dget  ?_)))
local macro_rules | `(tactic| walk_at "rd") => `(tactic| ((with_reducible refine' x_pop ?s0 ?s1 ?_); (case s0 => walk_at "lk"); (case s1 => walk_at "at")))
local macro_rules | `(tactic| walk_at "rd") => `(tactic| ((with_reducible refine' x_dgI ?s0 ?_); (case s0 => walk_at "lk")))
local macro_rules | `(tactic| walk_at "rd") => `(tactic| ((with_reducible refine' x_dpI ?s0 ?s1 ?_); (case s0 => walk_at "lk"); (case s1 => walk_at "side")))
local macro_rules | `(tactic| walk_at "rd") => `(tactic| ((with_reducible refine' x_listD ?s0 ?_); (case s0 => walk_at "lk"); intro _ _))
local macro_rules | `(tactic| walk_at "rd") => `(tactic| ((with_reducible refine' x_truthL ?s0 ?_); (case s0 => walk_at "lkL")))
local macro_rules | `(tactic| walk_at "rd") => `(tactic| ((with_reducible refine' x_inL ?s0 ?s1 ?s2 ?_); (case s0 => walk_at "lkL"); (case s1 => exact rfl); (case s2 => first | assumption | exact flat_ints _)))
local macro_rules | `(tactic| walk_at "rd") => `(tactic| ((with_reducible refine' x_notInL ?s0 ?s1 ?s2 ?_); (case s0 => walk_at "lkL"); (case s1 => exact rfl); (case s2 => first | assumption | exact flat_ints _)))
local macro_rules | `(tactic| walk_at "rd") => `(tactic| ((with_reducible refine' x_kw  ?_)))
local macro_rules | `(tactic| walk_at "rd") => `(tactic| ((with_reducible refine' x_ckw  ?_)))
local macro_rules | `(tactic| walk_at "rd") => `(tactic| ((with_reducible refine' x_iR3  ?_)))
local macro_rules | `(tactic| walk_at "rd") => `(tactic| ((with_reducible refine' x_par3  ?_); try simp only [List.set_cons_zero, List.set_cons_succ]))
local macro_rules | `(tactic| walk_at "rd") => `(tactic| ((with_reducible refine' x_three  ?_); try simp only [List.set_cons_zero, List.set_cons_succ]))
local macro_rules | `(tactic| walk_at "rd") => `(tactic| ((with_reducible refine' x_orT  ?_)))
local macro_rules | `(tactic| walk_at "rd") => `(tactic| ((with_reducible refine' x_truN  ?_)))
local macro_rules | `(tactic| walk_at "rd") => `(tactic| ((with_reducible refine' x_truT ?s0 ?_); (case s0 => walk_at "lkT")))
local macro_rules | `(tactic| walk_at "rd") => `(tactic| ((with_reducible refine' x_glst ?s0 ?s1 ?_); (case s0 => walk_at "lkL"); (case s1 => exact rfl)))
local macro_rules | `(tactic| walk_at "rd") => `(tactic| ((with_reducible refine' x_chain  ?_)))
local macro_rules | `(tactic| walk_at "rd") => `(tactic| ((with_reducible refine' x_isiII  ?_)))
local macro_rules | `(tactic| walk_at "rd") => `(tactic| ((with_reducible refine' x_isiIB  ?_)))
local macro_rules | `(tactic| walk_at "rd") => `(tactic| ((with_reducible refine' x_revL  ?_)))
local macro_rules | `(tactic| walk_at "rd") => `(tactic| ((with_reducible refine' x_kwx  ?_)))
local macro_rules | `(tactic| walk_at "rd") => `(tactic| ((with_reducible refine' x_rg2  ?_)))
local macro_rules | `(tactic| walk_at "rd") => `(tactic| ((with_reducible refine' x_int2  ?_)))
local macro_rules | `(tactic| walk_at "rd") => `(tactic| ((with_reducible refine' x_dget2  ?_)))
def topS (i : Nat) : Stmt := PySem.Challenge.pw_slotfall_k69_collect.main.body.getD i (.Pass ⟨0, 0, 0, 0⟩)
abbrev sWall : Stmt := topS 0
theorem scWall : FnScope ["k"] ["k"] (defScope sWall) := ⟨rfl, rfl, rfl, by decide +kernel, rfl, by decide +kernel, by decide +kernel⟩
abbrev sLiveNodes : Stmt := topS 2
theorem scLiveNodes : FnScope ["heap", "node", "row"] ["heap"] (defScope sLiveNodes) := ⟨rfl, rfl, rfl, by decide +kernel, rfl, by decide +kernel, by decide +kernel⟩
abbrev sCounts : Stmt := topS 3
theorem scCounts : FnScope ["heap", "slots", "outside", "uses", "node", "row"] ["heap"] (defScope sCounts) := ⟨rfl, rfl, rfl, by decide +kernel, rfl, by decide +kernel, by decide +kernel⟩
abbrev sSlotUses : Stmt := topS 4
theorem scSlotUses : FnScope ["slots", "uses", "row", "held"] ["slots"] (defScope sSlotUses) := ⟨rfl, rfl, rfl, by decide +kernel, rfl, by decide +kernel, by decide +kernel⟩
abbrev sReachable : Stmt := topS 6
theorem scReachable : FnScope ["heap"] ["heap"] (defScope sReachable) := ⟨rfl, rfl, rfl, by decide +kernel, rfl, by decide +kernel, by decide +kernel⟩
abbrev sHeldFrom : Stmt := topS 7
theorem scHeldFrom : FnScope ["heap", "starts", "sources", "pending", "holder", "held", "node"] ["heap", "starts"] (defScope sHeldFrom) := ⟨rfl, rfl, rfl, by decide +kernel, rfl, by decide +kernel, by decide +kernel⟩
abbrev sSources : Stmt := topS 8
theorem scSources : FnScope ["heap", "node"] ["heap"] (defScope sSources) := ⟨rfl, rfl, rfl, by decide +kernel, rfl, by decide +kernel, by decide +kernel⟩
abbrev sReleasingInit : Stmt := inClass (topS 10) 0
theorem scReleasingInit : FnScope ["self", "heap", "limit", "row"] ["self", "heap", "limit"] (defScope sReleasingInit) := ⟨rfl, rfl, rfl, by decide +kernel, rfl, by decide +kernel, by decide +kernel⟩
abbrev sReleasingDrop : Stmt := inClass (topS 10) 1
theorem scReleasingDrop : FnScope ["self", "node", "taken"] ["self", "node"] (defScope sReleasingDrop) := ⟨rfl, rfl, rfl, by decide +kernel, rfl, by decide +kernel, by decide +kernel⟩
abbrev sReleasingPut : Stmt := inClass (topS 10) 2
theorem scReleasingPut : FnScope ["self", "node", "slot", "target", "held"] ["self", "node", "slot", "target"] (defScope sReleasingPut) := ⟨rfl, rfl, rfl, by decide +kernel, rfl, by decide +kernel, by decide +kernel⟩
abbrev sReleasingEmpty : Stmt := inClass (topS 10) 3
theorem scReleasingEmpty : FnScope ["self", "node", "slot"] ["self", "node"] (defScope sReleasingEmpty) := ⟨rfl, rfl, rfl, by decide +kernel, rfl, by decide +kernel, by decide +kernel⟩
abbrev sReleasingResult : Stmt := inClass (topS 10) 4
theorem scReleasingResult : FnScope ["self", "log", "peak", "rows", "event", "row"] ["self"] (defScope sReleasingResult) := ⟨rfl, rfl, rfl, by decide +kernel, rfl, by decide +kernel, by decide +kernel⟩
abbrev sReleasingSpared : Stmt := inClass (topS 10) 5
theorem scReleasingSpared : FnScope ["self"] ["self"] (defScope sReleasingSpared) := ⟨rfl, rfl, rfl, by decide +kernel, rfl, by decide +kernel, by decide +kernel⟩
abbrev sReleasingReleaseAll : Stmt := inClass (topS 10) 6
theorem scReleasingReleaseAll : FnScope ["self", "holder", "slot", "node", "depth"] ["self"] (defScope sReleasingReleaseAll) := ⟨rfl, rfl, rfl, by decide +kernel, rfl, by decide +kernel, by decide +kernel⟩
abbrev sReleasingRelease : Stmt := inClass (topS 10) 7
theorem scReleasingRelease : FnScope ["self", "holder", "slot", "node", "depth", "left"] ["self", "holder", "slot", "node", "depth"] (defScope sReleasingRelease) := ⟨rfl, rfl, rfl, by decide +kernel, rfl, by decide +kernel, by decide +kernel⟩
abbrev sReleasingDestroy : Stmt := inClass (topS 10) 8
theorem scReleasingDestroy : FnScope ["self", "node", "depth", "row", "slot"] ["self", "node", "depth"] (defScope sReleasingDestroy) := ⟨rfl, rfl, rfl, by decide +kernel, rfl, by decide +kernel, by decide +kernel⟩
abbrev sRunCollect : Stmt := topS 12
theorem scRunCollect : FnScope ["heap", "nodes", "limit", "kept", "work", "node"] ["heap", "nodes", "limit"] (defScope sRunCollect) := ⟨rfl, rfl, rfl, by decide +kernel, rfl, by decide +kernel, by decide +kernel⟩
abbrev sCollect : Stmt := topS 14
theorem scCollect : FnScope ["heap", "limit"] ["heap", "limit"] (defScope sCollect) := ⟨rfl, rfl, rfl, by decide +kernel, rfl, by decide +kernel, by decide +kernel⟩
abbrev sQPen : Stmt := topS 16
theorem scQPen : FnScope ["_law_script"] ["_law_script"] (defScope sQPen) := ⟨rfl, rfl, rfl, by decide +kernel, rfl, by decide +kernel, by decide +kernel⟩
abbrev sQDraw : Stmt := topS 17
theorem scQDraw : FnScope ["_law_pen_here", "_law_most_one", "_law_digit", "_law_place", "_law_cell", "_law_whole", "_law_mixed"] ["_law_pen_here", "_law_most_one"] (defScope sQDraw) := ⟨rfl, rfl, rfl, by decide +kernel, rfl, by decide +kernel, by decide +kernel⟩
abbrev sQShuffled : Stmt := topS 18
theorem scQShuffled : FnScope ["_law_pen_here", "_law_row", "_law_result", "_law_entry"] ["_law_pen_here", "_law_row"] (defScope sQShuffled) := ⟨rfl, rfl, rfl, by decide +kernel, rfl, by decide +kernel, by decide +kernel⟩
abbrev sQLinked : Stmt := topS 19
theorem scQLinked : FnScope ["_law_pen_here", "_law_labels", "_law_alive", "_law_rows", "_law_way", "_law_place", "_law_near", "_law_back", "_law_row", "_law_forward", "_law_turn", "_law_one", "_law_other", "_law_entry", "_law_label"] ["_law_pen_here", "_law_labels", "_law_alive"] (defScope sQLinked) := ⟨rfl, rfl, rfl, by decide +kernel, rfl, by decide +kernel, by decide +kernel⟩
abbrev sQBase : Stmt := topS 20
theorem scQBase : FnScope ["_law_pen_here", "_law_alive", "_law_spare", "_law_labels", "_law_rows", "_law_label", "_law_handles", "_law_turn", "_law_row"] ["_law_pen_here"] (defScope sQBase) := ⟨rfl, rfl, rfl, by decide +kernel, rfl, by decide +kernel, by decide +kernel⟩
abbrev sQLoose : Stmt := topS 21
theorem scQLoose : FnScope ["_law_pen_here", "_law_base_here", "_law_rows", "_law_handles", "_law_alive", "_law_turn", "_law_one", "_law_other", "_law_spot", "_law_row"] ["_law_pen_here", "_law_base_here"] (defScope sQLoose) := ⟨rfl, rfl, rfl, by decide +kernel, rfl, by decide +kernel, by decide +kernel⟩
abbrev sQReached : Stmt := topS 22
theorem scQReached : FnScope ["_law_base_here", "_law_rows", "_law_handles", "_law_found", "_law_at", "_law_entry", "_law_spot", "_law_number"] ["_law_base_here"] (defScope sQReached) := ⟨rfl, rfl, rfl, by decide +kernel, rfl, by decide +kernel, by decide +kernel⟩
abbrev sQTallies : Stmt := topS 23
theorem scQTallies : FnScope ["_law_base_here", "_law_found", "_law_row", "_law_entry"] ["_law_base_here"] (defScope sQTallies) := ⟨rfl, rfl, rfl, by decide +kernel, rfl, by decide +kernel, by decide +kernel⟩
abbrev sQModel : Stmt := topS 24
theorem scQModel : FnScope ["_law_base_here", "_law_spot", "_law_bound_here", "_law_tallies_here", "_law_waiting", "_law_frames", "_law_log", "_law_high", "_law_holder", "_law_place", "_law_entry"] ["_law_base_here", "_law_spot", "_law_bound_here"] (defScope sQModel) := ⟨rfl, rfl, rfl, by decide +kernel, rfl, by decide +kernel, by decide +kernel⟩
abbrev sQAfter : Stmt := topS 25
theorem scQAfter : FnScope ["_law_base_here", "_law_spot", "_law_log", "_law_rows", "_law_handles", "_law_place", "_law_row", "_law_number"] ["_law_base_here", "_law_spot", "_law_log"] (defScope sQAfter) := ⟨rfl, rfl, rfl, by decide +kernel, rfl, by decide +kernel, by decide +kernel⟩
abbrev sQDropped : Stmt := topS 26
theorem scQDropped : FnScope ["_law_base_here", "_law_spot", "_law_bound_here", "_law_log", "_law_high"] ["_law_base_here", "_law_spot", "_law_bound_here"] (defScope sQDropped) := ⟨rfl, rfl, rfl, by decide +kernel, rfl, by decide +kernel, by decide +kernel⟩
abbrev sQFilled : Stmt := topS 27
theorem scQFilled : FnScope ["_law_base_here", "_law_spot", "_law_place", "_law_goal", "_law_bound_here", "_law_rows", "_law_handles", "_law_entry"] ["_law_base_here", "_law_spot", "_law_place", "_law_goal", "_law_bound_here"] (defScope sQFilled) := ⟨rfl, rfl, rfl, by decide +kernel, rfl, by decide +kernel, by decide +kernel⟩
abbrev sQStripped : Stmt := topS 28
theorem scQStripped : FnScope ["_law_base_here", "_law_spot", "_law_bound_here", "_law_place", "_law_handles", "_law_now", "_law_whole", "_law_high", "_law_log", "_law_more", "_law_number"] ["_law_base_here", "_law_spot", "_law_bound_here"] (defScope sQStripped) := ⟨rfl, rfl, rfl, by decide +kernel, rfl, by decide +kernel, by decide +kernel⟩
abbrev sQBound : Stmt := topS 29
theorem scQBound : FnScope ["_law_pen_here", "_law_size", "_law_some"] ["_law_pen_here", "_law_size"] (defScope sQBound) := ⟨rfl, rfl, rfl, by decide +kernel, rfl, by decide +kernel, by decide +kernel⟩
abbrev sQCollected : Stmt := topS 30
theorem scQCollected : FnScope ["_law_base_here", "_law_bound_here", "_law_found", "_law_whole", "_law_high", "_law_now", "_law_spot", "_law_row", "_law_log", "_law_more"] ["_law_base_here", "_law_bound_here"] (defScope sQCollected) := ⟨rfl, rfl, rfl, by decide +kernel, rfl, by decide +kernel, by decide +kernel⟩
abbrev sQRight : Stmt := topS 31
theorem scQRight : FnScope ["_law_base_here", "_law_bound_here", "_law_before", "_law_expected", "_law_found", "_law_met", "_law_lost", "_law_spot", "_law_row"] ["_law_base_here", "_law_bound_here"] (defScope sQRight) := ⟨rfl, rfl, rfl, by decide +kernel, rfl, by decide +kernel, by decide +kernel⟩
abbrev sLaw : Stmt := topS 32
theorem scLaw : FnScope ["_law_script", "_law_pen_here", "_law_turn", "_law_base_here", "_law_time"] ["_law_script"] (defScope sLaw) := ⟨rfl, rfl, rfl, by decide +kernel, rfl, by decide +kernel, by decide +kernel⟩

structure Txt (mg : Str → Option Value) : Prop where
  b_len : mg "len" = none
  b_abs : mg "abs" = none
  b_int : mg "int" = none
  b_bool : mg "bool" = none
  b_list : mg "list" = none
  b_tuple : mg "tuple" = none
  b_min : mg "min" = none
  b_max : mg "max" = none
  b_sum : mg "sum" = none
  b_any : mg "any" = none
  b_all : mg "all" = none
  b_repr : mg "repr" = none
  b_sorted : mg "sorted" = none
  b_isinstance : mg "isinstance" = none
  b_range : mg "range" = none
  b_enumerate : mg "enumerate" = none

/-- the pen at p over the cells at c: at most n cells drawn -/
def PenAt (H : Hp) (p c : Addr) (n : Nat) : Prop := ∃ (cs : List Int) (pl r : Int), H p = some (.lst [.ref c, .int pl, .int r]) ∧ H c = some (.lst (cs.map V.int)) ∧ cs.length ≤ 63 ∧ 0 ≤ pl ∧ pl ≤ n ∧ 0 ≤ r
theorem PenAt.ne {H : Hp} {p c : Addr} {n : Nat} (h : PenAt H p c n) : c ≠ p := by
  obtain ⟨cs, pl, r, h1, h2, _⟩ := h
  rintro rfl
  rw [h1] at h2
  have e := HO.lst.inj (Option.some.inj h2)
  cases cs with
  | nil => cases e
  | cons z t => cases (List.cons.inj e).1
def spDraw : Sp := fun vs H Q _ => ∃ (p c : Addr) (n : Nat) (m : Int), vs = [.ref p, .int m] ∧ PenAt H p c n ∧ n < 1000000 ∧ 0 < m ∧ m < 100000000 ∧
  ∀ d H', 0 ≤ d → d < m → Kx [p] H H' → PenAt H' p c (n + 1) → Q (.int d) H'
theorem at_mod {cs : List Int} (i : Int) (h : ¬ (!cs.isEmpty) = false) : (0 : Int) < (cs.map V.int).length ∧ ∃ z, atI (cs.map V.int) (i % ((cs.map V.int).length : Int)) = some (.int z) := by
  have hl : 0 < cs.length := by
    cases cs with
    | nil => exact absurd rfl h
    | cons z t => exact Nat.succ_pos _
  have h0 : (0 : Int) < (cs.map V.int).length := by
    rw [List.length_map]
    omega
  refine ⟨h0, ?_⟩
  have h1 := Int.emod_nonneg i (Int.ne_of_gt h0)
  have h2 := Int.emod_lt_of_pos i h0
  generalize i % ((cs.map V.int).length : Int) = k at h1 h2
  rw [List.length_map] at h2
  obtain ⟨j, rfl⟩ : ∃ j : Nat, k = j := ⟨k.toNat, by omega⟩
  have hj : j < cs.length := by omega
  exact ⟨cs[j], atI_nat (by rw [List.getElem?_map, List.getElem?_eq_getElem hj]; rfl)⟩
theorem draw_bound {a pl : Int} (h0 : 0 ≤ a) (h1 : a < 2147483647) (h2 : 0 ≤ pl) (h3 : pl ≤ 1000000) : (a * (2 * pl + 13) + 90007 * pl * pl).natAbs < 2 ^ 64 := by
  have e1 : 0 ≤ a * (2 * pl + 13) := Int.mul_nonneg h0 (by omega)
  have e2 : a * (2 * pl + 13) ≤ 2147483647 * 2000013 := Int.mul_le_mul (by omega) (by omega) (by omega) (by decide)
  have e3 : 0 ≤ 90007 * pl * pl := Int.mul_nonneg (by omega) h2
  have e4 : 90007 * pl * pl ≤ 90007 * 1000000 * 1000000 := Int.mul_le_mul (by omega) (by omega) (by omega) (by decide)
  generalize a * (2 * pl + 13) = x at e1 e2
  generalize 90007 * pl * pl = y at e3 e4
  omega
section Xtra
local macro_rules | `(tactic| walk_at "side") => `(tactic| exact ⟨by decide, by decide, draw_bound (Int.emod_nonneg _ (by decide)) (Int.emod_lt_of_pos _ (by decide)) (by assumption) (by omega)⟩)
section
variable {P : Program} {w : World} {K : PySem.W.Frag} {mg : Str → Option Value} {base : Heap}
theorem ok_draw {f : Addr} {fd : FuncData} (F : Fun K "_law_draw" "_law_draw" sQDraw f fd) (T : Txt mg) : FnOk P w K mg base CX0 1 f fd ["_law_pen_here", "_law_most_one"] spDraw := by
  refine F.ok scQDraw (fun vs H Q E h => ?_) (fun cdv A outer s H vs Q E hr h => ?_)
  · obtain ⟨p, c, n, m, rfl, _⟩ := h
    rfl
  · obtain ⟨p, c, n, m, rfl, hpen, hn, hm0, hm1, k⟩ := h
    have ncp := hpen.ne
    obtain ⟨cs, pl, r, hp, hcs, hl, h0, h1, h2⟩ := hpen
    refine ⟨_, (pss_cons (ps_if (pt_cmpR op_gt (pe_ix ix_list (pv 0) pe_int (fun _ _ => rfl)) pe_int (nomark _)) (pss_cons (ps_set (i := 2) scQDraw.nd rfl (Or.inl rfl) (pe_op op_mod (pe_ix ix_list (pv 0) pe_int (fun _ _ => rfl)) (pv 1)))
      (pss_cons (ps_asg (pe_op op_fdiv (pe_ix ix_list (pv 0) pe_int (fun _ _ => rfl)) (pv 1)) (pg_sub (pv 0) pe_int set_list))
      (pss_one (ps_ret (pv 2))))) pss_nil)
      (pss_cons (ps_set (i := 3) scQDraw.nd rfl (Or.inl rfl) (pe_ix ix_list (pv 0) pe_int (fun _ _ => rfl)))
      (pss_cons (ps_asg (pe_op op_add (pv 3) pe_int) (pg_sub (pv 0) pe_int set_list))
      (pss_cons (ps_set (i := 4) scQDraw.nd rfl (Or.inl rfl) (pe_op op_add (pe_op op_mul pe_int (pv 3)) pe_int))
      (pss_cons (ps_if (pt_cmpR (op_neD hr.units) (pe_ix ix_list (pv 0) pe_int (fun _ _ => rfl)) (pe_lst pa_nil) (nomark _)) (pss_one (ps_set (i := 4) scQDraw.nd rfl (Or.inl rfl) (pe_ix ix_list (pe_ix ix_list (pv 0) pe_int (fun _ _ => rfl)) (pe_op op_mod (pv 3) (pe_callB call_len_seq (by rfl) T.b_len boot'_len (pa_cons (pe_ix ix_list (pv 0) pe_int (fun _ _ => rfl)) pa_nil))) (fun _ _ => rfl)))) pss_nil)
      (pss_cons (ps_if (PW.pt (pw_and (pt_cmpR op_lt (pv 3) (pe_callB call_len_seq (by rfl) T.b_len boot'_len (pa_cons (pe_ix ix_list (pv 0) pe_int (fun _ _ => rfl)) pa_nil)) (nomark _)) (pw_and1 (pt_cmpR op_ge (pe_callB call_abs (by rfl) T.b_abs boot'_abs (pa_cons (pv 4) pa_nil)) (pe_op op_pow pe_int pe_int) (nomark _))))) (pss_cons (ps_set (i := 5) scQDraw.nd rfl (Or.inl rfl) (pe_op op_add (pe_op op_mul pe_int (pe_callB call_abs (by rfl) T.b_abs boot'_abs (pa_cons (pv 4) pa_nil))) (pe_callTy call_int1 (by rfl) T.b_int boot'_int (pa_cons (pe_cmpR op_lt (pv 4) pe_int (nomark _)) pa_nil))))
      (pss_cons (ps_asg (pe_op op_fdiv (pv 5) (pv 1)) (pg_sub (pv 0) pe_int set_list))
      (pss_one (ps_ret (pe_op op_mod (pv 5) (pv 1)))))) pss_nil)
      (pss_cons (ps_set (i := 6) scQDraw.nd rfl (Or.inl rfl) (pe_op op_mod (pe_op op_pow (pe_op op_add (pe_op op_add (pe_op op_mod (pv 4) pe_int) (pe_op op_mul pe_int (pv 3))) pe_int) pe_int) pe_int))
      (pss_cons (ps_set (i := 6) scQDraw.nd rfl (Or.inl rfl) (pe_op op_mod (pe_op op_pow (pe_op op_add (pe_op op_mul (pv 6) (pe_op op_add (pe_op op_mul pe_int (pv 3)) pe_int)) (pe_op op_mul (pe_op op_mul pe_int (pv 3)) (pv 3))) pe_int) pe_int))
      (pss_one (ps_ret (pe_op op_mod (pe_op op_fdiv (pv 6) pe_int) (pv 1)))))))))))), ?_⟩
    refine x_start (σ' := [some (.ref p), some (.int m), none, none, none, none, none]) rfl ?_
    dsimp only [cxOf]
    have fin : ∀ d H1 pl' r', 0 ≤ d → d < m → Kx [p] H H1 → H1 p = some (.lst [.ref c, .int pl', .int r']) → 0 ≤ pl' → pl' ≤ pl + 1 → 0 ≤ r' → Q (.int d) H1 := by
      intro d H1 pl' r' a1 a2 a3 a4 a5 a6 a7
      exact k d H1 a1 a2 a3 ⟨cs, pl', r', a4, a3 c _ (by simpa using ncp) hcs, hl, a5, by omega, a7⟩
    have kx : ∀ o, Kx [p] H (upd H p o) := fun o => (Kx.refl _ _).wr (.inr (by simp))
    repeat walk_at "rd"
    refine ite2 (fun hc => ?_) (fun hc => ?_)
    · repeat walk_at "rd"
      exact fin _ _ pl (r / m) (Int.emod_nonneg _ (by omega)) (Int.emod_lt_of_pos _ hm0) (kx _) upd_same h0 (by omega) (Int.ediv_nonneg h2 (by omega))
    · repeat walk_at "rd"
      generalize hH1 : upd H p (.lst [.ref c, .int (pl + 1), .int r]) = H1
      rename_i q nq
      rw [hH1] at nq
      have p1 : H1 p = some (.lst [.ref c, .int (pl + 1), .int r]) := by rw [← hH1]; exact upd_same
      have k1 : Kx [p] H H1 := by rw [← hH1]; exact kx _
      generalize hH2 : upd H1 q (.lst []) = H2
      have p2 : H2 p = some (.lst [.ref c, .int (pl + 1), .int r]) := by rw [← hH2]; exact lk_ne p1 nq
      have c2 : H2 c = some (.lst (cs.map V.int)) := by rw [← hH2]; exact lk_ne (k1 c _ (by simpa using ncp) hcs) nq
      have q2 : H2 q = some (.lst []) := by rw [← hH2]; exact upd_same
      have k2 : Kx [p] H H2 := by rw [← hH2]; exact k1.new nq
      repeat walk_at "rd"
      refine ite2 (fun hc2 => ?_) (fun hc2 => ?_)
      · obtain ⟨hz0, z, hz⟩ := at_mod (cs := cs) pl (by simpa using hc2)
        repeat walk_at "rd"
        refine ite2 (fun hc3 => ?_) (fun hc3 => ?_)
        · repeat walk_at "rd"
          refine ite2 (fun hc4 => ?_) (fun hc4 => ?_)
          · repeat walk_at "rd"
            refine fin _ _ (pl + 1) _ (Int.emod_nonneg _ (by omega)) (Int.emod_lt_of_pos _ hm0) (k2.wr (.inr (by simp))) upd_same (by omega) (by omega) (Int.ediv_nonneg ?_ (by omega))
            split <;> split <;> omega
          · repeat walk_at "rd"
            exact fin _ _ (pl + 1) r (Int.emod_nonneg _ (by omega)) (Int.emod_lt_of_pos _ hm0) k2 p2 (by omega) (by omega) h2
        · repeat walk_at "rd"
          exact fin _ _ (pl + 1) r (Int.emod_nonneg _ (by omega)) (Int.emod_lt_of_pos _ hm0) k2 p2 (by omega) (by omega) h2
      · repeat walk_at "rd"
        refine ite2 (fun hc3 => ?_) (fun hc3 => ?_)
        · repeat walk_at "rd"
          refine ite2 (fun hc4 => ?_) (fun hc4 => ?_)
          · repeat walk_at "rd"
            refine fin _ _ (pl + 1) _ (Int.emod_nonneg _ (by omega)) (Int.emod_lt_of_pos _ hm0) (k2.wr (.inr (by simp))) upd_same (by omega) (by omega) (Int.ediv_nonneg ?_ (by omega))
            split <;> split <;> omega
          · repeat walk_at "rd"
            exact fin _ _ (pl + 1) r (Int.emod_nonneg _ (by omega)) (Int.emod_lt_of_pos _ hm0) k2 p2 (by omega) (by omega) h2
        · repeat walk_at "rd"
          exact fin _ _ (pl + 1) r (Int.emod_nonneg _ (by omega)) (Int.emod_lt_of_pos _ hm0) k2 p2 (by omega) (by omega) h2
end

end Xtra

section
variable {P : Program} {w : World} {K : PySem.W.Frag} {mg : Str → Option Value} {base : Heap}
def spPen (K : PySem.W.Frag) : Sp := fun vs H Q _ => ∃ (a : Addr) (ns : List Int), vs = [.ref a] ∧ SqL K H a (ns.map V.int) ∧
  ∀ p c H', H p = none → H c = none → Kx [] H H' → PenAt H' p c 0 → Q (.ref p) H'
theorem ok_pen {f : Addr} {fd : FuncData} (F : Fun K "_law_pen" "_law_pen" sQPen f fd) (T : Txt mg) : FnOk P w K mg base CX0 1 f fd ["_law_script"] (spPen K) := by
  refine F.ok scQPen (fun vs H Q E h => ?_) (fun cdv A outer s H vs Q E hr h => ?_)
  · obtain ⟨a, ns, rfl, _⟩ := h
    rfl
  · obtain ⟨a, ns, rfl, ha, k⟩ := h
    refine ⟨_, (pss_one (ps_ret (pe_lst (pa_cons (pe_callTy call_list_of (by rfl) T.b_list boot'_list (pa_cons (pe_slice sl_list (pv 0) po_none (po_some pe_int)) pa_nil)) (pa_cons pe_int (pa_cons pe_int pa_nil)))))), ?_⟩
    refine x_start (σ' := [some (.ref a)]) rfl ?_
    dsimp only [cxOf]
    repeat walk_at "rd"
    intro t nt
    rw [cut63, ← List.map_take]
    repeat walk_at "rd"
    intro c nc
    repeat walk_at "rd"
    rename_i p np
    have ntc : t ≠ c := ne_of_none upd_same nc
    have ncp : c ≠ p := ne_of_none upd_same np
    have nc0 : H c = none := by rwa [upd_ne ntc.symm] at nc
    have np0 : H p = none := by
      have e1 := np
      rw [upd_ne ncp.symm] at e1
      exact ((Kx.refl [] H).new nt).fresh (by simp) e1
    refine k p c _ np0 nc0 ((((Kx.refl [] H).new nt).new nc).new np) ⟨ns.take 63, 0, 0, upd_same, ?_, ?_, by omega, by omega, by omega⟩
    · rw [upd_ne ncp, upd_same]
    · rw [List.length_take]
      exact Nat.min_le_left _ _
theorem x_draw {H : Hp} {p c : Addr} {n : Nat} {m : Int} {Q : VK} {E : XK} (h : PenAt H p c n) (hn : n < 1000000) (h0 : 0 < m) (h1 : m < 100000000)
    (q : ∀ d H', 0 ≤ d → d < m → Kx [p] H H' → PenAt H' p c (n + 1) → Q (.int d) H') : spDraw ([V.ref p, V.int m] ++ []) H Q E := ⟨p, c, n, m, rfl, h, hn, h0, h1, q⟩
def spShuf (K : PySem.W.Frag) : Sp := fun vs H Q _ => ∃ (p c a : Addr) (n : Nat) (xs : List V), vs = [.ref p, .ref a] ∧ PenAt H p c n ∧ SqL K H a xs ∧ a ≠ p ∧ xs.length ≤ 1000 ∧ n ≤ 900000 ∧
  ∀ l ys H', H l = none → ys.Perm xs → Kx [p] H H' → H' l = some (.lst ys) → PenAt H' p c (n + xs.length) → Q (.ref l) H'
theorem ins_perm {ys : List V} {v : V} {i : Nat} : (ys.take i ++ [v] ++ ys.drop i).Perm (ys ++ [v]) := by
  have e : (ys.take i ++ [v] ++ ys.drop i) = ys.take i ++ ([v] ++ ys.drop i) := by rw [List.append_assoc]
  rw [e]
  refine (List.Perm.append_left _ List.perm_append_comm).trans ?_
  rw [← List.append_assoc, List.take_append_drop]
theorem PenAt.up {H H' : Hp} {p c : Addr} {n m : Nat} (h : PenAt H p c n) (e1 : H' p = H p) (e2 : H' c = H c) (l : n ≤ m) : PenAt H' p c m := by
  obtain ⟨cs, pl, r, h1, h2, h3, h4, h5, h6⟩ := h
  exact ⟨cs, pl, r, e1.trans h1, e2.trans h2, h3, h4, by omega, h6⟩
theorem PenAt.keep {H H' : Hp} {S : List Addr} {p c : Addr} {n m : Nat} (h : PenAt H p c n) (k : Kx S H H') (hp : p ∉ S) (hc : c ∉ S) (l : n ≤ m) : PenAt H' p c m := by
  obtain ⟨cs, pl, r, h1, h2, h3, h4, h5, h6⟩ := h
  exact ⟨cs, pl, r, k _ _ hp h1, k _ _ hc h2, h3, h4, by omega, h6⟩
theorem PenAt.some {H : Hp} {p c : Addr} {n : Nat} (h : PenAt H p c n) : (∃ o, H p = some o) ∧ ∃ o, H c = some o := by
  obtain ⟨cs, pl, r, h1, h2, _⟩ := h
  exact ⟨⟨_, h1⟩, _, h2⟩
theorem ok_shuf {f : Addr} {fd : FuncData} (F : Fun K "_law_shuffled" "_law_shuffled" sQShuffled f fd) (T : Txt mg) (l_law_draw : Lo P w K mg base "_law_draw" 1 ["_law_pen_here", "_law_most_one"] spDraw) :
    FnOk P w K mg base CX0 2 f fd ["_law_pen_here", "_law_row"] (spShuf K) := by
  refine F.ok scQShuffled (fun vs H Q E h => ?_) (fun cdv A outer s H vs Q E hr h => ?_)
  · obtain ⟨p, c, a, n, xs, rfl, _⟩ := h
    rfl
  · obtain ⟨p, c, a, n, xs, rfl, hpen, ha, nap, hlen, hn, k⟩ := h
    refine ⟨_, (pss_cons (ps_set (i := 2) scQShuffled.nd rfl (Or.inl rfl) (pe_lst pa_nil))
      (pss_cons (ps_for PassesOwn.never rfl (pi_list (pv 1)) (pg_name (i := 3) scQShuffled.nd rfl (Or.inl rfl))
      (pss_one (ps_expr (pe_bm PySem.F.plainAttrs_list PySem.F.slot_list_insert PySem.F.type_list_insert mt_insert (pv 2) (pa_cons (pe_lo l_law_draw (hr.mono (by decide)) (by rfl) (pa_cons (pv 0) (pa_cons (pe_op op_add (pe_callB call_len_seq (by rfl) T.b_len boot'_len (pa_cons (pv 2) pa_nil)) pe_int) pa_nil))) (pa_cons (pv 3) pa_nil))))))
      (pss_one (ps_ret (pv 2))))), ?_⟩
    refine x_start (σ' := [some (.ref p), some (.ref a), none, none]) rfl ?_
    dsimp only [cxOf]
    repeat walk_at "rd"
    rename_i l nl
    obtain ⟨⟨op, hp⟩, oc, hc⟩ := hpen.some
    have nlp : l ≠ p := (ne_of_none hp nl).symm
    have nlc : l ≠ c := (ne_of_none hc nl).symm
    have k0 : Kx [p] H (upd H l (.lst [])) := (Kx.refl _ _).new nl
    refine y_forL (xs := xs) (k0.sqL (by simpa using nap) ha) ⟨fun i σ H1 => ∃ ys y3, σ = [some (.ref p), some (.ref a), some (.ref l), y3] ∧ ys.Perm (xs.take i) ∧ Kx [p] H H1 ∧ H1 l = some (.lst ys) ∧ PenAt H1 p c (n + i),
      ⟨[], none, rfl, by simp, k0, upd_same, hpen.keep ((Kx.refl [] H).new nl) (by simp) (by simp) (by omega)⟩, ?_, ?_, ?_⟩
    · rintro i σ H1 hi ⟨ys, y3, rfl, hys, k1, hl, hp1⟩
      exact k1.sqL (by simpa using nap) ha
    · rintro i x σ H1 H1' hi ⟨ys, y3, rfl, hys, k1, hl, hp1⟩ ⟨rfl, hx⟩
      have hyl : ys.length = i := by
        rw [hys.length_eq, List.length_take]
        omega
      repeat walk_at "rd"
      refine ⟨ty_list (SqL.of hl), ?_⟩
      repeat walk_at "rd"
      refine x_draw hp1 (by omega) (by omega) (by omega) fun d H2 d0 d1 k2 hp2 => ?_
      have hl2 : H2 l = some (.lst ys) := k2 l _ (by simpa using nlp) hl
      repeat walk_at "rd"
      refine ⟨_, _, rfl, ins_perm.trans ?_, (k1.trans k2).wr (.inl nl), upd_same, ?_⟩
      · rw [List.take_add_one, hx]
        exact hys.append_right _
      · exact hp2.up (upd_ne nlp.symm) (upd_ne nlc.symm) (by omega)
    · rintro σ H1 ⟨ys, y3, rfl, hys, k1, hl, hp1⟩
      repeat walk_at "rd"
      exact k l ys H1 nl (by simpa using hys) k1 hl hp1
end

section
variable {P : Program} {w : World} {K : PySem.W.Frag} {mg : Str → Option Value} {base : Heap}
/-- the rows that stand at rs, the list of them at R; all of it new since H0 -/
structure RowsI (H0 H : Hp) (R : Addr) (rs : List Addr) (rows : List (List V)) (live : List Int) (B : Nat) : Prop where
  hR : H R = some (.lst (rs.map V.ref))
  len : rows.length = rs.length
  nd : rs.Nodup
  fr : ∀ r ∈ rs, H0 r = none
  frR : H0 R = none
  nR : R ∉ rs
  at_ : ∀ (i : Nat) (r : Addr) (row : List V), rs[i]? = some r → rows[i]? = some row → H r = some (.lst row)
  good : ∀ row ∈ rows, row.length ≤ B ∧ ∀ v ∈ row, v = .non ∨ ∃ z ∈ live, v = V.int z
theorem RowsI.mono {H0 H : Hp} {R : Addr} {rs : List Addr} {rows : List (List V)} {live : List Int} {B B' : Nat} (h : RowsI H0 H R rs rows live B) (l : B ≤ B') : RowsI H0 H R rs rows live B' :=
  ⟨h.hR, h.len, h.nd, h.fr, h.frR, h.nR, h.at_, fun row hr => ⟨Nat.le_trans (h.good row hr).1 l, (h.good row hr).2⟩⟩
theorem RowsI.keep {H0 H H' : Hp} {S : List Addr} {R : Addr} {rs : List Addr} {rows : List (List V)} {live : List Int} {B : Nat} (h : RowsI H0 H R rs rows live B) (k : Kx S H H') (hS : ∀ b ∈ S, ∃ o, H0 b = some o) : RowsI H0 H' R rs rows live B := by
  have hn : ∀ b, H0 b = none → b ∉ S := fun b hb z => by
    obtain ⟨o, ho⟩ := hS b z
    rw [hb] at ho
    cases ho
  exact ⟨k _ _ (hn _ h.frR) h.hR, h.len, h.nd, h.fr, h.frR, h.nR, fun i r row h1 h2 => k _ _ (hn _ (h.fr r (List.mem_of_getElem? h1))) (h.at_ i r row h1 h2), h.good⟩
theorem RowsI.wr {H0 H : Hp} {R r : Addr} {rs : List Addr} {rows : List (List V)} {live : List Int} {B : Nat} {i : Nat} {row' : List V} (h : RowsI H0 H R rs rows live B) (hr : rs[i]? = some r) (hl : row'.length ≤ B)
    (hv : ∀ v ∈ row', v = .non ∨ ∃ z ∈ live, v = V.int z) : RowsI H0 (upd H r (.lst row')) R rs (rows.set i row') live B := by
  have hm : r ∈ rs := List.mem_of_getElem? hr
  refine ⟨?_, by rw [List.length_set]; exact h.len, h.nd, h.fr, h.frR, h.nR, ?_, ?_⟩
  · rw [upd_ne (fun e => h.nR (by rw [e]; exact hm))]
    exact h.hR
  · intro j q row hj hrow
    by_cases e : j = i
    · subst e
      rw [hr] at hj
      have e2 : r = q := Option.some.inj hj
      subst e2
      have hi : j < rows.length := by
        rw [h.len]
        exact (List.getElem?_eq_some_iff.mp hr).1
      rw [List.getElem?_set_self hi] at hrow
      rw [← Option.some.inj hrow]
      exact upd_same
    · have nq : q ≠ r := by
        rintro rfl
        exact e ((List.getElem?_inj (List.getElem?_eq_some_iff.mp hj).1 h.nd).mp (hj.trans hr.symm))
      rw [List.getElem?_set_ne (Ne.symm e)] at hrow
      rw [upd_ne nq]
      exact h.at_ j q row hj hrow
  · intro row hrow
    rcases List.mem_or_eq_of_mem_set hrow with z | rfl
    · exact h.good row z
    · exact ⟨hl, hv⟩
theorem RowsI.get {H0 H : Hp} {R : Addr} {rs : List Addr} {rows : List (List V)} {live : List Int} {B : Nat} {z : Int} (h : RowsI H0 H R rs rows live B) (h0 : 0 ≤ z) (h1 : z < rs.length) :
    ∃ (i : Nat) (r : Addr) (row : List V), z = i ∧ rs[i]? = some r ∧ rows[i]? = some row ∧ H r = some (.lst row) ∧ atI (rs.map V.ref) z = some (.ref r) ∧ H0 r = none := by
  obtain ⟨i, rfl⟩ : ∃ i : Nat, z = i := ⟨z.toNat, by omega⟩
  have hi : i < rs.length := by omega
  have hi2 : i < rows.length := by rw [h.len]; exact hi
  have e1 := List.getElem?_eq_getElem hi
  have e2 := List.getElem?_eq_getElem hi2
  refine ⟨i, rs[i], rows[i], rfl, e1, e2, h.at_ i _ _ e1 e2, atI_nat ?_, h.fr _ (List.getElem_mem hi)⟩
  rw [List.getElem?_map, e1]
  rfl
theorem at_ints {zs : List Int} {w : Int} (h0 : 0 ≤ w) (h1 : w < zs.length) : ∃ z ∈ zs, zs[w.toNat]? = some z ∧ atI (zs.map V.int) w = some (.int z) := by
  obtain ⟨i, rfl⟩ : ∃ i : Nat, w = i := ⟨w.toNat, by omega⟩
  have hi : i < zs.length := by omega
  have e1 := List.getElem?_eq_getElem hi
  refine ⟨zs[i], List.getElem_mem hi, by simpa using e1, atI_nat ?_⟩
  rw [List.getElem?_map, e1]
  rfl
def spLinked (K : PySem.W.Frag) : Sp := fun vs H Q _ => ∃ (p c a : Addr) (n : Nat) (ls : List Int) (al : Nat), vs = [.ref p, .ref a, .int al] ∧ PenAt H p c n ∧ SqL K H a (ls.map V.int) ∧ a ≠ p ∧ ls.length ≤ 40 ∧ (∀ z ∈ ls, 0 ≤ z ∧ z < ls.length) ∧ 1 ≤ al ∧ al ≤ ls.length ∧ n ≤ 900000 ∧
  ∀ R rs rows H', RowsI H H' R rs rows (ls.take al) 40 → rs.length = ls.length → Kx [p] H H' → PenAt H' p c (n + 400) → Q (.ref R) H'
theorem ok_linked {f : Addr} {fd : FuncData} (F : Fun K "_law_linked" "_law_linked" sQLinked f fd) (T : Txt mg) (l_law_draw : Lo P w K mg base "_law_draw" 1 ["_law_pen_here", "_law_most_one"] spDraw) :
    FnOk P w K mg base CX0 2 f fd ["_law_pen_here", "_law_labels", "_law_alive"] (spLinked K) := by
  refine F.ok scQLinked (fun vs H Q E h => ?_) (fun cdv A outer s H vs Q E hr h => ?_)
  · obtain ⟨p, c, a, n, ls, al, rfl, _⟩ := h
    rfl
  · obtain ⟨p, c, a, n, ls, al, rfl, hpen, ha, nap, hN, hls, hal, hal2, hn, k⟩ := h
    refine ⟨_, (pss_cons (ps_setLc (i := 3) (own := [("_law_label", 14)]) rfl scQLinked.nd rfl rfl (sw_true rfl rfl rfl (by decide +kernel)) (pi_list (pv 1)) (blkOk_by (N := ["_law_pen_here", "_law_labels", "_law_alive", "_law_rows", "_law_way", "_law_place", "_law_near", "_law_back", "_law_row", "_law_forward", "_law_turn", "_law_one", "_law_other", "_law_entry", "_law_label"]) (sc := defScope sQLinked) (by decide +kernel)) (fun _ _ _ _ _ => (pg_name (i := 14) scQLinked.nd rfl (Or.inl rfl))) (fun _ _ _ _ _ => pts_nil) (fun _ _ _ _ _ => (pe_lst pa_nil)))
      (pss_cons (ps_set (i := 4) scQLinked.nd rfl (Or.inl rfl) (pe_lo l_law_draw (hr.mono (by decide)) (by rfl) (pa_cons (pv 0) (pa_cons pe_int pa_nil))))
      (pss_cons (ps_for PassesOwn.never rfl (pi_range2 (by rfl) T.b_range (pa_cons pe_int (pa_cons (pv 2) pa_nil))) (pg_name (i := 5) scQLinked.nd rfl (Or.inl rfl))
      (pss_cons (ps_set (i := 6) scQLinked.nd rfl (Or.inl rfl) (pe_op op_add pe_int (pe_lo l_law_draw (hr.mono (by decide)) (by rfl) (pa_cons (pv 0) (pa_cons (pe_callB (call_min2 rfl) (by rfl) T.b_min boot'_min (pa_cons (pv 5) (pa_cons pe_int pa_nil))) pa_nil)))))
      (pss_cons (ps_set (i := 7) scQLinked.nd rfl (Or.inl rfl) (pe_ix ix_list (pe_lst (pa_cons pe_int (pa_cons (pv 5) (pa_cons (pv 6) (pa_cons (pe_op op_add pe_int (pe_lo l_law_draw (hr.mono (by decide)) (by rfl) (pa_cons (pv 0) (pa_cons (pv 5) pa_nil)))) (pa_cons (pv 6) pa_nil)))))) (pv 4) (fun _ _ => rfl)))
      (pss_cons (ps_set (i := 8) scQLinked.nd rfl (Or.inl rfl) (pe_ix ix_list (pv 3) (pe_ix ix_list (pv 1) (pe_op op_sub (pv 5) (pv 7)) (fun _ _ => rfl)) (fun _ _ => rfl)))
      (pss_one (ps_expr (pe_bm PySem.F.plainAttrs_list PySem.F.slot_list_insert PySem.F.type_list_insert mt_insert (pv 8) (pa_cons (pe_lo l_law_draw (hr.mono (by decide)) (by rfl) (pa_cons (pv 0) (pa_cons (pe_op op_add (pe_callB call_len_seq (by rfl) T.b_len boot'_len (pa_cons (pv 8) pa_nil)) pe_int) pa_nil))) (pa_cons (pe_ix ix_list (pv 1) (pv 5) (fun _ _ => rfl)) pa_nil)))))))))
      (pss_cons (ps_set (i := 9) scQLinked.nd rfl (Or.inl rfl) (pe_lo l_law_draw (hr.mono (by decide)) (by rfl) (pa_cons (pv 0) (pa_cons pe_int pa_nil))))
      (pss_cons (ps_for PassesOwn.never rfl (pi_range1 (by rfl) T.b_range (pa_cons (pe_ix ix_list (pe_lst (pa_cons pe_int (pa_cons (pe_lo l_law_draw (hr.mono (by decide)) (by rfl) (pa_cons (pv 0) (pa_cons pe_int pa_nil))) (pa_cons (pe_op op_fdiv (pv 2) pe_int) (pa_cons (pv 2) pa_nil))))) (pe_lo l_law_draw (hr.mono (by decide)) (by rfl) (pa_cons (pv 0) (pa_cons pe_int pa_nil))) (fun _ _ => rfl)) pa_nil)) (pg_name (i := 10) scQLinked.nd rfl (Or.inl rfl))
      (pss_cons (ps_par (i := 11) (j := 12) rfl scQLinked.nd rfl rfl (by decide) rfl rfl (pa_cons (pe_lo l_law_draw (hr.mono (by decide)) (by rfl) (pa_cons (pv 0) (pa_cons (pv 2) pa_nil))) (pa_cons (pe_lo l_law_draw (hr.mono (by decide)) (by rfl) (pa_cons (pv 0) (pa_cons (pv 2) pa_nil))) pa_nil)) (by rfl))
      (pss_cons (ps_if (pt_cmpR op_eq (pv 9) pe_int (nomark _)) (pss_one (ps_par (i := 11) (j := 12) rfl scQLinked.nd rfl rfl (by decide) rfl rfl (pa_cons (pe_callB (call_min2 rfl) (by rfl) T.b_min boot'_min (pa_cons (pv 11) (pa_cons (pv 12) pa_nil))) (pa_cons (pe_callB (call_max2 rfl) (by rfl) T.b_max boot'_max (pa_cons (pv 11) (pa_cons (pv 12) pa_nil))) pa_nil)) (by rfl))) pss_nil)
      (pss_cons (ps_set (i := 13) scQLinked.nd rfl (Or.inl rfl) (pe_ix ix_list (pe_lst (pa_cons (pe_ix ix_list (pv 1) (pv 12) (fun _ _ => rfl)) (pa_cons pe_non pa_nil))) (pe_callTy call_int1 (by rfl) T.b_int boot'_int (pa_cons (pe_or (pe_cmpR op_eq (pe_lo l_law_draw (hr.mono (by decide)) (by rfl) (pa_cons (pv 0) (pa_cons pe_int pa_nil))) pe_int (nomark _)) (pe_one (pe_and (pe_cmpR op_eq (pv 9) pe_int (nomark _)) (pe_one (pe_cmpR op_eq (pv 11) (pv 12) (nomark _)))))) pa_nil)) (fun _ _ => rfl)))
      (pss_cons (ps_set (i := 8) scQLinked.nd rfl (Or.inl rfl) (pe_ix ix_list (pv 3) (pe_ix ix_list (pv 1) (pv 11) (fun _ _ => rfl)) (fun _ _ => rfl)))
      (pss_one (ps_if (pt_cmpR op_lt (pe_callB call_len_seq (by rfl) T.b_len boot'_len (pa_cons (pv 8) pa_nil)) pe_int (nomark _)) (pss_one (ps_expr (pe_bm PySem.F.plainAttrs_list PySem.F.slot_list_insert PySem.F.type_list_insert mt_insert (pv 8) (pa_cons (pe_lo l_law_draw (hr.mono (by decide)) (by rfl) (pa_cons (pv 0) (pa_cons (pe_op op_add (pe_callB call_len_seq (by rfl) T.b_len boot'_len (pa_cons (pv 8) pa_nil)) pe_int) pa_nil))) (pa_cons (pv 13) pa_nil))))) pss_nil)))))))
      (pss_one (ps_ret (pv 3)))))))), ?_⟩
    refine x_start (σ' := [some (.ref p), some (.ref a), some (.int al), none, none, none, none, none, none, none, none, none, none, none, none]) rfl ?_
    dsimp only [cxOf]
    obtain ⟨⟨op, hp⟩, oc, hc⟩ := hpen.some
    repeat walk_at "rd"
    refine y_lcL (xs := ls.map V.int) ha (fun R nR => ⟨fun i H1 => ∃ rs : List Addr, rs.length = i ∧ H1 R = some (.lst (rs.map V.ref)) ∧ rs.Nodup ∧ R ∉ rs ∧ (∀ r ∈ rs, H r = none ∧ H1 r = some (.lst [])) ∧ Kx [] H H1,
      ⟨[], rfl, upd_same, List.nodup_nil, by simp, by simp, (Kx.refl _ _).new nR⟩, ?_, ?_, ?_⟩)
    · rintro i H1 hi ⟨rs, _, _, _, _, _, k1⟩
      exact k1.sqL (by simp) ha
    · rintro i x H1 H1' hi ⟨rs, e1, e2, e3, e4, e5, k1⟩ ⟨rfl, hx⟩
      rw [List.length_map] at hi
      repeat walk_at "rd"
      refine ⟨rfl, ?_⟩
      repeat walk_at "rd"
      rename_i q nq
      have nqR : q ≠ R := (ne_of_none e2 nq).symm
      refine ⟨rs.map V.ref, lk_ne e2 nq, small1000 (by rw [List.length_map]; omega), rs ++ [q], by rw [List.length_append, e1]; rfl, ?_, ?_, ?_, ?_, ?_⟩
      · rw [upd_same, List.map_append]
        rfl
      · rw [List.nodup_append]
        refine ⟨e3, by simp, ?_⟩
        intro b hb b2 hb2
        rw [List.mem_singleton.mp hb2]
        exact ne_of_none (e5 b hb).2 nq
      · simp only [List.mem_append, List.mem_singleton, not_or]
        exact ⟨e4, nqR.symm⟩
      · intro r hr
        rcases List.mem_append.mp hr with z | z
        · have nrR : r ≠ R := fun e => e4 (e ▸ z)
          exact ⟨(e5 r z).1, by rw [upd_ne nrR]; exact lk_ne (e5 r z).2 nq⟩
        · rw [List.mem_singleton.mp z]
          exact ⟨k1.fresh (by simp) nq, by rw [upd_ne nqR]; exact upd_same⟩
      · exact (k1.new nq).wr (.inl nR)
    rintro H1 ⟨rs, e1, e2, e3, e4, e5, k1⟩
    rw [List.length_map] at e1
    have I1 : RowsI H H1 R rs (rs.map fun _ => []) (ls.take al) 0 := by
      refine ⟨e2, by rw [List.length_map], e3, fun r hr => (e5 r hr).1, nR, e4, ?_, ?_⟩
      · intro i r row h1 h2
        rw [List.getElem?_map, h1] at h2
        rw [← Option.some.inj h2]
        exact (e5 r (List.mem_of_getElem? h1)).2
      · intro row hrow
        obtain ⟨_, _, rfl⟩ := List.mem_map.mp hrow
        exact ⟨Nat.le_refl _, by simp⟩
    have P1 : PenAt H1 p c n := hpen.keep k1 (by simp) (by simp) (Nat.le_refl _)
    have K1 : Kx [p] H H1 := k1.mono (by simp)
    clear e2 e3 e4 e5 k1
    repeat walk_at "rd"
    refine x_draw P1 (by omega) (by omega) (by omega) fun way H2 w0 w1 k2 P2 => ?_
    replace K1 := K1.trans k2
    replace I1 := I1.keep k2 (by simpa using ⟨_, hp⟩)
    clear k2 P1
    repeat walk_at "rd"
    have hnp : ∀ b, H b = none → b ≠ p := fun b hb e => by
      rw [e, hp] at hb
      cases hb
    have hlab : ∀ {w : Int}, 0 ≤ w → w < al → ∃ z, z ∈ ls.take al ∧ 0 ≤ z ∧ z < rs.length ∧ atI (ls.map V.int) w = some (.int z) := by
      intro w hw0 hw1
      obtain ⟨z, hz, hz1, hz2⟩ := at_ints (zs := ls) hw0 (by omega)
      refine ⟨z, ?_, (hls z hz).1, by rw [e1]; exact (hls z hz).2, hz2⟩
      exact List.mem_of_getElem? (i := w.toNat) (by rw [List.getElem?_take_of_lt (by omega)]; exact hz1)
    have hlist : ∀ {H1 : Hp}, Kx [p] H H1 → SqL K H1 a (ls.map V.int) := fun k1 => k1.sqL (by simpa using nap) ha
    refine y_forR2 (by omega) (by omega) (by omega) (by omega) ⟨fun i σ H3 => ∃ rows y5 y6 y7 y8, σ = [some (.ref p), some (.ref a), some (.int al), some (.ref R), some (.int way), y5, y6, y7, y8, none, none, none, none, none, none] ∧
      RowsI H H3 R rs rows (ls.take al) i ∧ Kx [p] H H3 ∧ PenAt H3 p c (n + 1 + 3 * i), ⟨_, none, none, none, none, rfl, I1, K1, P2⟩, fun _ _ _ _ _ => trivial, ?_, ?_⟩
    · rintro i x σ H3 H3' hi ⟨rows, y5, y6, y7, y8, rfl, I3, K3, P3⟩ ⟨rfl, rfl⟩
      have hi2 : 1 + (i : Int) < al := by omega
      repeat walk_at "rd"
      refine x_draw P3 (by omega) (by split <;> omega) (by split <;> omega) fun d1 H4 a0 a1 k4 P4 => ?_
      replace K3 := K3.trans k4
      replace I3 := I3.keep k4 (by simpa using ⟨_, hp⟩)
      clear k4 P3
      repeat walk_at "rd"
      refine x_draw P4 (by omega) (by omega) (by omega) fun d2 H5 b0 b1 k5 P5 => ?_
      replace K3 := K3.trans k5
      replace I3 := I3.keep k5 (by simpa using ⟨_, hp⟩)
      clear k5 P4
      have ha1 : d1 < 1 + (i : Int) ∧ d1 < 3 := by split at a1 <;> omega
      obtain ⟨back, hat, hb0, hb1⟩ : ∃ back, atI [V.int 1, V.int (1 + (i : Int)), V.int (1 + d1), V.int (1 + d2), V.int (1 + d1)] way = some (.int back) ∧ 1 ≤ back ∧ back ≤ 1 + (i : Int) := by
        obtain ⟨z, hz, _, hz2⟩ := at_ints (zs := [1, 1 + (i : Int), 1 + d1, 1 + d2, 1 + d1]) w0 (by simpa using w1)
        refine ⟨z, hz2, ?_⟩
        simp only [List.mem_cons, List.not_mem_nil, or_false] at hz
        omega
      obtain ⟨z, hz, hz0, hz1, hatz⟩ := hlab (w := 1 + (i : Int) - back) (by omega) (by omega)
      obtain ⟨z', hz', _, _, hatz'⟩ := hlab (w := 1 + (i : Int)) (by omega) (by omega)
      obtain ⟨j, r, row, rfl, hrs, hrow, hr, hatr, hr0⟩ := I3.get hz0 hz1
      have hR := I3.hR
      have nrp := hnp r hr0
      repeat walk_at "rd"
      rename_i q nq
      refine ⟨ty_list (SqL.of (by walk_at "lk")), ?_⟩
      repeat walk_at "rd"
      have hrow' := I3.good row (List.mem_of_getElem? hrow)
      refine x_draw (P5.keep ((Kx.refl [] H5).new nq) (by simp) (by simp) (Nat.le_refl _)) (by omega) (by omega) (by omega) fun d3 H6 c0 c1 k6 P6 => ?_
      have hr6 : H6 r = some (.lst row) := k6 r _ (by simpa using nrp) (lk_ne hr nq)
      replace K3 := (K3.new nq).trans k6
      replace I3 := (I3.keep ((Kx.refl [] H5).new nq) (by simp)).keep k6 (by simpa using ⟨_, hp⟩)
      clear k6 P5
      repeat walk_at "rd"
      refine ⟨_, _, _, _, _, rfl, (I3.mono (Nat.le_succ i)).wr hrs (row' := row.take d3.toNat ++ [V.int z'] ++ row.drop d3.toNat) ?_ ?_, K3.wr (.inl hr0), ?_⟩
      · rw [ins_perm.length_eq, List.length_append, List.length_singleton]
        omega
      · intro v hv
        rcases List.mem_append.mp (ins_perm.mem_iff.mp hv) with hv | hv
        · exact hrow'.2 v hv
        · exact .inr ⟨z', hz', List.mem_singleton.mp hv⟩
      · exact P6.up (upd_ne nrp.symm) (upd_ne (fun e => by rw [← e, hc] at hr0; cases hr0)) (by omega)
    · rintro σ H3 ⟨rows, y5, y6, y7, y8, rfl, I3, K3, P3⟩
      repeat walk_at "rd"
      refine x_draw P3 (by omega) (by omega) (by omega) fun fwd H4 f0 f1 k4 P4 => ?_
      replace K3 := K3.trans k4
      replace I3 := (I3.keep k4 (by simpa using ⟨_, hp⟩)).mono (show (al - 1 : Int).toNat ≤ 40 by omega)
      clear k4 P3
      repeat walk_at "rd"
      refine x_draw P4 (by omega) (by omega) (by omega) fun u1 H5 g0 g1 k5 P5 => ?_
      replace K3 := K3.trans k5
      replace I3 := I3.keep k5 (by simpa using ⟨_, hp⟩)
      clear k5 P4
      repeat walk_at "rd"
      rename_i q nq
      have nqp : q ≠ p := hnp q (K3.fresh (fun z => by rw [List.mem_singleton.mp z] at nq; obtain ⟨⟨o, ho⟩, _⟩ := P5.some; rw [ho] at nq; cases nq) nq)
      refine x_draw (P5.keep ((Kx.refl [] H5).new nq) (by simp) (by simp) (Nat.le_refl _)) (by omega) (by omega) (by omega) fun u2 H6 g2 g3 k6 P6 => ?_
      have hq6 : H6 q = some (.lst [V.int 0, V.int u1, V.int ((al : Int) / 2), V.int al]) := k6 q _ (by simpa using nqp) upd_same
      replace K3 := (K3.new nq).trans k6
      replace I3 := (I3.keep ((Kx.refl [] H5).new nq) (by simp)).keep k6 (by simpa using ⟨_, hp⟩)
      clear k6 P5
      obtain ⟨cnt, hat, hc0, hc1⟩ : ∃ cnt, atI [V.int 0, V.int u1, V.int ((al : Int) / 2), V.int al] u2 = some (.int cnt) ∧ 0 ≤ cnt ∧ cnt ≤ 40 := by
        obtain ⟨z, hz, _, hz2⟩ := at_ints (zs := [0, u1, (al : Int) / 2, (al : Int)]) g2 (by simpa using g3)
        refine ⟨z, hz2, ?_⟩
        simp only [List.mem_cons, List.not_mem_nil, or_false] at hz
        omega
      repeat walk_at "rd"
      refine y_forR1 hc0 (by omega) ⟨fun i σ H7 => ∃ rows y5 y6 y7 y8 y10 y11 y12 y13, σ = [some (.ref p), some (.ref a), some (.int al), some (.ref R), some (.int way), y5, y6, y7, y8, some (.int fwd), y10, y11, y12, y13, none] ∧
        RowsI H H7 R rs rows (ls.take al) 40 ∧ Kx [p] H H7 ∧ PenAt H7 p c (n + 130 + 4 * i), ⟨_, _, _, _, _, none, none, none, none, rfl, I3, K3, P6.keep (Kx.refl [] H6) (by simp) (by simp) (by omega)⟩, fun _ _ _ _ _ => trivial, ?_, ?_⟩
      · rintro i x σ H7 H7' hi ⟨rows, y5, y6, y7, y8, y10, y11, y12, y13, rfl, I3, K3, P3⟩ ⟨rfl, rfl⟩
        have hi2 : i < 40 := by omega
        repeat walk_at "rd"
        refine x_draw P3 (by omega) (by omega) (by omega) fun d1 H4 a0 a1 k4 P4 => ?_
        replace K3 := K3.trans k4
        replace I3 := I3.keep k4 (by simpa using ⟨_, hp⟩)
        clear k4 P3
        repeat walk_at "rd"
        refine x_draw P4 (by omega) (by omega) (by omega) fun d2 H5 b0 b1 k5 P5 => ?_
        replace K3 := K3.trans k5
        replace I3 := I3.keep k5 (by simpa using ⟨_, hp⟩)
        clear k5 P4
        repeat walk_at "rd"
        refine ite2 (fun hf => ?A) (fun hf => ?B)
        case' A =>
          repeat walk_at "rd"
          generalize hone : (if d2 < d1 then d2 else d1) = one
          generalize hoth : (if d2 > d1 then d2 else d1) = oth
          have o0 : 0 ≤ one ∧ one < al := by split at hone <;> omega
          have p0 : 0 ≤ oth ∧ oth < al := by split at hoth <;> omega
        case' B =>
          repeat walk_at "rd"
          have o0 : 0 ≤ d1 ∧ d1 < al := ⟨a0, a1⟩
          have p0 : 0 ≤ d2 ∧ d2 < al := ⟨b0, b1⟩
          generalize d1 = one at o0 ⊢
          generalize d2 = oth at p0 ⊢
        all_goals
          obtain ⟨z, hz, hz0, hz1, hatz⟩ := hlab p0.1 p0.2
          obtain ⟨z', hz', hz0', hz1', hatz'⟩ := hlab o0.1 o0.2
          repeat walk_at "rd"
          rename_i q nq
          have nqp : q ≠ p := hnp q (K3.fresh (fun z => by rw [List.mem_singleton.mp z] at nq; obtain ⟨⟨o, ho⟩, _⟩ := P5.some; rw [ho] at nq; cases nq) nq)
          refine x_draw (P5.keep ((Kx.refl [] H5).new nq) (by simp) (by simp) (Nat.le_refl _)) (by omega) (by omega) (by omega) fun d3 H6 c0 c1 k6 P6 => ?_
          have hq6 : H6 q = some (.lst [V.int z, V.non]) := k6 q _ (by simpa using nqp) upd_same
          replace K3 := (K3.new nq).trans k6
          replace I3 := (I3.keep ((Kx.refl [] H5).new nq) (by simp)).keep k6 (by simpa using ⟨_, hp⟩)
          clear k6 P5
          have hR := I3.hR
          obtain ⟨j, r, row, rfl, hrs, hrow, hr, hatr, hr0⟩ := I3.get hz0' hz1'
          have nrp := hnp r hr0
          have hrow' := I3.good row (List.mem_of_getElem? hrow)
          have gN : V.non = .non ∨ ∃ z ∈ ls.take al, V.non = V.int z := .inl rfl
          have gZ : V.int z = .non ∨ ∃ z' ∈ ls.take al, V.int z = V.int z' := .inr ⟨z, hz, rfl⟩
          repeat walk_at "rd"
          refine ite2 (fun e3 => ?_) (fun e3 => ?_)
          all_goals repeat walk_at "rd"
          all_goals refine ite2 (fun e3 => ?_) (fun e3 => ?_)
          all_goals repeat walk_at "rd"
          any_goals
            generalize decide (V.int one = V.int oth) = bb
            cases bb
          all_goals repeat walk_at "rd"
          any_goals refine ite2 (fun e3 => ?_) (fun e3 => ?_)
          all_goals repeat walk_at "rd"
          any_goals exact ⟨rows, _, _, _, _, _, _, _, _, rfl, I3, K3, P6.keep (Kx.refl [] H6) (by simp) (by simp) (by omega)⟩
          all_goals
            refine ⟨ty_list (SqL.of hr), ?_⟩
            have hlen : (row.length : Int) < 40 := of_decide_eq_true e3
            repeat walk_at "rd"
            refine x_draw P6 (by omega) (by omega) (by omega) fun d4 H8 s0 s1 k8 P8 => ?_
            replace K3 := K3.trans k8
            replace I3 := I3.keep k8 (by simpa using ⟨_, hp⟩)
            have hr8 : H8 r = some (.lst row) := k8 r _ (by simpa using nrp) hr
            clear k8 P6
            repeat walk_at "rd"
            refine ⟨_, _, _, _, _, _, _, _, _, rfl, I3.wr hrs ?_ ?_, K3.wr (.inl hr0), P8.up (upd_ne nrp.symm) (upd_ne (fun e => by rw [← e, hc] at hr0; cases hr0)) (by omega)⟩
            · rw [ins_perm.length_eq, List.length_append, List.length_singleton]
              omega
            · intro v hv
              rcases List.mem_append.mp (ins_perm.mem_iff.mp hv) with hv | hv
              · exact hrow'.2 v hv
              · rw [List.mem_singleton.mp hv]
                first
                  | exact gN
                  | exact gZ
      · rintro σ H7 ⟨rows, y5, y6, y7, y8, y10, y11, y12, y13, rfl, I3, K3, P3⟩
        repeat walk_at "rd"
        exact k R rs rows H7 I3 e1 K3 (P3.keep (Kx.refl [] H7) (by simp) (by simp) (by omega))
end

section
variable {P : Program} {w : World} {K : PySem.W.Frag} {mg : Str → Option Value} {base : Heap}
/-- a row of slots as data, and as values -/
abbrev Rw := List (Option Nat)
def slotV : Option Nat → V
  | none => .non
  | some k => .int k
def rowV (l : Rw) : List V := l.map slotV
/-- a heap at D: its rows (none: free) and its outside references -/
structure HeapAt (K : PySem.W.Frag) (H : Hp) (D : Addr) (slots : List (Option Rw)) (outs : List Int) : Prop where
  ex : ∃ (S O : Addr) (vs : List V), SqT K H D [.ref S, .ref O] ∧ SqT K H S vs ∧ SqT K H O (outs.map V.int) ∧ vs.length = slots.length ∧
    ∀ (i : Nat) (o : Option Rw), slots[i]? = some o → (o = none ∧ vs[i]? = some V.non) ∨ ∃ r row, o = some row ∧ vs[i]? = some (.ref r) ∧ FT H r (rowV row)
structure WfB (b : Int) (slots : List (Option Rw)) (outs : List Int) : Prop where
  len : outs.length = slots.length
  most : slots.length ≤ 40
  free : ∀ m : Nat, slots[m]? = some none → outs[m]? = some 0
  outs : ∀ z ∈ outs, 0 ≤ z ∧ z ≤ b
  row : ∀ row, some row ∈ slots → row.length ≤ 40
  live : ∀ row, some row ∈ slots → ∀ k, some k ∈ row → ∃ r, slots[k]? = some (some r)
abbrev Wf := WfB 9
theorem HeapAt.keep {K : PySem.W.Frag} {H H' : Hp} {D : Addr} {slots : List (Option Rw)} {outs : List Int} (h : HeapAt K H D slots outs) (k : Same H H') : HeapAt K H' D slots outs := by
  obtain ⟨S, O, vs, h1, h2, h3, h4, h5⟩ := h.ex
  have k0 : Kx [] H H' := .same k []
  refine ⟨S, O, vs, k0.sqT (by simp) h1, k0.sqT (by simp) h2, k0.sqT (by simp) h3, h4, fun i o ho => ?_⟩
  rcases h5 i o ho with z | ⟨r, row, e1, e2, ob, e3, e4, e5⟩
  · exact .inl z
  · exact .inr ⟨r, row, e1, e2, ob, k _ _ e3, e4, e5⟩
def spBase (K : PySem.W.Frag) : Sp := fun vs H Q _ => ∃ (p c : Addr) (n : Nat), vs = [.ref p] ∧ PenAt H p c n ∧ n ≤ 800000 ∧
  ∀ (B D : Addr) (lab : Nat) (slots : List (Option Rw)) (outs : List Int) H', H' B = some (.tup [.ref D, .int lab]) → HeapAt K H' D slots outs → Wf slots outs → 1 ≤ slots.length → (∃ (row : Rw) (z : Int), slots[lab]? = some (some row) ∧ outs[lab]? = some z ∧ 1 ≤ z) → Kx [p] H H' → PenAt H' p c (n + 700) → Q (.ref B) H'
def toI : V → Int
  | .int i => i
  | _ => 0
theorem perm_ints {ys : List V} {zs : List Int} (h : ys.Perm (zs.map V.int)) : ∃ ls : List Int, ys = ls.map V.int ∧ ls.Perm zs := by
  refine ⟨ys.map toI, ?_, ?_⟩
  · rw [List.map_map]
    have : ∀ y ∈ ys, (V.int ∘ toI) y = y := by
      intro y hy
      obtain ⟨z, _, rfl⟩ := List.mem_map.mp (h.mem_iff.mp hy)
      rfl
    rw [List.map_congr_left this, List.map_id']
  · have e := h.map toI
    rw [List.map_map] at e
    have e2 : zs.map (toI ∘ V.int) = zs := by
      rw [show (toI ∘ V.int) = id from rfl, List.map_id]
    rwa [e2] at e
theorem rg_ints (N : Nat) : rgV 0 (N : Int) = ((List.range N).map fun (i : Nat) => (i : Int)).map V.int := by
  unfold rgV
  rw [List.map_map, show ((N : Int) - 0).toNat = N by omega]
  refine List.map_congr_left fun i _ => ?_
  show V.int (0 + (i : Int)) = V.int i
  rw [Int.zero_add]
def unV : V → Option Nat
  | .int z => some z.toNat
  | _ => none
theorem Kx.comb {S : List Addr} {H H1 H2 : Hp} {Z : Addr} (a : Kx S H H1) (b : Kx [Z] H1 H2) (n : H Z = none) : Kx S H H2 := fun q o hq h =>
  b q o (fun z => by rw [List.mem_singleton.mp z, n] at h; cases h) (a q o hq h)
theorem cut_from (xs : List V) (k : Nat) : cutV xs (some (k : Int)) none = xs.drop k := by
  unfold cutV
  rw [HT.sIx_none, show HT.sIx xs.length 0 (some (k : Int)) = min k xs.length from HT.sIx_nat xs.length 0 k]
  rcases Nat.le_total k xs.length with h | h
  · rw [Nat.min_eq_left h, List.take_of_length_le (by rw [List.length_drop]; exact Nat.le_refl _)]
  · rw [Nat.min_eq_right h, Nat.sub_self, List.take_zero, List.drop_of_length_le h]
theorem ix_nat {n j : Nat} (hj : j < n) : ixN n (j : Int) = some j := by
  unfold ixN
  rw [if_pos (by omega), if_pos (by omega), Int.toNat_natCast]
theorem RowsI.other {H0 H : Hp} {R A : Addr} {o : HO} {rs : List Addr} {rows : List (List V)} {live : List Int} {B : Nat} (h : RowsI H0 H R rs rows live B) (nR : A ≠ R) (n : A ∉ rs) : RowsI H0 (upd H A o) R rs rows live B :=
  ⟨(upd_ne nR.symm).trans h.hR, h.len, h.nd, h.fr, h.frR, h.nR, fun i r row h1 h2 => (upd_ne (fun e => n (by rw [← e]; exact List.mem_of_getElem? h1))).trans (h.at_ i r row h1 h2), h.good⟩
theorem ok_base {f : Addr} {fd : FuncData} (F : Fun K "_law_base" "_law_base" sQBase f fd) (T : Txt mg) (l_law_draw : Lo P w K mg base "_law_draw" 1 ["_law_pen_here", "_law_most_one"] spDraw)
    (l_law_shuffled : Lo P w K mg base "_law_shuffled" 2 ["_law_pen_here", "_law_row"] (spShuf K)) (l_law_linked : Lo P w K mg base "_law_linked" 2 ["_law_pen_here", "_law_labels", "_law_alive"] (spLinked K)) :
    FnOk P w K mg base CX0 3 f fd ["_law_pen_here"] (spBase K) := by
  refine F.ok scQBase (fun vs H Q E h => ?_) (fun cdv A outer s H vs Q E hr h => ?_)
  · obtain ⟨p, c, n, rfl, _⟩ := h
    rfl
  · obtain ⟨p, c, n, rfl, hpen, hn, k⟩ := h
    refine ⟨_, (pss_cons (ps_set (i := 1) scQBase.nd rfl (Or.inl rfl) (pe_ix ix_list (pe_lst (pa_cons (pe_op op_add pe_int (pe_lo l_law_draw (hr.mono (by decide)) (by rfl) (pa_cons (pv 0) (pa_cons pe_int pa_nil)))) (pa_cons (pe_op op_add pe_int (pe_lo l_law_draw (hr.mono (by decide)) (by rfl) (pa_cons (pv 0) (pa_cons pe_int pa_nil)))) (pa_cons pe_int (pa_cons (pe_op op_add pe_int (pe_lo l_law_draw (hr.mono (by decide)) (by rfl) (pa_cons (pv 0) (pa_cons pe_int pa_nil)))) pa_nil))))) (pe_lo l_law_draw (hr.mono (by decide)) (by rfl) (pa_cons (pv 0) (pa_cons pe_int pa_nil))) (fun _ _ => rfl)))
      (pss_cons (ps_set (i := 2) scQBase.nd rfl (Or.inl rfl) (pe_ix ix_list (pe_lst (pa_cons pe_int (pa_cons pe_int (pa_cons (pe_lo l_law_draw (hr.mono (by decide)) (by rfl) (pa_cons (pv 0) (pa_cons (pe_op op_sub pe_int (pv 1)) pa_nil))) (pa_cons (pe_callB (call_min2 rfl) (by rfl) T.b_min boot'_min (pa_cons pe_int (pa_cons (pe_op op_sub pe_int (pv 1)) pa_nil))) pa_nil))))) (pe_lo l_law_draw (hr.mono (by decide)) (by rfl) (pa_cons (pv 0) (pa_cons pe_int pa_nil))) (fun _ _ => rfl)))
      (pss_cons (ps_set (i := 3) scQBase.nd rfl (Or.inl rfl) (pe_lo l_law_shuffled (hr.mono (by decide)) (by rfl) (pa_cons (pv 0) (pa_cons (pe_listRg rfl (by rfl) T.b_list (prg_1 (by rfl) T.b_range (pe_op op_add (pv 1) (pv 2)))) pa_nil))))
      (pss_cons (ps_set (i := 4) scQBase.nd rfl (Or.inl rfl) (pe_lo l_law_linked (hr.mono (by decide)) (by rfl) (pa_cons (pv 0) (pa_cons (pv 3) (pa_cons (pv 1) pa_nil)))))
      (pss_cons (ps_setLc (i := 6) (own := [("_law_label", 5)]) rfl scQBase.nd rfl rfl (sw_true rfl rfl rfl (by decide +kernel)) (pi_list (pv 3)) (blkOk_by (N := ["_law_pen_here", "_law_alive", "_law_spare", "_law_labels", "_law_rows", "_law_label", "_law_handles", "_law_turn", "_law_row"]) (sc := defScope sQBase) (by decide +kernel)) (fun _ _ _ _ _ => (pg_name (i := 5) scQBase.nd rfl (Or.inl rfl))) (fun _ _ _ _ _ => pts_nil) (fun _ _ _ _ _ => pe_int))
      (pss_cons (ps_for PassesOwn.never rfl (pi_range1 (by rfl) T.b_range (pa_cons (pe_ix ix_list (pe_lst (pa_cons pe_int (pa_cons pe_int (pa_cons pe_int (pa_cons pe_int pa_nil))))) (pe_lo l_law_draw (hr.mono (by decide)) (by rfl) (pa_cons (pv 0) (pa_cons pe_int pa_nil))) (fun _ _ => rfl)) pa_nil)) (pg_name (i := 7) scQBase.nd rfl (Or.inl rfl))
      (pss_one (ps_asg (pe_op op_add pe_int (pe_lo l_law_draw (hr.mono (by decide)) (by rfl) (pa_cons (pv 0) (pa_cons pe_int pa_nil)))) (pg_sub (pv 6) (pe_ix ix_list (pv 3) (pe_lo l_law_draw (hr.mono (by decide)) (by rfl) (pa_cons (pv 0) (pa_cons (pv 1) pa_nil))) (fun _ _ => rfl)) set_list))))
      (pss_cons (ps_asg (pe_ix ix_list (pe_lst (pa_cons pe_int (pa_cons pe_int (pa_cons pe_int (pa_cons pe_int (pa_cons pe_int pa_nil)))))) (pe_lo l_law_draw (hr.mono (by decide)) (by rfl) (pa_cons (pv 0) (pa_cons pe_int pa_nil))) (fun _ _ => rfl)) (pg_sub (pv 6) (pe_ix ix_list (pv 3) pe_int (fun _ _ => rfl)) set_list))
      (pss_cons (ps_setLc (i := 4) (own := [("_law_row", 8)]) rfl scQBase.nd rfl rfl (sw_true rfl rfl rfl (by decide +kernel)) (pi_list (pv 4)) (blkOk_by (N := ["_law_pen_here", "_law_alive", "_law_spare", "_law_labels", "_law_rows", "_law_label", "_law_handles", "_law_turn", "_law_row"]) (sc := defScope sQBase) (by decide +kernel)) (fun _ _ _ _ _ => (pg_name (i := 8) scQBase.nd rfl (Or.inl rfl))) (fun _ _ _ _ _ => pts_nil) (fun _ _ _ _ _ => (pe_callTy (call_tupFK (K := K)) (by rfl) T.b_tuple boot'_tuple (pa_cons (pv 8) pa_nil))))
      (pss_cons (ps_for PassesOwn.never rfl (pi_list (pe_slice sl_list (pv 3) (po_some (pv 1)) po_none)) (pg_name (i := 5) scQBase.nd rfl (Or.inl rfl))
      (pss_one (ps_asg pe_non (pg_sub (pv 4) (pv 5) set_list))))
      (pss_one (ps_ret (pe_tup (pa_cons (pe_tup (pa_cons (pe_callTy call_tuple_of (by rfl) T.b_tuple boot'_tuple (pa_cons (pv 4) pa_nil)) (pa_cons (pe_callTy call_tuple_of (by rfl) T.b_tuple boot'_tuple (pa_cons (pv 6) pa_nil)) pa_nil))) (pa_cons (pe_ix ix_list (pv 3) pe_int (fun _ _ => rfl)) pa_nil)))))))))))))), ?_⟩
    refine x_start (σ' := [some (.ref p), none, none, none, none, none, none, none, none]) rfl ?_
    dsimp only [cxOf]
    obtain ⟨⟨op, hp⟩, oc, hc⟩ := hpen.some
    have hnp : ∀ b, H b = none → b ≠ p := fun b hb e => by
      rw [e, hp] at hb
      cases hb
    have npfree : ∀ {H1 : Hp} {q m}, PenAt H1 p c m → H1 q = none → q ≠ p := fun hp1 hq e => by
      obtain ⟨⟨o, ho⟩, _⟩ := hp1.some
      rw [e, ho] at hq
      cases hq
    repeat walk_at "rd"
    refine x_draw hpen (by omega) (by omega) (by omega) fun a1 H1 a1l a1h k1 P1 => ?_
    repeat walk_at "rd"
    refine x_draw P1 (by omega) (by omega) (by omega) fun a2 H2 a2l a2h k2 P2 => ?_
    replace k2 := k1.trans k2
    clear k1 P1
    repeat walk_at "rd"
    refine x_draw P2 (by omega) (by omega) (by omega) fun a3 H3 a3l a3h k3 P3 => ?_
    replace k3 := k2.trans k3
    clear k2 P2
    repeat walk_at "rd"
    rename_i q nq
    have nqp := npfree P3 nq
    refine x_draw (P3.keep ((Kx.refl [] H3).new nq) (by simp) (by simp) (Nat.le_refl _)) (by omega) (by omega) (by omega) fun a4 H4 a4l a4h k4 P4 => ?_
    have hq4 : H4 q = some (.lst [V.int (1 + a1), V.int (2 + a2), V.int 40, V.int (1 + a3)]) := k4 q _ (by simpa using nqp) upd_same
    have K4 := (k3.new nq).trans k4
    clear k4 P3 k3
    obtain ⟨al, hat, al0, al1⟩ : ∃ al : Nat, atI [V.int (1 + a1), V.int (2 + a2), V.int 40, V.int (1 + a3)] a4 = some (.int al) ∧ 1 ≤ al ∧ al ≤ 40 := by
      obtain ⟨z, hz, _, hz2⟩ := at_ints (zs := [1 + a1, 2 + a2, 40, 1 + a3]) a4l (by simpa using a4h)
      simp only [List.mem_cons, List.not_mem_nil, or_false] at hz
      refine ⟨z.toNat, ?_, by omega, by omega⟩
      rw [show ((z.toNat : Nat) : Int) = z by omega]
      exact hz2
    repeat walk_at "rd"
    refine x_draw P4 (by omega) (by omega) (by omega) fun s1 H5 s1l s1h k5 P5 => ?_
    replace K4 := K4.trans k5
    clear k5 P4
    repeat walk_at "rd"
    rename_i q2 nq2
    have nq2p := npfree P5 nq2
    refine x_draw (P5.keep ((Kx.refl [] H5).new nq2) (by simp) (by simp) (Nat.le_refl _)) (by omega) (by omega) (by omega) fun s2 H6 s2l s2h k6 P6 => ?_
    have hq6 : H6 q2 = some (.lst [V.int 0, V.int 0, V.int s1, V.int (if 40 - (al : Int) < 2 then 40 - (al : Int) else 2)]) := k6 q2 _ (by simpa using nq2p) upd_same
    have K6 := (K4.new nq2).trans k6
    clear k6 P5 K4
    obtain ⟨sp, hat2, sp1⟩ : ∃ sp : Nat, atI [V.int 0, V.int 0, V.int s1, V.int (if 40 - (al : Int) < 2 then 40 - (al : Int) else 2)] s2 = some (.int sp) ∧ sp + al ≤ 40 := by
      obtain ⟨z, hz, _, hz2⟩ := at_ints (zs := [0, 0, s1, if 40 - (al : Int) < 2 then 40 - (al : Int) else 2]) s2l (by simpa using s2h)
      simp only [List.mem_cons, List.not_mem_nil, or_false] at hz
      have hzz : 0 ≤ z ∧ z + al ≤ 40 := by
        split at hz <;> omega
      refine ⟨z.toNat, ?_, by omega⟩
      rw [show ((z.toNat : Nat) : Int) = z by omega]
      exact hz2
    repeat walk_at "rd"
    refine ⟨RgOk.of_le (by omega) (by omega) (by omega) (by omega), fun q3 nq3 => ?_⟩
    repeat walk_at "rd"
    have nq3p := npfree P6 nq3
    have eN : (al : Int) + (sp : Int) = ((al + sp : Nat) : Int) := by omega
    refine ⟨p, c, q3, n + 6, _, rfl, P6.keep ((Kx.refl [] H6).new nq3) (by simp) (by simp) (by omega), SqL.of upd_same, nq3p, by rw [rgV_length]; omega, by omega, fun L ys H7 nL hperm k7 hL P7 => ?_⟩
    rw [rgV_length] at P7
    rw [eN, rg_ints] at hperm
    obtain ⟨ls, rfl, hls⟩ := perm_ints hperm
    have hlen : ls.length = al + sp := by
      rw [hls.length_eq, List.length_map, List.length_range]
    have hmem : ∀ z ∈ ls, 0 ≤ z ∧ z < ls.length := by
      intro z hz
      obtain ⟨m, hm, rfl⟩ := List.mem_map.mp (hls.mem_iff.mp hz)
      have := List.mem_range.mp hm
      omega
    have hall : ∀ m : Nat, m < ls.length → (m : Int) ∈ ls := by
      intro m hm
      exact hls.mem_iff.mpr (List.mem_map.mpr ⟨m, List.mem_range.mpr (by omega), rfl⟩)
    have hnd : ls.Nodup := by
      refine hls.symm.nodup ?_
      refine List.Pairwise.map _ ?_ List.nodup_range
      intro a b hab e
      exact hab (by omega)
    have K7 := (K6.new nq3).trans k7
    have nLp := npfree (P6.keep ((Kx.refl [] H6).new nq3) (by simp) (by simp) (Nat.le_refl _)) nL
    clear k7 P6 K6 hq4 hq6 nqp nq2p hat hat2
    repeat walk_at "rd"
    refine ⟨p, c, L, _, ls, al, rfl, P7, SqL.of hL, nLp, by omega, hmem, al0, by omega, by omega, fun R rs rows H8 I8 e8 k8 P8 => ?_⟩
    have K8 := K7.trans k8
    have hL8 : H8 L = some (.lst (ls.map V.int)) := k8 L _ (by simpa using nLp) hL
    repeat walk_at "rd"
    have hlab : ∀ {w : Int}, 0 ≤ w → w < al → ∃ j : Nat, (j : Int) ∈ ls.take al ∧ j < ls.length ∧ atI (ls.map V.int) w = some (.int (j : Int)) := by
      intro w hw0 hw1
      obtain ⟨z, hz, hz1, hz2⟩ := at_ints (zs := ls) hw0 (by omega)
      have h3 := hmem z hz
      refine ⟨z.toNat, ?_, by omega, ?_⟩
      · rw [show ((z.toNat : Nat) : Int) = z by omega]
        exact List.mem_of_getElem? (i := w.toNat) (by rw [List.getElem?_take_of_lt (by omega)]; exact hz1)
      · rw [show ((z.toNat : Nat) : Int) = z by omega]
        exact hz2
    refine y_lcL (xs := ls.map V.int) (SqL.of hL8) (fun A nA => ⟨fun i H1 => Kx [] H8 H1 ∧ H1 A = some (.lst ((List.replicate i (0 : Int)).map V.int)), ⟨(Kx.refl _ _).new nA, upd_same⟩, ?_, ?_, ?_⟩)
    · rintro i H1 hi ⟨k1, _⟩
      exact k1.sqL (by simp) (SqL.of hL8)
    · rintro i x H1 H1' hi ⟨k1, e1⟩ ⟨rfl, hx⟩
      rw [List.length_map] at hi
      repeat walk_at "rd"
      refine ⟨rfl, ?_⟩
      repeat walk_at "rd"
      refine ⟨_, e1, small1000 (by rw [List.length_map, List.length_replicate]; omega), k1.wr (.inl nA), ?_⟩
      rw [upd_same, List.replicate_succ', List.map_append]
      rfl
    rintro H9 ⟨k9, hA⟩
    rw [List.length_map] at hA
    have K9 := K8.trans (k9.mono (by simp))
    have I9 := I8.keep k9 (by simp)
    have hL9 : H9 L = some (.lst (ls.map V.int)) := k9 L _ (by simp) hL8
    have P9 := P8.keep k9 (by simp) (by simp) (Nat.le_refl _)
    have nAp := npfree P8 nA
    have nAL : A ≠ L := fun e => by rw [e, hL8] at nA; cases nA
    have nAR : A ≠ R := fun e => by rw [e, I8.hR] at nA; cases nA
    have nArs : A ∉ rs := fun z => by
      obtain ⟨m, hm⟩ := List.mem_iff_getElem?.mp z
      obtain ⟨row, hrow⟩ : ∃ row, rows[m]? = some row := ⟨_, List.getElem?_eq_getElem (by rw [I8.len]; exact (List.getElem?_eq_some_iff.mp hm).1)⟩
      rw [I8.at_ m A row hm hrow] at nA
      cases nA
    have nA0 : H A = none := (K8.fresh (by simpa using nAp) nA)
    have P8' := P8
    clear k9 P8
    repeat walk_at "rd"
    rename_i q4 nq4
    have nq4p := npfree P9 nq4
    refine x_draw (P9.keep ((Kx.refl [] H9).new nq4) (by simp) (by simp) (Nat.le_refl _)) (by omega) (by omega) (by omega) fun s3 H10 s3l s3h k10 P10 => ?_
    have hq4 : H10 q4 = some (.lst [V.int 0, V.int 0, V.int 1, V.int 3]) := k10 q4 _ (by simpa using nq4p) upd_same
    have K10 := (K9.new nq4).trans k10
    have I10 := (I9.keep ((Kx.refl [] H9).new nq4) (by simp)).keep k10 (by simpa using P7.some.1)
    have hA10 : H10 A = some (.lst ((List.replicate ls.length (0 : Int)).map V.int)) := k10 A _ (by simpa using nAp) (lk_ne hA nq4)
    have hL10 : H10 L = some (.lst (ls.map V.int)) := k10 L _ (by simpa using nLp) (lk_ne hL9 nq4)
    clear k10 P9 I9 hA hL9
    obtain ⟨cnt, hat, hc0, hc1⟩ : ∃ cnt, atI [V.int 0, V.int 0, V.int 1, V.int 3] s3 = some (.int cnt) ∧ 0 ≤ cnt ∧ cnt ≤ 3 := by
      obtain ⟨z, hz, _, hz2⟩ := at_ints (zs := [0, 0, 1, 3]) s3l (by simpa using s3h)
      refine ⟨z, hz2, ?_⟩
      simp only [List.mem_cons, List.not_mem_nil, or_false] at hz
      omega
    repeat walk_at "rd"
    refine y_forR1 hc0 (by omega) ⟨fun i σ H11 => ∃ (hs : List Int) (y7 : Option V), σ = [some (.ref p), some (.int al), some (.int sp), some (.ref L), some (.ref R), none, some (.ref A), y7, none] ∧
      H11 A = some (.lst (hs.map V.int)) ∧ hs.length = ls.length ∧ (∀ z ∈ hs, 0 ≤ z ∧ z ≤ 9) ∧ (∀ m : Nat, m < ls.length → (m : Int) ∉ ls.take al → hs[m]? = some 0) ∧ H11 L = some (.lst (ls.map V.int)) ∧ RowsI H7 H11 R rs rows (ls.take al) 40 ∧ Kx [p] H H11 ∧ PenAt H11 p c (n + 600 + 2 * i),
      ⟨_, none, rfl, hA10, List.length_replicate, fun z hz => by rw [(List.mem_replicate.mp hz).2]; omega, fun m hm _ => by rw [List.getElem?_replicate, if_pos hm], hL10, I10, K10, P10.keep (Kx.refl [] H10) (by simp) (by simp) (by omega)⟩, fun _ _ _ _ _ => trivial, ?_, ?_⟩
    · rintro i x σ H11 H11' hi ⟨hs, y7, rfl, hA11, hhl, hhb, hhf, hL11, I11, K11, P11⟩ ⟨rfl, rfl⟩
      repeat walk_at "rd"
      refine x_draw P11 (by omega) (by omega) (by omega) fun v0 H12 v0l v0h k12 P12 => ?_
      have K12 := K11.trans k12
      have I12 := I11.keep k12 (by simpa using P7.some.1)
      have hA12 : H12 A = some (.lst (hs.map V.int)) := k12 A _ (by simpa using nAp) hA11
      have hL12 : H12 L = some (.lst (ls.map V.int)) := k12 L _ (by simpa using nLp) hL11
      clear k12 P11
      repeat walk_at "rd"
      refine x_draw P12 (by omega) (by omega) (by omega) fun v1 H13 v1l v1h k13 P13 => ?_
      have K13 := K12.trans k13
      have I13 := I12.keep k13 (by simpa using P7.some.1)
      have hA13 : H13 A = some (.lst (hs.map V.int)) := k13 A _ (by simpa using nAp) hA12
      have hL13 : H13 L = some (.lst (ls.map V.int)) := k13 L _ (by simpa using nLp) hL12
      clear k13 P12
      obtain ⟨j, hj, hj2, hatj⟩ := hlab v1l v1h
      have hix : ixN (hs.map V.int).length (j : Int) = some j := ix_nat (by rw [List.length_map]; omega)
      repeat walk_at "rd"
      refine ⟨hs.set j (1 + v0), _, rfl, ?_, by rw [List.length_set]; exact hhl, ?_, fun m hm hmt => by rw [List.getElem?_set_ne (fun e => hmt (by rw [← e]; exact hj))]; exact hhf m hm hmt, ?_, I13.other nAR nArs, K13.wr (.inl nA0), ?_⟩
      · rw [upd_same, List.map_set]
      · intro z hz
        rcases List.mem_or_eq_of_mem_set hz with hz | rfl
        · exact hhb z hz
        · omega
      · rw [upd_ne nAL.symm]
        exact hL13
      · exact P13.up (upd_ne nAp.symm) (upd_ne (fun e => by obtain ⟨_, o, ho⟩ := P8'.some; rw [← e, ho] at nA; cases nA)) (by omega)
    · rintro σ H11 ⟨hs, y7, rfl, hA11, hhl, hhb, hhf, hL11, I11, K11, P11⟩
      repeat walk_at "rd"
      rename_i q5 nq5
      have nq5p := npfree P11 nq5
      refine x_draw (P11.keep ((Kx.refl [] H11).new nq5) (by simp) (by simp) (Nat.le_refl _)) (by omega) (by omega) (by omega) fun s4 H12 s4l s4h k12 P12 => ?_
      have hq12 : H12 q5 = some (.lst [V.int 1, V.int 1, V.int 1, V.int 2, V.int 9]) := k12 q5 _ (by simpa using nq5p) upd_same
      have K12 := (K11.new nq5).trans k12
      have I12 := (I11.keep ((Kx.refl [] H11).new nq5) (by simp)).keep k12 (by simpa using P7.some.1)
      have hA12 : H12 A = some (.lst (hs.map V.int)) := k12 A _ (by simpa using nAp) (lk_ne hA11 nq5)
      have hL12 : H12 L = some (.lst (ls.map V.int)) := k12 L _ (by simpa using nLp) (lk_ne hL11 nq5)
      clear k12 P11 I11
      obtain ⟨hv, hat5, hv0, hv1⟩ : ∃ hv, atI [V.int 1, V.int 1, V.int 1, V.int 2, V.int 9] s4 = some (.int hv) ∧ 1 ≤ hv ∧ hv ≤ 9 := by
        obtain ⟨z, hz, _, hz2⟩ := at_ints (zs := [1, 1, 1, 2, 9]) s4l (by simpa using s4h)
        refine ⟨z, hz2, ?_⟩
        simp only [List.mem_cons, List.not_mem_nil, or_false] at hz
        omega
      obtain ⟨j0, hj0, hj02, hatj0⟩ := hlab (w := 0) (by omega) (by omega)
      have hix0 : ixN (hs.map V.int).length (j0 : Int) = some j0 := ix_nat (by rw [List.length_map]; omega)
      repeat walk_at "rd"
      have hA13 : upd H12 A (.lst ((hs.map V.int).set j0 (.int hv))) A = some (.lst ((hs.set j0 hv).map V.int)) := by rw [upd_same, List.map_set]
      have hL13 : upd H12 A (.lst ((hs.map V.int).set j0 (.int hv))) L = some (.lst (ls.map V.int)) := (upd_ne nAL.symm).trans hL12
      have I13 : RowsI H7 (upd H12 A (.lst ((hs.map V.int).set j0 (.int hv)))) R rs rows (ls.take al) 40 := I12.other nAR nArs
      have K13 : Kx [p] H (upd H12 A (.lst ((hs.map V.int).set j0 (.int hv)))) := K12.wr (.inl nA0)
      have P13 : PenAt (upd H12 A (.lst ((hs.map V.int).set j0 (.int hv)))) p c (n + 620) := P12.up (upd_ne nAp.symm) (upd_ne (fun e => by obtain ⟨_, o, ho⟩ := P8'.some; rw [← e, ho] at nA; cases nA)) (by omega)
      generalize upd H12 A (.lst ((hs.map V.int).set j0 (.int hv))) = H13 at *
      have hb2 : ∀ z ∈ hs.set j0 hv, 0 ≤ z ∧ z ≤ 9 := by
        intro z hz
        rcases List.mem_or_eq_of_mem_set hz with hz | rfl
        · exact hhb z hz
        · omega
      have hl2 : (hs.set j0 hv).length = ls.length := by rw [List.length_set]; exact hhl
      have hf2 : ∀ m : Nat, m < ls.length → (m : Int) ∉ ls.take al → (hs.set j0 hv)[m]? = some 0 := fun m hm hmt => by rw [List.getElem?_set_ne (fun e => hmt (by rw [← e]; exact hj0))]; exact hhf m hm hmt
      have hg2 : (hs.set j0 hv)[j0]? = some hv := List.getElem?_set_self (by omega)
      generalize hs.set j0 hv = hs2 at *
      clear hA12 hL12 I12 K12 P12 hq12
      refine y_lcL (xs := rs.map V.ref) (SqL.of I13.hR) (fun Z nZ => ⟨fun i H1 => Kx [] H13 H1 ∧ ∃ ts : List Addr, ts.length = i ∧ H1 Z = some (.lst (ts.map V.ref)) ∧ ∀ (m : Nat) (t : Addr) (row : List V), ts[m]? = some t → rows[m]? = some row → FT H1 t row,
        ⟨(Kx.refl _ _).new nZ, [], rfl, upd_same, by simp⟩, ?_, ?_, ?_⟩)
      · rintro i H1 hi ⟨k1, _⟩
        exact k1.sqL (by simp) (SqL.of I13.hR)
      · rintro i x H1 H1' hi ⟨k1, ts, et, eZ, hF⟩ ⟨rfl, hx⟩
        rw [List.length_map] at hi
        rw [List.getElem?_map, List.getElem?_eq_getElem hi] at hx
        cases Option.some.inj hx
        have hi3 : i < rows.length := by rw [I13.len]; exact hi
        have hrow := List.getElem?_eq_getElem hi3
        have hr1 : H1' rs[i] = some (.lst rows[i]) := k1 _ _ (by simp) (I13.at_ i _ _ (List.getElem?_eq_getElem hi) hrow)
        repeat walk_at "rd"
        refine ⟨rfl, ?_⟩
        repeat walk_at "rd"
        intro t o nt ho1 ho2
        have ntZ : t ≠ Z := (ne_of_none eZ nt).symm
        refine ⟨ts.map V.ref, lk_ne eZ nt, small1000 (by rw [List.length_map]; omega), (k1.new nt).wr (.inl nZ), ts ++ [t], by rw [List.length_append, et]; rfl, ?_, ?_⟩
        · rw [upd_same, List.map_append]
          rfl
        · intro m t' row' h1 h2
          by_cases hm : m < ts.length
          · rw [List.getElem?_append_left hm] at h1
            have f := hF m t' row' h1 h2
            have nt' : t' ≠ Z := by
              obtain ⟨ob, e, _⟩ := f
              exact ne_of e eZ (by intro z; cases z)
            obtain ⟨ob, e, f1, f2⟩ := f
            exact ⟨ob, lk_ne2 nt' (lk_ne e nt), f1, f2⟩
          · rw [List.getElem?_append_right (by omega)] at h1
            obtain ⟨e0, e1⟩ := List.getElem?_eq_some_iff.mp h1
            have em : m = i := by
              rw [List.length_singleton] at e0
              omega
            subst em
            rw [hrow] at h2
            simp only [et, Nat.sub_self, List.getElem_cons_zero] at e1
            rw [← e1, ← Option.some.inj h2]
            exact ⟨o, by rw [upd_ne ntZ]; exact upd_same, ho1, ho2⟩
      rintro H14 ⟨k14, ts, et, hZ, hF⟩
      rw [List.length_map, e8] at et
      have hA14 : H14 A = some (.lst (hs2.map V.int)) := k14 A _ (by simp) hA13
      have hL14 : H14 L = some (.lst (ls.map V.int)) := k14 L _ (by simp) hL13
      have K14 := K13.trans (k14.mono (by simp))
      have P14 := P13.keep k14 (by simp) (by simp) (Nat.le_refl _)
      have nZ0 : H Z = none := K13.fresh (by simpa using npfree P13 nZ) nZ
      have nZp := npfree P13 nZ
      have nAZ : A ≠ Z := fun e => by rw [← e, hA13] at nZ; cases nZ
      have nLZ : L ≠ Z := fun e => by rw [← e, hL13] at nZ; cases nZ
      repeat walk_at "rd"
      intro q6 nq6
      have nq6Z : q6 ≠ Z := (ne_of_none hZ nq6).symm
      rw [cut_from, ← List.map_drop]
      refine y_forL (xs := (ls.drop al).map V.int) (SqL.of upd_same) ⟨fun i σ Hx => ∃ (vs : List V) (y5 : Option V), σ = [some (.ref p), some (.int al), some (.int sp), some (.ref L), some (.ref Z), y5, some (.ref A), y7, none] ∧
        Hx Z = some (.lst vs) ∧ vs.length = ls.length ∧ (∀ (m : Nat) (t : Addr), ts[m]? = some t → vs[m]? = some (if (m : Int) ∈ (ls.drop al).take i then V.non else .ref t)) ∧ Kx [Z] (upd H14 q6 (.lst ((ls.drop al).map V.int))) Hx,
        ⟨ts.map V.ref, none, rfl, lk_ne hZ nq6, by rw [List.length_map]; exact et, ?_, Kx.refl _ _⟩, ?_, ?_, ?_⟩
      · intro m t ht
        rw [List.getElem?_map, ht, List.take_zero, if_neg (by simp)]
        rfl
      · rintro i σ Hx hi ⟨vs, y5, rfl, e1, e2, e3, kx⟩
        exact SqL.of (kx _ _ (by simpa using nq6Z) upd_same)
      · rintro i x σ Hx Hx' hi ⟨vs, y5, rfl, e1, e2, e3, kx⟩ ⟨rfl, hx⟩
        rw [List.length_map] at hi
        rw [List.getElem?_map, List.getElem?_eq_getElem hi] at hx
        cases Option.some.inj hx
        have hzm := hmem _ (List.mem_of_mem_drop (List.getElem_mem hi))
        obtain ⟨jz, hjz⟩ : ∃ jz : Nat, (ls.drop al)[i] = jz := ⟨((ls.drop al)[i]).toNat, by omega⟩
        rw [hjz] at hzm
        have hixz : ixN vs.length ((ls.drop al)[i]) = some jz := by
          rw [hjz]
          exact ix_nat (by omega)
        repeat walk_at "rd"
        refine ⟨vs.set jz .non, _, rfl, upd_same, by rw [List.length_set]; exact e2, ?_, kx.wr (.inr (by simp))⟩
        intro m t ht
        have et := List.take_add_one (l := ls.drop al) (i := i)
        rw [List.getElem?_eq_getElem hi] at et
        rw [et]
        by_cases hm : m = jz
        · subst hm
          rw [List.getElem?_set_self (by omega), if_pos (by simp [hjz])]
        · rw [List.getElem?_set_ne (Ne.symm hm), e3 m t ht]
          have : ((m : Int) ∈ (ls.drop al).take i ++ [(ls.drop al)[i]]) ↔ ((m : Int) ∈ (ls.drop al).take i) := by
            rw [List.mem_append, List.mem_singleton, hjz]
            constructor
            · rintro (z | z)
              · exact z
              · exact absurd (Int.ofNat.inj z) hm
            · exact .inl
          simp only [Option.toList_some, this]
      · rintro σ Hx ⟨vs, y5, rfl, e1, e2, e3, kx⟩
        rw [List.length_map, List.take_length] at e3
        have hAx : Hx A = some (.lst (hs2.map V.int)) := kx _ _ (by simpa using nAZ) (lk_ne hA14 nq6)
        have hLx : Hx L = some (.lst (ls.map V.int)) := kx _ _ (by simpa using nLZ) (lk_ne hL14 nq6)
        repeat walk_at "rd"
        intro S nS
        repeat walk_at "rd"
        intro O nO
        repeat walk_at "rd"
        rename_i D nD B nB
        have nZc : c ≠ Z := fun e => by
          obtain ⟨_, o, ho⟩ := P13.some
          rw [e, nZ] at ho
          cases ho
        have KX : Kx [p] H Hx := (K14.new nq6).comb kx nZ0
        have PX : PenAt Hx p c (n + 700) := (P14.keep ((Kx.refl [] H14).new nq6) (by simp) (by simp) (Nat.le_refl _)).keep kx (by simpa using nZp.symm) (by simpa using nZc) (by omega)
        have kf : Kx [] Hx (upd (upd (upd (upd Hx S (.tup vs)) O (.tup (hs2.map V.int))) D (.tup [.ref S, .ref O])) B (.tup [.ref D, .int j0])) := ((((Kx.refl [] Hx).new nS).new nO).new nD).new nB
        have hS : SqT K (upd (upd (upd (upd Hx S (.tup vs)) O (.tup (hs2.map V.int))) D (.tup [.ref S, .ref O])) B (.tup [.ref D, .int j0])) S vs := SqT.of (by walk_at "lk")
        have hO : SqT K (upd (upd (upd (upd Hx S (.tup vs)) O (.tup (hs2.map V.int))) D (.tup [.ref S, .ref O])) B (.tup [.ref D, .int j0])) O (hs2.map V.int) := SqT.of (by walk_at "lk")
        have hD : SqT K (upd (upd (upd (upd Hx S (.tup vs)) O (.tup (hs2.map V.int))) D (.tup [.ref S, .ref O])) B (.tup [.ref D, .int j0])) D [.ref S, .ref O] := SqT.of (by walk_at "lk")
        have hB : (upd (upd (upd (upd Hx S (.tup vs)) O (.tup (hs2.map V.int))) D (.tup [.ref S, .ref O])) B (.tup [.ref D, .int j0])) B = some (.tup [.ref D, .int j0]) := upd_same
        generalize (upd (upd (upd (upd Hx S (.tup vs)) O (.tup (hs2.map V.int))) D (.tup [.ref S, .ref O])) B (.tup [.ref D, .int j0])) = Hf at *
        have hrl : rows.length = ls.length := I13.len.trans e8
        have hsl : ((List.range ls.length).map fun m => if ((m : Nat) : Int) ∈ ls.drop al then (none : Option Rw) else some (((rows[m]?).getD []).map unV)).length = ls.length := by rw [List.length_map, List.length_range]
        have hget : ∀ m, m < ls.length → ((List.range ls.length).map fun m => if ((m : Nat) : Int) ∈ ls.drop al then (none : Option Rw) else some (((rows[m]?).getD []).map unV))[m]? = some (if ((m : Nat) : Int) ∈ ls.drop al then (none : Option Rw) else some (((rows[m]?).getD []).map unV)) := by
          intro m hm
          rw [List.getElem?_map, List.getElem?_range hm]
          rfl
        have hap : ∀ z, z ∈ ls.take al → z ∉ ls.drop al := by
          intro z hz hz2
          have := hnd
          rw [← List.take_append_drop al ls, List.nodup_append] at this
          exact this.2.2 z hz z hz2 rfl
        have hfr : ∀ m : Nat, ((List.range ls.length).map fun m => if ((m : Nat) : Int) ∈ ls.drop al then (none : Option Rw) else some (((rows[m]?).getD []).map unV))[m]? = some none → hs2[m]? = some 0 := by
          intro m hm
          have hm1 : m < ls.length := by
            have := (List.getElem?_eq_some_iff.mp hm).1
            rwa [hsl] at this
          rw [hget m hm1] at hm
          by_cases hd : (m : Int) ∈ ls.drop al
          · exact hf2 m hm1 fun z => hap _ z hd
          · rw [if_neg hd] at hm
            cases hm
        have hlb : ∃ (row : Rw) (z : Int), ((List.range ls.length).map fun m => if ((m : Nat) : Int) ∈ ls.drop al then (none : Option Rw) else some (((rows[m]?).getD []).map unV))[j0]? = some (some row) ∧ hs2[j0]? = some z ∧ 1 ≤ z := by
          refine ⟨((rows[j0]?).getD []).map unV, hv, ?_, hg2, hv0⟩
          rw [hget j0 hj02, if_neg (hap _ hj0)]
        refine k B D j0 _ hs2 Hf hB ⟨S, O, vs, hD, hS, hO, e2.trans hsl.symm, ?_⟩ ⟨hl2.trans hsl.symm, by rw [hsl]; omega, hfr, hb2, ?_, ?_⟩ (by rw [hsl]; omega) hlb (KX.trans (kf.mono (by simp))) (PX.keep kf (by simp) (by simp) (Nat.le_refl _))
        · intro m o ho
          have hm : m < ls.length := by
            have := (List.getElem?_eq_some_iff.mp ho).1
            rwa [hsl] at this
          rw [hget m hm] at ho
          have e4 := e3 m ts[m] (List.getElem?_eq_getElem (by omega))
          by_cases hd : (m : Int) ∈ ls.drop al
          · rw [if_pos hd] at ho e4
            exact .inl ⟨(Option.some.inj ho).symm, e4⟩
          · rw [if_neg hd] at ho e4
            have hm2 : m < rows.length := by omega
            have er := List.getElem?_eq_getElem hm2
            rw [er] at ho
            refine .inr ⟨ts[m], _, (Option.some.inj ho).symm, e4, ?_⟩
            obtain ⟨ob, f0, f1, f2⟩ := hF m ts[m] rows[m] (List.getElem?_eq_getElem (by omega)) er
            have nt : ts[m] ≠ Z := ne_of f0 hZ (by intro z; cases z)
            refine ⟨ob, kf _ _ (by simp) (kx _ _ (by simpa using nt) (lk_ne ?_ nq6)), f1, f2⟩
            rw [f0]
            have := (I13.good rows[m] (List.getElem_mem hm2)).2
            have ev : rowV ((some rows[m]).getD [] |>.map unV) = rows[m] := by
              unfold rowV
              show ((rows[m]).map unV).map slotV = rows[m]
              rw [List.map_map]
              have : ∀ v ∈ rows[m], (slotV ∘ unV) v = v := by
                intro v hv
                rcases this v hv with rfl | ⟨z, hz, rfl⟩
                · rfl
                · have := hmem z (List.mem_of_mem_take hz)
                  show V.int ((z.toNat : Nat) : Int) = V.int z
                  rw [show ((z.toNat : Nat) : Int) = z by omega]
              rw [List.map_congr_left this, List.map_id']
            rw [ev]
        · intro row hrow
          obtain ⟨m, hm, e⟩ := List.mem_map.mp hrow
          have hm := List.mem_range.mp hm
          by_cases hd : (m : Int) ∈ ls.drop al
          · rw [if_pos hd] at e
            cases e
          · rw [if_neg hd, List.getElem?_eq_getElem (show m < rows.length by omega)] at e
            rw [← Option.some.inj e, List.length_map]
            exact (I13.good _ (List.getElem_mem (show m < rows.length by omega))).1
        · intro row hrow k hk
          obtain ⟨m, hm, e⟩ := List.mem_map.mp hrow
          have hm := List.mem_range.mp hm
          by_cases hd : (m : Int) ∈ ls.drop al
          · rw [if_pos hd] at e
            cases e
          · rw [if_neg hd, List.getElem?_eq_getElem (show m < rows.length by omega)] at e
            rw [← Option.some.inj e] at hk
            obtain ⟨v, hv, ev⟩ := List.mem_map.mp hk
            rcases (I13.good _ (List.getElem_mem (show m < rows.length by omega))).2 v hv with rfl | ⟨z, hz, rfl⟩
            · cases ev
            · have h3 := hmem z (List.mem_of_mem_take hz)
              have ek : z.toNat = k := Option.some.inj ev
              have hk2 : (k : Int) = z := by omega
              have e9 := hget k (by omega)
              rw [if_neg (by rw [hk2]; exact hap z hz)] at e9
              exact ⟨_, e9⟩
end


/-- a heap at D, its rows any tuples -/
structure HeapT (K : PySem.W.Frag) (H : Hp) (D : Addr) (slots : List (Option Rw)) (outs : List Int) : Prop where
  ex : ∃ (S O : Addr) (vs : List V), SqT K H D [.ref S, .ref O] ∧ SqT K H S vs ∧ SqT K H O (outs.map V.int) ∧ vs.length = slots.length ∧
    ∀ (i : Nat) (o : Option Rw), slots[i]? = some o → (o = none ∧ vs[i]? = some V.non) ∨ ∃ r row, o = some row ∧ vs[i]? = some (.ref r) ∧ SqT K H r (rowV row)
theorem HeapAt.toT {K : PySem.W.Frag} {H : Hp} {D : Addr} {slots : List (Option Rw)} {outs : List Int} (h : HeapAt K H D slots outs) : HeapT K H D slots outs := by
  obtain ⟨S, O, vs, h1, h2, h3, h4, h5⟩ := h.ex
  refine ⟨S, O, vs, h1, h2, h3, h4, fun i o ho => ?_⟩
  rcases h5 i o ho with z | ⟨r, row, e1, e2, e3⟩
  · exact .inl z
  · exact .inr ⟨r, row, e1, e2, e3.seq⟩
theorem HeapT.keep {K : PySem.W.Frag} {H H' : Hp} {D : Addr} {slots : List (Option Rw)} {outs : List Int} (h : HeapT K H D slots outs) (k : Kx [] H H') : HeapT K H' D slots outs := by
  obtain ⟨S, O, vs, h1, h2, h3, h4, h5⟩ := h.ex
  refine ⟨S, O, vs, k.sqT (by simp) h1, k.sqT (by simp) h2, k.sqT (by simp) h3, h4, fun i o ho => ?_⟩
  rcases h5 i o ho with z | ⟨r, row, e1, e2, e3⟩
  · exact .inl z
  · exact .inr ⟨r, row, e1, e2, k.sqT (by simp) e3⟩
def slotD : Option Nat → PyData
  | none => .none
  | some k => .int k
def rowD : Option Rw → PyData
  | none => .none
  | some l => .tuple (l.map slotD)
def heapD (slots : List (Option Rw)) (outs : List Int) : PyData := .tuple [.tuple (slots.map rowD), .tuple (outs.map .int)]
theorem dp_slots {K : PySem.W.Frag} {H : Hp} : ∀ l : Rw, DpAll K H (rowV l) (l.map slotD)
  | [] => .nil
  | none :: r => .cons .non (dp_slots r)
  | some k :: r => .cons (.int k) (dp_slots r)
theorem dpAll_at {K : PySem.W.Frag} {H : Hp} : ∀ {vs : List V} {ds : List PyData}, vs.length = ds.length → (∀ (i : Nat) (d : PyData), ds[i]? = some d → ∃ v, vs[i]? = some v ∧ Dp K H v d) → DpAll K H vs ds
  | [], [], _, _ => .nil
  | [], _ :: _, h, _ => by cases h
  | _ :: _, [], h, _ => by cases h
  | v :: vs, d :: ds, h, q => by
    obtain ⟨v', e, hd⟩ := q 0 d rfl
    cases Option.some.inj e
    exact .cons hd (dpAll_at (Nat.succ.inj h) fun i d' hi => q (i + 1) d' hi)
theorem dp_intsT {K : PySem.W.Frag} {H : Hp} : ∀ cs : List Int, DpAll K H (cs.map V.int) (cs.map PyData.int)
  | [] => .nil
  | z :: r => .cons (.int z) (dp_intsT r)
theorem HeapT.dp {K : PySem.W.Frag} {H : Hp} {D : Addr} {slots : List (Option Rw)} {outs : List Int} (h : HeapT K H D slots outs) : Dp K H (.ref D) (heapD slots outs) := by
  obtain ⟨S, O, vs, h1, h2, h3, h4, h5⟩ := h.ex
  refine .tup h1 (.cons (.tup h2 (dpAll_at (by rw [List.length_map]; exact h4) ?_)) (.cons (.tup h3 (dp_intsT outs)) .nil))
  intro i d hd
  rw [List.getElem?_map] at hd
  cases e : slots[i]? with
  | none => rw [e] at hd; cases hd
  | some o =>
    rw [e] at hd
    cases Option.some.inj hd
    rcases h5 i o e with ⟨rfl, z⟩ | ⟨r, row, rfl, z, f⟩
    · exact ⟨_, z, .non⟩
    · exact ⟨_, z, .tup f (dp_slots row)⟩
theorem good_heap {slots : List (Option Rw)} {outs : List Int} (w : Wf slots outs) : Good (heapD slots outs) 3 (2 * (40 * (40 * 32 + 1) + 1)) := by
  have hrow : ∀ row, some row ∈ slots → Good (rowD (some row)) 1 (40 * 32) := by
    intro row hr
    refine Good.tuple (n := 40) ?_ (by rw [List.length_map]; exact w.row row hr)
    intro d hd
    obtain ⟨s, hs, rfl⟩ := List.mem_map.mp hd
    cases s with
    | none => exact Good.none.mono (Nat.le_refl _) (by decide)
    | some k =>
      obtain ⟨r, e⟩ := w.live row hr k hs
      have hk := (List.getElem?_eq_some_iff.mp e).1
      have := w.most
      exact Good.int (by show ((k : Int)).natAbs < _; omega)
  refine Good.tuple (n := 2) (k := 2) (w := 40 * (40 * 32 + 1)) ?_ (by simp)
  intro d hd
  simp only [List.mem_cons, List.not_mem_nil, or_false] at hd
  rcases hd with rfl | rfl
  · refine Good.tuple ?_ (by rw [List.length_map]; exact w.most)
    intro d hd
    obtain ⟨o, ho, rfl⟩ := List.mem_map.mp hd
    cases o with
    | none => exact Good.none.mono (by decide) (by decide)
    | some row => exact hrow row ho
  · refine (Good.tuple (k := 0) (w := 31) (n := 40) ?_ (by rw [List.length_map, w.len]; exact w.most)).mono (by decide) (by decide)
    intro d hd
    obtain ⟨z, hz, rfl⟩ := List.mem_map.mp hd
    have := w.outs z hz
    exact Good.int (by omega)
/-! ### what the program says of a heap -/
def isLive (slots : List (Option Rw)) (m : Nat) : Bool := ((slots[m]?).getD none).isSome
def liveUp (slots : List (Option Rw)) (n : Nat) : List Int := ((List.range n).filter (isLive slots)).map fun (m : Nat) => (m : Int)
theorem liveUp_succ (slots : List (Option Rw)) (n : Nat) : liveUp slots (n + 1) = if isLive slots n then liveUp slots n ++ [(n : Int)] else liveUp slots n := by
  unfold liveUp
  rw [List.range_succ, List.filter_append, List.map_append]
  cases h : isLive slots n
  · simp [List.filter, h]
  · simp [List.filter, h]
theorem liveUp_len (slots : List (Option Rw)) (n : Nat) : (liveUp slots n).length ≤ n := by
  unfold liveUp
  rw [List.length_map]
  exact Nat.le_trans (List.length_filter_le _ _) (by rw [List.length_range]; exact Nat.le_refl _)
def cntO (k : Nat) : Option Rw → Nat
  | none => 0
  | some row => row.count (some k)
/-- how many slots hold k -/
def useC (slots : List (Option Rw)) (k : Nat) : Nat := (slots.map (cntO k)).sum
def useL (slots : List (Option Rw)) : List Int := (List.range slots.length).map fun k => (useC slots k : Int)
def countV (slots : List (Option Rw)) (outs : List Int) (m : Nat) : V := if isLive slots m then .int ((outs[m]?).getD 0 + useC slots m) else .non
def countsV (slots : List (Option Rw)) (outs : List Int) : List V := (List.range slots.length).map (countV slots outs)
section
variable {P : Program} {w : World} {K : PySem.W.Frag} {mg : Str → Option Value} {base : Heap}
def spLive (K : PySem.W.Frag) : Sp := fun vs H Q _ => ∃ (D : Addr) (slots : List (Option Rw)) (outs : List Int), vs = [.ref D] ∧ HeapT K H D slots outs ∧ Wf slots outs ∧
  ∀ p H', H p = none → Kx [] H H' → H' p = some (.lst ((liveUp slots slots.length).map V.int)) → Q (.ref p) H'
theorem ok_live {f : Addr} {fd : FuncData} (F : Fun K "live_nodes" "live_nodes" sLiveNodes f fd) (T : Txt mg) : FnOk P w K mg base CX0 1 f fd ["heap"] (spLive K) := by
  refine F.ok scLiveNodes (fun vs H Q E h => ?_) (fun cdv A outer s H vs Q E hr h => ?_)
  · obtain ⟨D, slots, outs, rfl, _⟩ := h
    rfl
  · obtain ⟨D, slots, outs, rfl, ⟨S, O, vs, hD, hS, hO, hl, hv⟩, wf, k⟩ := h
    refine ⟨_, (pss_one (ps_ret (pe_lc (own := [("node", 1), ("row", 2)]) rfl scLiveNodes.nd (pi_enumT (by rfl) T.b_enumerate (pa_cons (pe_ix ix_tup (pv 0) pe_int (fun _ _ => rfl)) pa_nil)) (blkOk_by (N := ["heap", "node", "row"]) (sc := defScope sLiveNodes) (by decide +kernel)) (fun _ _ _ _ _ => (pg_tupK (K := K) (n := 2) rfl rfl (pgs_cons (pg_name (i := 1) scLiveNodes.nd rfl (Or.inl rfl)) (pgs_cons (pg_name (i := 2) scLiveNodes.nd rfl (Or.inl rfl)) pgs_nil)))) (fun _ _ _ _ _ => (pts_one (pt_cmpR op_notN1 (pv 2) pe_non (nomark _)))) (fun _ _ _ _ _ => (pv 1))))), ?_⟩
    refine x_start (σ' := [some (.ref D), none, none]) rfl ?_
    dsimp only [cxOf]
    repeat walk_at "rd"
    refine y_lcET (xs := vs) hS (fun Z nZ => ⟨fun i H1 => Kx [] H H1 ∧ H1 Z = some (.lst ((liveUp slots i).map V.int)), ⟨(Kx.refl _ _).new nZ, upd_same⟩, ?_, ?_, ?_⟩)
    · rintro i H1 hi ⟨k1, _⟩
      exact k1.sqT (by simp) hS
    · rintro i x H1 H1' hi ⟨k1, e1⟩ ⟨U, x1, x2, rfl, nU, rfl, f1, f2⟩
      cases f1
      have nUZ : Z ≠ U := ne_of_none e1 nU
      have h40 := wf.most
      repeat walk_at "rd"
      refine ⟨rfl, ?_⟩
      have hs : i < slots.length := by omega
      repeat walk_at "rd"
      have es := List.getElem?_eq_getElem hs
      have hlen := liveUp_len slots i
      rcases hv i _ es with ⟨e, z⟩ | ⟨r, row, e, z, _⟩
      · cases Option.some.inj (z.symm.trans f2)
        refine iteF ⟨(k1.new nU), ?_⟩
        rw [liveUp_succ, if_neg (by simp [isLive, es, e])]
        exact lk_ne e1 nU
      · cases Option.some.inj (z.symm.trans f2)
        refine iteT ?_
        repeat walk_at "rd"
        refine ⟨_, lk_ne e1 nU, small1000 (by rw [List.length_map]; omega), (k1.new nU).wr (.inl nZ), ?_⟩
        rw [upd_same, liveUp_succ, if_pos (by simp [isLive, es, e]), List.map_append]
        rfl
    · rintro H1 ⟨k1, e1⟩
      rw [hl] at e1
      exact k Z H1 nZ k1 e1
end

/-! ### the machine, as a function of plain data -/
def rowOf (slots : List (Option Rw)) (h : Nat) : Rw := ((slots[h]?).getD none).getD []
theorem rowOf_some {slots : List (Option Rw)} {h : Nat} {row : Rw} (e : slots[h]? = some (some row)) : rowOf slots h = row := by simp [rowOf, e]
theorem live_lt {slots : List (Option Rw)} {m : Nat} (h : isLive slots m = true) : ∃ row, slots[m]? = some (some row) ∧ m < slots.length := by
  unfold isLive at h
  cases e : slots[m]? with
  | none => rw [e] at h; cases h
  | some o =>
    cases o with
    | none => rw [e] at h; cases h
    | some row => exact ⟨row, rfl, (List.getElem?_eq_some_iff.mp e).1⟩
/-- a release that waits: holder and slot that held the node, its depth -/
structure Pd where
  holder : Option Nat
  slot : Option Nat
  node : Nat
  depth : Nat
inductive Ev
  | release (holder slot : Option Nat) (node : Nat) (left : Int)
  | destroy (node depth : Nat)
  | shelve (node size : Nat)
  | take (node size : Nat)
def Ev.dead : Ev → Option Nat
  | .destroy n _ => some n
  | _ => none
def Ev.size : Ev → Option Int
  | .shelve _ k => some k
  | _ => none
structure FS where
  pend : List Pd
  shelf : List Nat
  evs : List Ev
def FS.log (s : FS) : List Nat := s.evs.filterMap Ev.dead
section
variable (slots : List (Option Rw)) (outs : List Int)
def cntH (log : List Nat) (m : Nat) : Nat := ((List.range slots.length).map fun h => if h ∈ log then 0 else (rowOf slots h).count (some m)).sum
def pendC (p : List Pd) (m : Nat) : Nat := (p.map (·.node)).count m
def tal (log : List Nat) (pend : List Pd) (m : Nat) : Int := (outs[m]?).getD 0 + cntH slots log m + pendC pend m
def kidsAt (n d : Nat) : Nat → Rw → List Pd
  | _, [] => []
  | j, none :: r => kidsAt n d (j + 1) r
  | j, some m :: r => ⟨some n, some j, m, d⟩ :: kidsAt n d (j + 1) r
def kids (n d : Nat) : List Pd := kidsAt n d 0 (rowOf slots n)
def stepF (lim : Int) (s : FS) : Option FS :=
  match s.pend with
  | p :: rest =>
    if 0 < tal slots outs s.log rest p.node then some ⟨rest, s.shelf, s.evs ++ [.release p.holder p.slot p.node (tal slots outs s.log rest p.node)]⟩
    else if (p.depth : Int) < lim then some ⟨kids slots p.node (p.depth + 1) ++ rest, s.shelf, s.evs ++ [.release p.holder p.slot p.node (tal slots outs s.log rest p.node), .destroy p.node p.depth]⟩
    else some ⟨rest, s.shelf ++ [p.node], s.evs ++ [.release p.holder p.slot p.node (tal slots outs s.log rest p.node), .shelve p.node (s.shelf.length + 1)]⟩
  | [] => match s.shelf.getLast? with
    | none => none
    | some n => some ⟨kids slots n 1, s.shelf.dropLast, s.evs ++ [.take n s.shelf.dropLast.length, .destroy n 0]⟩
def run (lim : Int) : Nat → FS → Option FS
  | 0, s => some s
  | n + 1, s => (run lim n s).bind (stepF slots outs lim)
/-- s' is reached from s -/
def Steps (lim : Int) (s s' : FS) : Prop := ∃ n, run slots outs lim n s = some s'
end
section
variable {slots : List (Option Rw)} {outs : List Int} {lim : Int}
theorem Steps.refl (s : FS) : Steps slots outs lim s s := ⟨0, rfl⟩
theorem Steps.tail {s t u : FS} (h : Steps slots outs lim s t) (e : stepF slots outs lim t = some u) : Steps slots outs lim s u := by
  obtain ⟨n, hn⟩ := h
  exact ⟨n + 1, by show (run slots outs lim n s).bind _ = _; rw [hn]; exact e⟩
theorem run_past {s t : FS} {n : Nat} (h : run slots outs lim n s = some t) (e : stepF slots outs lim t = none) : ∀ k, run slots outs lim (n + 1 + k) s = none
  | 0 => by show (run slots outs lim n s).bind _ = none; rw [h]; exact e
  | k + 1 => by
    show (run slots outs lim (n + 1 + k) s).bind _ = none
    rw [run_past h e k]
    rfl
/-- where it ends is told -/
theorem Steps.det {s t u : FS} (h : Steps slots outs lim s t) (e : stepF slots outs lim t = none) (h' : Steps slots outs lim s u) (e' : stepF slots outs lim u = none) : t = u := by
  obtain ⟨n, hn⟩ := h
  obtain ⟨m, hm⟩ := h'
  rcases Nat.lt_trichotomy n m with l | l | l
  · have := run_past hn e (m - (n + 1))
    rw [show n + 1 + (m - (n + 1)) = m by omega, hm] at this
    cases this
  · subst l
    rw [hn] at hm
    exact Option.some.inj hm
  · have := run_past hm e' (n - (m + 1))
    rw [show m + 1 + (n - (m + 1)) = n by omega, hn] at this
    cases this
theorem Steps.trans {s t u : FS} (h : Steps slots outs lim s t) (h' : Steps slots outs lim t u) : Steps slots outs lim s u := by
  obtain ⟨m, hm⟩ := h'
  induction m generalizing u with
  | zero => cases Option.some.inj (hm : some t = some u); exact h
  | succ m ih =>
    have hm : (run slots outs lim m t).bind (stepF slots outs lim) = some u := hm
    cases e : run slots outs lim m t with
    | none => rw [e] at hm; cases hm
    | some v => rw [e] at hm; exact (ih e).tail hm
theorem kidsAt_count (n d m : Nat) : ∀ (r : Rw) (j : Nat), pendC (kidsAt n d j r) m = r.count (some m)
  | [], _ => rfl
  | none :: r, j => by
    show pendC (kidsAt n d (j + 1) r) m = _
    rw [kidsAt_count n d m r, List.count_cons]
    simp
  | some k :: r, j => by
    have ih := kidsAt_count n d m r (j + 1)
    unfold pendC at ih ⊢
    show ((⟨some n, some j, k, d⟩ :: kidsAt n d (j + 1) r : List Pd).map (·.node)).count m = _
    rw [List.map_cons, List.count_cons, List.count_cons, ih]
    by_cases e : k = m <;> simp [e]
theorem kidsAt_mem {n d : Nat} : ∀ {r : Rw} {j : Nat} {p : Pd}, p ∈ kidsAt n d j r → some p.node ∈ r
  | [], _, _, h => by cases h
  | none :: r, j, p, h => List.mem_cons_of_mem _ (kidsAt_mem (r := r) (j := j + 1) h)
  | some k :: r, j, p, h => by
    rcases List.mem_cons.mp (show p ∈ (⟨some n, some j, k, d⟩ :: kidsAt n d (j + 1) r : List Pd) from h) with e | h
    · rw [e]
      exact List.mem_cons_self
    · exact List.mem_cons_of_mem _ (kidsAt_mem h)
theorem kidsAt_len (n d : Nat) : ∀ (r : Rw) (j : Nat), (kidsAt n d j r).length ≤ r.length
  | [], _ => Nat.le_refl _
  | none :: r, j => Nat.le_succ_of_le (kidsAt_len n d r (j + 1))
  | some k :: r, j => Nat.succ_le_succ (kidsAt_len n d r (j + 1))
theorem pendC_app (a b : List Pd) (m : Nat) : pendC (a ++ b) m = pendC a m + pendC b m := by
  unfold pendC
  rw [List.map_append, List.count_append]
theorem pendC_cons (p : Pd) (b : List Pd) (m : Nat) : pendC (p :: b) m = pendC b m + if p.node = m then 1 else 0 := by
  unfold pendC
  rw [List.map_cons, List.count_cons]
  by_cases e : p.node = m <;> simp [e]
theorem sum_drop1 {f g : Nat → Nat} {n N : Nat} (hn : n < N) (hg : g n = 0) (he : ∀ h, h ≠ n → g h = f h) : ((List.range N).map g).sum + f n = ((List.range N).map f).sum := by
  induction N with
  | zero => omega
  | succ N ih =>
    rw [List.range_succ, List.map_append, List.map_append, List.sum_append, List.sum_append]
    simp only [List.map_cons, List.map_nil, List.sum_cons, List.sum_nil, Nat.add_zero]
    by_cases e : n = N
    · subst e
      have : (List.range n).map g = (List.range n).map f := List.map_congr_left fun h hh => he h (Nat.ne_of_lt (List.mem_range.mp hh))
      rw [this, hg]
      omega
    · have := ih (by omega)
      rw [he N (Ne.symm e)]
      omega
theorem cntH_dead {log : List Nat} {n : Nat} (hn : n < slots.length) (hl : n ∉ log) (m : Nat) : cntH slots (log ++ [n]) m + (rowOf slots n).count (some m) = cntH slots log m := by
  have := sum_drop1 (f := fun h => if h ∈ log then 0 else (rowOf slots h).count (some m)) (g := fun h => if h ∈ log ++ [n] then 0 else (rowOf slots h).count (some m)) hn (by simp) (fun h e => by
    have : (h ∈ log ++ [n]) ↔ h ∈ log := by simp [e]
    simp only [this])
  simp only [if_neg hl] at this
  exact this
theorem tal_pop (log : List Nat) (p : Pd) (rest : List Pd) (m : Nat) : tal slots outs log (p :: rest) m = tal slots outs log rest m + if p.node = m then 1 else 0 := by
  unfold tal
  rw [pendC_cons]
  by_cases e : p.node = m
  · simp only [e, if_true]
    omega
  · simp only [e, if_false]
    omega
theorem tal_dead {log : List Nat} {n : Nat} (hn : n < slots.length) (hl : n ∉ log) (d : Nat) (rest : List Pd) (m : Nat) : tal slots outs (log ++ [n]) (kids slots n d ++ rest) m = tal slots outs log rest m := by
  have h1 := cntH_dead (slots := slots) hn hl m
  have h2 := kidsAt_count n d m (rowOf slots n) 0
  unfold tal
  rw [pendC_app, show pendC (kids slots n d) m = (rowOf slots n).count (some m) from h2]
  omega
theorem tal_nonneg (ho : ∀ z ∈ outs, 0 ≤ z) (log : List Nat) (pend : List Pd) (m : Nat) : (pendC pend m : Int) ≤ tal slots outs log pend m := by
  have : 0 ≤ (outs[m]?).getD 0 := by
    cases e : outs[m]? with
    | none => exact Int.le_refl 0
    | some z => exact ho z (List.mem_of_getElem? e)
  unfold tal
  omega
/-- what holds of every state -/
structure SOk (slots : List (Option Rw)) (outs : List Int) (s : FS) : Prop where
  pl : ∀ p ∈ s.pend, isLive slots p.node = true
  nd : (s.log ++ s.shelf).Nodup
  z : ∀ n ∈ s.log ++ s.shelf, tal slots outs s.log s.pend n = 0
  lv : ∀ n ∈ s.log ++ s.shelf, isLive slots n = true
theorem kids_live (wl : ∀ row, some row ∈ slots → ∀ k, some k ∈ row → ∃ r, slots[k]? = some (some r)) {n d : Nat} (hl : isLive slots n = true) : ∀ p ∈ kids slots n d, isLive slots p.node = true := by
  intro p hp
  obtain ⟨row, e, _⟩ := live_lt hl
  have h := kidsAt_mem hp
  rw [rowOf_some e] at h
  obtain ⟨r, er⟩ := wl row (List.mem_of_getElem? e) _ h
  simp [isLive, er]
theorem SOk.new {s : FS} (o : SOk slots outs s) (ho : ∀ z ∈ outs, 0 ≤ z) {p : Pd} {rest : List Pd} (hp : s.pend = p :: rest) : p.node ∉ s.log ++ s.shelf := by
  intro h
  have h1 := o.z _ h
  have h2 := tal_nonneg (slots := slots) ho s.log s.pend p.node
  rw [hp, pendC_cons] at h2
  rw [hp] at h1
  simp only [if_true] at h2
  omega
theorem nodup_snoc {a b : List Nat} {n : Nat} (h : (a ++ b).Nodup) (hn : n ∉ a ++ b) : ((a ++ [n]) ++ b).Nodup ∧ (a ++ (b ++ [n])).Nodup := by
  have p1 : ((a ++ [n]) ++ b).Perm (n :: (a ++ b)) := by
    rw [List.append_assoc]
    exact List.perm_middle
  have p2 : (a ++ (b ++ [n])).Perm (n :: (a ++ b)) := by
    rw [← List.append_assoc]
    exact List.perm_append_comm
  have h2 : (n :: (a ++ b)).Nodup := List.nodup_cons.mpr ⟨hn, h⟩
  exact ⟨p1.symm.nodup h2, p2.symm.nodup h2⟩
theorem log_app (a b : List Ev) : (⟨[], [], a ++ b⟩ : FS).log = (⟨[], [], a⟩ : FS).log ++ (⟨[], [], b⟩ : FS).log := List.filterMap_append
theorem SOk.step {s s' : FS} (o : SOk slots outs s) (ho : ∀ z ∈ outs, 0 ≤ z) (wl : ∀ row, some row ∈ slots → ∀ k, some k ∈ row → ∃ r, slots[k]? = some (some r)) (e : stepF slots outs lim s = some s') : SOk slots outs s' := by
  cases hp : s.pend with
  | nil =>
    unfold stepF at e
    rw [hp] at e
    simp only at e
    cases hs : s.shelf.getLast? with
    | none => rw [hs] at e; cases e
    | some n =>
      rw [hs] at e
      cases Option.some.inj e
      have hsp : s.shelf = s.shelf.dropLast ++ [n] := by
        obtain ⟨ys, hy⟩ := List.getLast?_eq_some_iff.mp hs
        rw [hy, List.dropLast_concat]
      have hlog : FS.log ⟨kids slots n 1, s.shelf.dropLast, s.evs ++ [.take n s.shelf.dropLast.length, .destroy n 0]⟩ = s.log ++ [n] := by
        unfold FS.log
        rw [List.filterMap_append]
        rfl
      have hmem : n ∈ s.log ++ s.shelf := by rw [hsp]; simp
      have hlv := o.lv n hmem
      obtain ⟨_, _, hlt⟩ := live_lt hlv
      have hnd := o.nd
      rw [hsp] at hnd
      have hnl : n ∉ s.log := fun h => (List.nodup_append.mp hnd).2.2 n h n (by simp) rfl
      have hsub : ∀ m, m ∈ (s.log ++ [n]) ++ s.shelf.dropLast → m ∈ s.log ++ s.shelf := by
        intro m hm
        rw [hsp]
        simp only [List.mem_append, List.mem_singleton] at hm ⊢
        rcases hm with (h | h) | h
        · exact .inl h
        · exact .inr (.inr h)
        · exact .inr (.inl h)
      refine ⟨kids_live wl hlv, ?_, fun m hm => ?_, fun m hm => ?_⟩
      · rw [hlog]
        show ((s.log ++ [n]) ++ s.shelf.dropLast).Nodup
        have hnd2 : (s.log ++ s.shelf.dropLast ++ [n]).Nodup := by rwa [List.append_assoc]
        have hn2 : n ∉ s.log ++ s.shelf.dropLast := fun h => (List.nodup_append.mp hnd2).2.2 n h n (by simp) rfl
        exact (nodup_snoc (List.nodup_append.mp hnd2).1 hn2).1
      · rw [hlog] at hm ⊢
        show tal slots outs (s.log ++ [n]) (kids slots n 1) m = 0
        have := tal_dead (slots := slots) (outs := outs) hlt hnl 1 [] m
        rw [List.append_nil] at this
        rw [this, ← hp]
        exact o.z m (hsub m hm)
      · rw [hlog] at hm
        exact o.lv m (hsub m hm)
  | cons p rest =>
    have hn := o.new ho hp
    have hl := o.pl p (by rw [hp]; exact List.mem_cons_self)
    obtain ⟨_, _, hlt⟩ := live_lt hl
    have hrest : ∀ q ∈ rest, isLive slots q.node = true := fun q hq => o.pl q (by rw [hp]; exact List.mem_cons_of_mem _ hq)
    have hz : ∀ m ∈ s.log ++ s.shelf, tal slots outs s.log rest m = 0 := by
      intro m hm
      have h1 := o.z m hm
      rw [hp, tal_pop, if_neg (fun e => hn (by rw [e]; exact hm))] at h1
      omega
    have hge : 0 ≤ tal slots outs s.log rest p.node := by
      have := tal_nonneg (slots := slots) ho s.log rest p.node
      omega
    unfold stepF at e
    rw [hp] at e
    simp only at e
    by_cases h0 : 0 < tal slots outs s.log rest p.node
    · rw [if_pos h0] at e
      cases Option.some.inj e
      have hlog : FS.log ⟨rest, s.shelf, s.evs ++ [.release p.holder p.slot p.node (tal slots outs s.log rest p.node)]⟩ = s.log := by
        unfold FS.log
        rw [List.filterMap_append]
        exact List.append_nil _
      exact ⟨hrest, by rw [hlog]; exact o.nd, fun m hm => by rw [hlog] at hm ⊢; exact hz m hm, fun m hm => by rw [hlog] at hm; exact o.lv m hm⟩
    · rw [if_neg h0] at e
      have hzero : tal slots outs s.log rest p.node = 0 := by omega
      by_cases hd : (p.depth : Int) < lim
      · rw [if_pos hd] at e
        cases Option.some.inj e
        have hlog : FS.log ⟨kids slots p.node (p.depth + 1) ++ rest, s.shelf, s.evs ++ [.release p.holder p.slot p.node (tal slots outs s.log rest p.node), .destroy p.node p.depth]⟩ = s.log ++ [p.node] := by
          unfold FS.log
          rw [List.filterMap_append]
          rfl
        have hnl : p.node ∉ s.log := fun h => hn (List.mem_append_left _ h)
        have hsplit : ∀ m, m ∈ (s.log ++ [p.node]) ++ s.shelf → m = p.node ∨ m ∈ s.log ++ s.shelf := by
          intro m hm
          simp only [List.mem_append, List.mem_singleton] at hm ⊢
          rcases hm with (h | h) | h
          · exact .inr (.inl h)
          · exact .inl h
          · exact .inr (.inr h)
        refine ⟨fun q hq => ?_, by rw [hlog]; exact (nodup_snoc o.nd hn).1, fun m hm => ?_, fun m hm => ?_⟩
        · rcases List.mem_append.mp hq with hq | hq
          · exact kids_live wl hl q hq
          · exact hrest q hq
        · rw [hlog] at hm ⊢
          show tal slots outs (s.log ++ [p.node]) (kids slots p.node (p.depth + 1) ++ rest) m = 0
          rw [tal_dead hlt hnl]
          rcases hsplit m hm with rfl | h
          · exact hzero
          · exact hz m h
        · rw [hlog] at hm
          rcases hsplit m hm with rfl | h
          · exact hl
          · exact o.lv m h
      · rw [if_neg hd] at e
        cases Option.some.inj e
        have hlog : FS.log ⟨rest, s.shelf ++ [p.node], s.evs ++ [.release p.holder p.slot p.node (tal slots outs s.log rest p.node), .shelve p.node (s.shelf.length + 1)]⟩ = s.log := by
          unfold FS.log
          rw [List.filterMap_append]
          exact List.append_nil _
        have hsplit : ∀ m, m ∈ s.log ++ (s.shelf ++ [p.node]) → m = p.node ∨ m ∈ s.log ++ s.shelf := by
          intro m hm
          simp only [List.mem_append, List.mem_singleton] at hm ⊢
          rcases hm with h | h | h
          · exact .inr (.inl h)
          · exact .inr (.inr h)
          · exact .inl h
        refine ⟨hrest, by rw [hlog]; exact (nodup_snoc o.nd hn).2, fun m hm => ?_, fun m hm => ?_⟩
        · rw [hlog] at hm ⊢
          rcases hsplit m hm with rfl | h
          · exact hzero
          · exact hz m h
        · rw [hlog] at hm
          rcases hsplit m hm with rfl | h
          · exact hl
          · exact o.lv m h
theorem SOk.steps {s s' : FS} (o : SOk slots outs s) (ho : ∀ z ∈ outs, 0 ≤ z) (wl : ∀ row, some row ∈ slots → ∀ k, some k ∈ row → ∃ r, slots[k]? = some (some r)) (h : Steps slots outs lim s s') : SOk slots outs s' := by
  obtain ⟨n, hn⟩ := h
  induction n generalizing s' with
  | zero => cases Option.some.inj (hn : some s = some s'); exact o
  | succ n ih =>
    have hn : (run slots outs lim n s).bind (stepF slots outs lim) = some s' := hn
    cases e : run slots outs lim n s with
    | none => rw [e] at hn; cases hn
    | some v => rw [e] at hn; exact (ih e).step ho wl hn
/-- what is left to do -/
def left (slots : List (Option Rw)) (log : List Nat) : Nat := ((List.range slots.length).map fun h => if h ∈ log then 0 else (rowOf slots h).length + 2).sum
theorem left_dead {log : List Nat} {n : Nat} (hn : n < slots.length) (hl : n ∉ log) : left slots (log ++ [n]) + ((rowOf slots n).length + 2) = left slots log := by
  have := sum_drop1 (f := fun h => if h ∈ log then 0 else (rowOf slots h).length + 2) (g := fun h => if h ∈ log ++ [n] then 0 else (rowOf slots h).length + 2) hn (by simp) (fun h e => by
    have : (h ∈ log ++ [n]) ↔ h ∈ log := by simp [e]
    simp only [this])
  simp only [if_neg hl] at this
  exact this
def FS.mu (slots : List (Option Rw)) (s : FS) : Nat := left slots s.log + s.pend.length
end

theorem step_mu {slots : List (Option Rw)} {outs : List Int} {lim : Int} {s s' : FS} (o : SOk slots outs s) (ho : ∀ z ∈ outs, 0 ≤ z) (e : stepF slots outs lim s = some s') : s'.mu slots < s.mu slots ∧ s'.evs.length ≤ s.evs.length + 2 := by
  cases hp : s.pend with
  | nil =>
    unfold stepF at e
    rw [hp] at e
    simp only at e
    cases hs : s.shelf.getLast? with
    | none => rw [hs] at e; cases e
    | some n =>
      rw [hs] at e
      cases Option.some.inj e
      have hsp : s.shelf = s.shelf.dropLast ++ [n] := by
        obtain ⟨ys, hy⟩ := List.getLast?_eq_some_iff.mp hs
        rw [hy, List.dropLast_concat]
      have hlog : FS.log ⟨kids slots n 1, s.shelf.dropLast, s.evs ++ [.take n s.shelf.dropLast.length, .destroy n 0]⟩ = s.log ++ [n] := by
        unfold FS.log
        rw [List.filterMap_append]
        rfl
      have hmem : n ∈ s.log ++ s.shelf := by rw [hsp]; simp
      obtain ⟨_, _, hlt⟩ := live_lt (o.lv n hmem)
      have hnd := o.nd
      rw [hsp] at hnd
      have hnl : n ∉ s.log := fun h => (List.nodup_append.mp hnd).2.2 n h n (by simp) rfl
      have h1 := left_dead (slots := slots) hlt hnl
      have h2 := kidsAt_len n 1 (rowOf slots n) 0
      unfold FS.mu
      rw [hlog, hp]
      refine ⟨?_, by simp⟩
      show left slots (s.log ++ [n]) + (kids slots n 1).length < left slots s.log + 0
      unfold kids
      omega
  | cons p rest =>
    have hn := o.new ho hp
    have hl := o.pl p (by rw [hp]; exact List.mem_cons_self)
    obtain ⟨_, _, hlt⟩ := live_lt hl
    unfold stepF at e
    rw [hp] at e
    simp only at e
    by_cases h0 : 0 < tal slots outs s.log rest p.node
    · rw [if_pos h0] at e
      cases Option.some.inj e
      have hlog : FS.log ⟨rest, s.shelf, s.evs ++ [.release p.holder p.slot p.node (tal slots outs s.log rest p.node)]⟩ = s.log := by
        unfold FS.log
        rw [List.filterMap_append]
        exact List.append_nil _
      unfold FS.mu
      rw [hlog, hp]
      exact ⟨by show _ + rest.length < _ + (rest.length + 1); omega, by simp⟩
    · rw [if_neg h0] at e
      by_cases hd : (p.depth : Int) < lim
      · rw [if_pos hd] at e
        cases Option.some.inj e
        have hlog : FS.log ⟨kids slots p.node (p.depth + 1) ++ rest, s.shelf, s.evs ++ [.release p.holder p.slot p.node (tal slots outs s.log rest p.node), .destroy p.node p.depth]⟩ = s.log ++ [p.node] := by
          unfold FS.log
          rw [List.filterMap_append]
          rfl
        have hnl : p.node ∉ s.log := fun h => hn (List.mem_append_left _ h)
        have h1 := left_dead (slots := slots) hlt hnl
        have h2 := kidsAt_len p.node (p.depth + 1) (rowOf slots p.node) 0
        unfold FS.mu
        rw [hlog, hp]
        refine ⟨?_, by simp⟩
        show left slots (s.log ++ [p.node]) + (kids slots p.node (p.depth + 1) ++ rest).length < left slots s.log + (rest.length + 1)
        rw [List.length_append]
        unfold kids
        omega
      · rw [if_neg hd] at e
        cases Option.some.inj e
        have hlog : FS.log ⟨rest, s.shelf ++ [p.node], s.evs ++ [.release p.holder p.slot p.node (tal slots outs s.log rest p.node), .shelve p.node (s.shelf.length + 1)]⟩ = s.log := by
          unfold FS.log
          rw [List.filterMap_append]
          exact List.append_nil _
        unfold FS.mu
        rw [hlog, hp]
        exact ⟨by show _ + rest.length < _ + (rest.length + 1); omega, by simp⟩
theorem big_line {n : Nat} (h : n ≤ 1000000) : n < sizeLine := by rw [sizeLine_eq]; omega
/-! ### tuples in a list -/
structure TupsAt (H : Hp) (ts : List Addr) (vss : List (List V)) : Prop where
  len : ts.length = vss.length
  at_ : ∀ (j : Nat) (vs : List V), vss[j]? = some vs → ∃ t, ts[j]? = some t ∧ H t = some (.tup vs)
theorem TupsAt.nil {H : Hp} : TupsAt H [] [] := ⟨rfl, fun j vs h => by simp at h⟩
theorem TupsAt.kx {S : List Addr} {H H' : Hp} {ts : List Addr} {vss : List (List V)} (h : TupsAt H ts vss) (k : Kx S H H') (l : ∀ b ∈ S, ∃ ys : List V, H b = some (.lst ys)) : TupsAt H' ts vss := by
  refine ⟨h.len, fun j vs hj => ?_⟩
  obtain ⟨t, e1, e2⟩ := h.at_ j vs hj
  exact ⟨t, e1, k t _ (fun z => by obtain ⟨ys, e⟩ := l t z; rw [e2] at e; cases e) e2⟩
theorem TupsAt.wr {H : Hp} {a : Addr} {ys : List V} {o : HO} {ts : List Addr} {vss : List (List V)} (h : TupsAt H ts vss) (l : H a = some (.lst ys)) : TupsAt (upd H a o) ts vss := by
  refine ⟨h.len, fun j vs hj => ?_⟩
  obtain ⟨t, e1, e2⟩ := h.at_ j vs hj
  exact ⟨t, e1, lk_ne2 (fun z => by rw [z, l] at e2; cases e2) e2⟩
theorem TupsAt.new {H : Hp} {a : Addr} {o : HO} {ts : List Addr} {vss : List (List V)} (h : TupsAt H ts vss) (n : H a = none) : TupsAt (upd H a o) ts vss := by
  refine ⟨h.len, fun j vs hj => ?_⟩
  obtain ⟨t, e1, e2⟩ := h.at_ j vs hj
  exact ⟨t, e1, lk_ne e2 n⟩
theorem TupsAt.snoc {H : Hp} {ts : List Addr} {vss : List (List V)} (h : TupsAt H ts vss) {t : Addr} {vs : List V} (e : H t = some (.tup vs)) : TupsAt H (ts ++ [t]) (vss ++ [vs]) := by
  refine ⟨by rw [List.length_append, List.length_append, h.len]; rfl, fun j us hj => ?_⟩
  by_cases hl : j < vss.length
  · rw [List.getElem?_append_left hl] at hj
    rw [List.getElem?_append_left (by rw [h.len]; exact hl)]
    exact h.at_ j us hj
  · rw [List.getElem?_append_right (by omega)] at hj
    rw [List.getElem?_append_right (by rw [h.len]; omega), h.len]
    cases e2 : j - vss.length with
    | zero =>
      rw [e2] at hj
      cases Option.some.inj (hj : some vs = some us)
      exact ⟨t, rfl, e⟩
    | succ k => rw [e2] at hj; cases hj
theorem TupsAt.last {H : Hp} {ts : List Addr} {vss : List (List V)} {vs : List V} (h : TupsAt H ts (vss ++ [vs])) : ∃ ts' t, ts = ts' ++ [t] ∧ H t = some (.tup vs) ∧ TupsAt H ts' vss := by
  have hl := h.len
  rw [List.length_append] at hl
  rcases List.eq_nil_or_concat ts with rfl | ⟨ts', t, e⟩
  · exact absurd hl (Nat.ne_of_lt (Nat.succ_pos _))
  · rw [List.concat_eq_append] at e
    subst e
    rw [List.length_append] at hl
    have hl2 : ts'.length = vss.length := by
      have : [t].length = [vs].length := rfl
      omega
    obtain ⟨t2, e1, e2⟩ := h.at_ vss.length vs (by rw [List.getElem?_append_right (Nat.le_refl _), Nat.sub_self]; rfl)
    rw [← hl2, List.getElem?_append_right (Nat.le_refl _), Nat.sub_self] at e1
    cases Option.some.inj (e1 : some t = some t2)
    refine ⟨ts', t, rfl, e2, hl2, fun j us hj => ?_⟩
    have hjl := (List.getElem?_eq_some_iff.mp hj).1
    obtain ⟨t3, f1, f2⟩ := h.at_ j us (by rw [List.getElem?_append_left hjl]; exact hj)
    rw [List.getElem?_append_left (by rw [hl2]; exact hjl)] at f1
    exact ⟨t3, f1, f2⟩
/-! ### the machine in the heap -/
def optV : Option Nat → V
  | none => .non
  | some n => .int n
def pdV (p : Pd) : List V := [optV p.holder, optV p.slot, .int p.node, .int p.depth]
def evV : Ev → List V
  | .release h s n l => [.str "release", optV h, optV s, .int n, .int l]
  | .destroy n d => [.str "destroy", .int n, .int d]
  | .shelve n k => [.str "shelve", .int n, .int k]
  | .take n k => [.str "take", .int n, .int k]
def mf (aS aO aR : Addr) (lim : Int) (aE aH aV : Addr) : List (Str × V) := [("slots", .ref aS), ("outside", .ref aO), ("references", .ref aR), ("limit", .int lim), ("emptied", .ref aE), ("shelf", .ref aH), ("events", .ref aV)]
section
variable (aS aO aR : Addr) (lim : Int) (aE aH aV : Addr)
theorem mf_slots : List.lookup ("slots" : Str) (mf aS aO aR lim aE aH aV) = some (V.ref aS) := by with_unfolding_all rfl
theorem mf_outside : List.lookup ("outside" : Str) (mf aS aO aR lim aE aH aV) = some (V.ref aO) := by with_unfolding_all rfl
theorem mf_references : List.lookup ("references" : Str) (mf aS aO aR lim aE aH aV) = some (V.ref aR) := by with_unfolding_all rfl
theorem mf_limit : List.lookup ("limit" : Str) (mf aS aO aR lim aE aH aV) = some (V.int lim) := by with_unfolding_all rfl
theorem mf_emptied : List.lookup ("emptied" : Str) (mf aS aO aR lim aE aH aV) = some (V.ref aE) := by with_unfolding_all rfl
theorem mf_shelf : List.lookup ("shelf" : Str) (mf aS aO aR lim aE aH aV) = some (V.ref aH) := by with_unfolding_all rfl
theorem mf_events : List.lookup ("events" : Str) (mf aS aO aR lim aE aH aV) = some (V.ref aV) := by with_unfolding_all rfl
theorem mf_release : List.lookup ("_release" : Str) (mf aS aO aR lim aE aH aV) = none := by with_unfolding_all rfl
theorem mf_release_all : List.lookup ("_release_all" : Str) (mf aS aO aR lim aE aH aV) = none := by with_unfolding_all rfl
theorem mf_destroy : List.lookup ("_destroy" : Str) (mf aS aO aR lim aE aH aV) = none := by with_unfolding_all rfl
theorem mf_drop : List.lookup ("drop" : Str) (mf aS aO aR lim aE aH aV) = none := by with_unfolding_all rfl
theorem mf_result : List.lookup ("result" : Str) (mf aS aO aR lim aE aH aV) = none := by with_unfolding_all rfl
end
/-- the class -/
structure ClR (K : PySem.W.Frag) (C : Addr) : Prop where
  cl : Cls K C
  n_slots : NoAttr K C "slots"
  n_outside : NoAttr K C "outside"
  n_references : NoAttr K C "references"
  n_limit : NoAttr K C "limit"
  n_emptied : NoAttr K C "emptied"
  n_shelf : NoAttr K C "shelf"
  n_events : NoAttr K C "events"
/-- its places: what never changes -/
structure MS (slots : List (Option Rw)) (C : Addr) (H1 : Hp) (p dx aS aO aR aE aH aV : Addr) (ra : Nat → Addr) (lim : Int) : Prop where
  ins : H1 p = some (.ins C dx (mf aS aO aR lim aE aH aV))
  rows : ∀ (i : Nat) (row : Rw), slots[i]? = some (some row) → H1 (ra i) = some (.lst (rowV row)) ∧ ra i ∉ [aS, aO, aR, aE, aH, aV]
  dis : [aS, aO, aR, aE, aH, aV].Nodup
  pW : p ∉ [aS, aO, aR, aE, aH, aV]
  inj : ∀ (i j : Nat) (r r' : Rw), slots[i]? = some (some r) → slots[j]? = some (some r') → ra i = ra j → i = j
def slotR (slots : List (Option Rw)) (ra : Nat → Addr) (log : List Nat) (i : Nat) : V := if isLive slots i = true ∧ i ∉ log then .ref (ra i) else .non
def refR (slots : List (Option Rw)) (tf : Nat → Int) (i : Nat) : V := if isLive slots i = true then .int (tf i) else .non
/-- what it holds -/
structure MD (slots : List (Option Rw)) (H1 H : Hp) (aS aO aR aE aH aV : Addr) (ra : Nat → Addr) (outs : List Int) (tf : Nat → Int) (log : List Nat) (pend : List Pd) (shelf : List Nat) (evs : List Ev) : Prop where
  k : Kx [aS, aO, aR, aE, aH, aV] H1 H
  eS : H aS = some (.lst ((List.range slots.length).map (slotR slots ra log)))
  eO : H aO = some (.lst (outs.map V.int))
  eR : H aR = some (.lst ((List.range slots.length).map (refR slots tf)))
  eE : ∃ ts : List Addr, H aE = some (.lst (ts.map V.ref)) ∧ TupsAt H ts (pend.reverse.map pdV)
  eH : H aH = some (.lst (shelf.map fun n : Nat => V.int n))
  eV : ∃ us : List Addr, H aV = some (.lst (us.map V.ref)) ∧ TupsAt H us (evs.map evV)
section
variable {slots : List (Option Rw)} {C : Addr} {H1 H : Hp} {p dx aS aO aR aE aH aV : Addr} {ra : Nat → Addr} {lim : Int} {outs : List Int} {tf : Nat → Int} {log : List Nat} {pend : List Pd} {shelf : List Nat} {evs : List Ev}
/-- the six lists are six -/
structure Six (aS aO aR aE aH aV : Addr) : Prop where
  so : aS ≠ aO
  sr : aS ≠ aR
  se : aS ≠ aE
  sh : aS ≠ aH
  sv : aS ≠ aV
  or_ : aO ≠ aR
  oe : aO ≠ aE
  oh : aO ≠ aH
  ov : aO ≠ aV
  re : aR ≠ aE
  rh : aR ≠ aH
  rv : aR ≠ aV
  eh : aE ≠ aH
  ev : aE ≠ aV
  hv : aH ≠ aV
theorem MS.six (ms : MS slots C H1 p dx aS aO aR aE aH aV ra lim) : Six aS aO aR aE aH aV := by
  have D := ms.dis
  simp only [List.nodup_cons, List.mem_cons, List.not_mem_nil, or_false, not_or, not_false_eq_true, List.nodup_nil, and_true] at D
  obtain ⟨⟨a1, a2, a3, a4, a5⟩, ⟨b1, b2, b3, b4⟩, ⟨c1, c2, c3⟩, ⟨d1, d2⟩, e1⟩ := D
  exact ⟨a1, a2, a3, a4, a5, b1, b2, b3, b4, c1, c2, c3, d1, d2, e1⟩
theorem MD.new (m : MD slots H1 H aS aO aR aE aH aV ra outs tf log pend shelf evs) {q : Addr} {o : HO} (n : H q = none) : MD slots H1 (upd H q o) aS aO aR aE aH aV ra outs tf log pend shelf evs := by
  obtain ⟨ts, h1, h2⟩ := m.eE
  obtain ⟨us, h3, h4⟩ := m.eV
  exact ⟨m.k.new n, lk_ne m.eS n, lk_ne m.eO n, lk_ne m.eR n, ⟨ts, lk_ne h1 n, h2.new n⟩, lk_ne m.eH n, ⟨us, lk_ne h3 n, h4.new n⟩⟩
theorem MD.keep (m : MD slots H1 H aS aO aR aE aH aV ra outs tf log pend shelf evs) {H' : Hp} (k : Kx [] H H') : MD slots H1 H' aS aO aR aE aH aV ra outs tf log pend shelf evs := by
  obtain ⟨ts, h1, h2⟩ := m.eE
  obtain ⟨us, h3, h4⟩ := m.eV
  exact ⟨m.k.trans (k.mono (by simp)), k _ _ (by simp) m.eS, k _ _ (by simp) m.eO, k _ _ (by simp) m.eR, ⟨ts, k _ _ (by simp) h1, h2.kx k (by simp)⟩, k _ _ (by simp) m.eH, ⟨us, k _ _ (by simp) h3, h4.kx k (by simp)⟩⟩
theorem MD.wV (m : MD slots H1 H aS aO aR aE aH aV ra outs tf log pend shelf evs) (x : Six aS aO aR aE aH aV) {us : List Addr} (h : H aV = some (.lst (us.map V.ref))) (tu : TupsAt H us (evs.map evV)) {t : Addr} {e : Ev} (ht : H t = some (.tup (evV e))) :
    MD slots H1 (upd H aV (.lst (us.map V.ref ++ [V.ref t]))) aS aO aR aE aH aV ra outs tf log pend shelf (evs ++ [e]) := by
  obtain ⟨ts, h1, h2⟩ := m.eE
  exact ⟨m.k.wr (.inr (by simp)), lk_ne2 x.sv m.eS, lk_ne2 x.ov m.eO, lk_ne2 x.rv m.eR, ⟨ts, lk_ne2 x.ev h1, h2.wr h⟩, lk_ne2 x.hv m.eH,
    ⟨us ++ [t], by rw [upd_same, List.map_append]; rfl, by rw [List.map_append]; exact (tu.wr h).snoc (lk_ne2 (fun z => by rw [z, h] at ht; cases ht) ht)⟩⟩
theorem MD.wE (m : MD slots H1 H aS aO aR aE aH aV ra outs tf log pend shelf evs) (x : Six aS aO aR aE aH aV) {ts : List Addr} (h : H aE = some (.lst (ts.map V.ref))) (tu : TupsAt H ts (pend.reverse.map pdV)) {t : Addr} {q : Pd} (ht : H t = some (.tup (pdV q))) :
    MD slots H1 (upd H aE (.lst (ts.map V.ref ++ [V.ref t]))) aS aO aR aE aH aV ra outs tf log (q :: pend) shelf evs := by
  obtain ⟨us, h1, h2⟩ := m.eV
  exact ⟨m.k.wr (.inr (by simp)), lk_ne2 x.se m.eS, lk_ne2 x.oe m.eO, lk_ne2 x.re m.eR, ⟨ts ++ [t], by rw [upd_same, List.map_append]; rfl, by rw [List.reverse_cons, List.map_append]; exact (tu.wr h).snoc (lk_ne2 (fun z => by rw [z, h] at ht; cases ht) ht)⟩, lk_ne2 x.eh.symm m.eH,
    ⟨us, lk_ne2 x.ev.symm h1, h2.wr h⟩⟩
/-- what the popping of emptied leaves -/
theorem MD.pE {q : Pd} (m : MD slots H1 H aS aO aR aE aH aV ra outs tf log (q :: pend) shelf evs) (x : Six aS aO aR aE aH aV) : ∃ (ts : List Addr) (t : Addr), H aE = some (.lst (ts.map V.ref ++ [V.ref t])) ∧ H t = some (.tup (pdV q)) ∧
    MD slots H1 (upd H aE (.lst (ts.map V.ref))) aS aO aR aE aH aV ra outs tf log pend shelf evs := by
  obtain ⟨us, h1, h2⟩ := m.eV
  obtain ⟨ts, h3, h4⟩ := m.eE
  rw [List.reverse_cons, List.map_append] at h4
  obtain ⟨ts', t, rfl, ht, h5⟩ := h4.last
  rw [List.map_append] at h3
  exact ⟨ts', t, h3, ht, m.k.wr (.inr (by simp)), lk_ne2 x.se m.eS, lk_ne2 x.oe m.eO, lk_ne2 x.re m.eR, ⟨ts', upd_same, h5.wr h3⟩, lk_ne2 x.eh.symm m.eH, ⟨us, lk_ne2 x.ev.symm h1, h2.wr h3⟩⟩
theorem MD.wH (m : MD slots H1 H aS aO aR aE aH aV ra outs tf log pend shelf evs) (x : Six aS aO aR aE aH aV) (shelf' : List Nat) : MD slots H1 (upd H aH (.lst (shelf'.map fun n : Nat => V.int n))) aS aO aR aE aH aV ra outs tf log pend shelf' evs := by
  obtain ⟨us, h1, h2⟩ := m.eV
  obtain ⟨ts, h3, h4⟩ := m.eE
  exact ⟨m.k.wr (.inr (by simp)), lk_ne2 x.sh m.eS, lk_ne2 x.oh m.eO, lk_ne2 x.rh m.eR, ⟨ts, lk_ne2 x.eh h3, h4.wr m.eH⟩, upd_same, ⟨us, lk_ne2 x.hv.symm h1, h2.wr m.eH⟩⟩
theorem MD.wO (m : MD slots H1 H aS aO aR aE aH aV ra outs tf log pend shelf evs) (x : Six aS aO aR aE aH aV) (outs' : List Int) : MD slots H1 (upd H aO (.lst (outs'.map V.int))) aS aO aR aE aH aV ra outs' tf log pend shelf evs := by
  obtain ⟨us, h1, h2⟩ := m.eV
  obtain ⟨ts, h3, h4⟩ := m.eE
  exact ⟨m.k.wr (.inr (by simp)), lk_ne2 x.so m.eS, upd_same, lk_ne2 x.or_.symm m.eR, ⟨ts, lk_ne2 x.oe.symm h3, h4.wr m.eO⟩, lk_ne2 x.oh.symm m.eH, ⟨us, lk_ne2 x.ov.symm h1, h2.wr m.eO⟩⟩
theorem MD.wR (m : MD slots H1 H aS aO aR aE aH aV ra outs tf log pend shelf evs) (x : Six aS aO aR aE aH aV) (tf' : Nat → Int) : MD slots H1 (upd H aR (.lst ((List.range slots.length).map (refR slots tf')))) aS aO aR aE aH aV ra outs tf' log pend shelf evs := by
  obtain ⟨us, h1, h2⟩ := m.eV
  obtain ⟨ts, h3, h4⟩ := m.eE
  exact ⟨m.k.wr (.inr (by simp)), lk_ne2 x.sr m.eS, lk_ne2 x.or_ m.eO, upd_same, ⟨ts, lk_ne2 x.re.symm h3, h4.wr m.eR⟩, lk_ne2 x.rh.symm m.eH, ⟨us, lk_ne2 x.rv.symm h1, h2.wr m.eR⟩⟩
theorem MD.wS (m : MD slots H1 H aS aO aR aE aH aV ra outs tf log pend shelf evs) (x : Six aS aO aR aE aH aV) (log' : List Nat) : MD slots H1 (upd H aS (.lst ((List.range slots.length).map (slotR slots ra log')))) aS aO aR aE aH aV ra outs tf log' pend shelf evs := by
  obtain ⟨us, h1, h2⟩ := m.eV
  obtain ⟨ts, h3, h4⟩ := m.eE
  exact ⟨m.k.wr (.inr (by simp)), upd_same, lk_ne2 x.so.symm m.eO, lk_ne2 x.sr.symm m.eR, ⟨ts, lk_ne2 x.se.symm h3, h4.wr m.eS⟩, lk_ne2 x.sh.symm m.eH, ⟨us, lk_ne2 x.sv.symm h1, h2.wr m.eS⟩⟩
end
/-- one place of a list of values by number -/
theorem range_set {N n : Nat} {f : Nat → V} {v : V} (hn : n < N) {g : Nat → V} (hg : g n = v) (he : ∀ i, i ≠ n → g i = f i) : ((List.range N).map f).set n v = (List.range N).map g := by
  refine List.ext_getElem? fun i => ?_
  by_cases e : n = i
  · subst e
    rw [List.getElem?_set_self (by rw [List.length_map, List.length_range]; exact hn), List.getElem?_map, List.getElem?_range hn]
    exact congrArg some hg.symm
  · rw [List.getElem?_set_ne e, List.getElem?_map, List.getElem?_map]
    by_cases hi : i < N
    · rw [List.getElem?_range hi]
      exact congrArg some (he i (Ne.symm e)).symm
    · rw [List.getElem?_eq_none (by rw [List.length_range]; omega)]
      rfl
theorem range_at {N n : Nat} {f : Nat → V} (hn : n < N) : atI ((List.range N).map f) (n : Int) = some (f n) := atI_nat (by rw [List.getElem?_map, List.getElem?_range hn]; rfl)
theorem range_ix {N n : Nat} {f : Nat → V} (hn : n < N) : ixN ((List.range N).map f).length (n : Int) = some n := ix_nat (by rw [List.length_map, List.length_range]; exact hn)

local macro_rules | `(tactic| walk_at "na") => `(tactic| first | exact ClR.n_slots (by assumption) | exact ClR.n_outside (by assumption) | exact ClR.n_references (by assumption) | exact ClR.n_limit (by assumption) | exact ClR.n_emptied (by assumption) | exact ClR.n_shelf (by assumption) | exact ClR.n_events (by assumption))
local macro_rules | `(tactic| walk_at "fl") => `(tactic| first | exact mf_slots .. | exact mf_outside .. | exact mf_references .. | exact mf_limit .. | exact mf_emptied .. | exact mf_shelf .. | exact mf_events ..)
local macro_rules | `(tactic| walk_at "ml") => `(tactic| first | exact mf_release .. | exact mf_release_all .. | exact mf_destroy .. | exact mf_drop .. | exact mf_result ..)
local macro_rules | `(tactic| walk_at "rd") => `(tactic| ((with_reducible refine' x_fld  ?_)))
local macro_rules | `(tactic| walk_at "rd") => `(tactic| ((with_reducible refine' x_meth  ?_)))
local macro_rules | `(tactic| walk_at "rd") => `(tactic| ((with_reducible refine' x_ckw  ?_)))
local macro_rules | `(tactic| walk_at "rd") => `(tactic| ((with_reducible refine' x_iR3  ?_)))
local macro_rules | `(tactic| walk_at "rd") => `(tactic| ((with_reducible refine' x_make  ?_)))
local macro_rules | `(tactic| walk_at "rd") => `(tactic| ((with_reducible refine' x_par3  ?_); try simp only [List.set_cons_zero, List.set_cons_succ]))
local macro_rules | `(tactic| walk_at "rd") => `(tactic| ((with_reducible refine' x_three  ?_); try simp only [List.set_cons_zero, List.set_cons_succ]))
local macro_rules | `(tactic| walk_at "rd") => `(tactic| ((with_reducible refine' x_orT  ?_)))
local macro_rules | `(tactic| walk_at "rd") => `(tactic| ((with_reducible refine' x_truN  ?_)))
local macro_rules | `(tactic| walk_at "rd") => `(tactic| ((with_reducible refine' x_truT ?s0 ?_); (case s0 => walk_at "lkT")))
local macro_rules | `(tactic| walk_at "rd") => `(tactic| ((with_reducible refine' x_glst ?s0 ?s1 ?_); (case s0 => walk_at "lkL"); (case s1 => exact rfl)))
local macro_rules | `(tactic| walk_at "rd") => `(tactic| ((with_reducible refine' x_chain  ?_)))
local macro_rules | `(tactic| walk_at "rd") => `(tactic| ((with_reducible refine' x_isiII  ?_)))
local macro_rules | `(tactic| walk_at "rd") => `(tactic| ((with_reducible refine' x_isiIB  ?_)))
local macro_rules | `(tactic| walk_at "rd") => `(tactic| ((with_reducible refine' x_insF ?s0 ?s1 ?s2 ?s3 ?_); (case s0 => walk_at "lk"); (case s1 => exact ClR.cl (by assumption)); (case s2 => walk_at "na"); (case s3 => walk_at "fl")))
local macro_rules | `(tactic| walk_at "rd") => `(tactic| ((with_reducible refine' x_insM ?s0 ?s1 ?_); (case s0 => walk_at "lk"); (case s1 => walk_at "ml")))

section
variable {P : Program} {w : World} {K : PySem.W.Frag} {mg : Str → Option Value} {base : Heap}

/-- _destroy -/
def spDestroy (K : PySem.W.Frag) (C : Addr) : Sp := fun vs H Q _ => ∃ (slots : List (Option Rw)) (H1 : Hp) (p dx aS aO aR aE aH aV : Addr) (ra : Nat → Addr) (lim : Int) (outs : List Int) (tf : Nat → Int) (log : List Nat) (pend : List Pd) (shelf : List Nat) (evs : List Ev) (n d : Nat),
  vs = [.ref p, .int n, .int d] ∧ MS slots C H1 p dx aS aO aR aE aH aV ra lim ∧ MD slots H1 H aS aO aR aE aH aV ra outs tf log pend shelf evs ∧ ClR K C ∧ isLive slots n = true ∧ n ∉ log ∧ pend.length ≤ 100000 ∧ evs.length ≤ 100000 ∧ (rowOf slots n).length ≤ 100000 ∧
  ∀ H', MD slots H1 H' aS aO aR aE aH aV ra outs tf (log ++ [n]) (kids slots n (d + 1) ++ pend) shelf (evs ++ [.destroy n d]) → Q .non H'
theorem ok_destroy {C : Addr} {f : Addr} {fd : FuncData} (F : Fun K "_destroy" "Releasing._destroy" sReleasingDestroy f fd) (T : Txt mg) : FnOk P w K mg base CX0 1 f fd ["self", "node", "depth"] (spDestroy K C) := by
  refine F.ok scReleasingDestroy (fun vs H Q E h => ?_) (fun cdv A outer s H vs Q E hr h => ?_)
  · obtain ⟨slots, H1, p, dx, aS, aO, aR, aE, aH, aV, ra, lim, outs, tf, log, pend, shelf, evs, n, d, rfl, _⟩ := h
    rfl
  · obtain ⟨slots, H1, p, dx, aS, aO, aR, aE, aH, aV, ra, lim, outs, tf, log, pend, shelf, evs, n, d, rfl, ms, md, hC, hl, hn, hp1, hp2, hp3, k⟩ := h
    refine ⟨_, (pss_cons (ps_expr (pe_bm PySem.F.plainAttrs_list PySem.F.slot_list_append PySem.F.type_list_append mt_append (pe_fld (pv 0) rfl) (pa_cons (pe_tup (pa_cons pe_str (pa_cons (pv 1) (pa_cons (pv 2) pa_nil)))) pa_nil)))
      (pss_cons (ps_set (i := 3) scReleasingDestroy.nd rfl (Or.inl rfl) (pe_ix ix_list (pe_fld (pv 0) rfl) (pv 1) (fun _ _ => rfl)))
      (pss_cons (ps_asg pe_non (pg_sub (pe_fld (pv 0) rfl) (pv 1) set_list))
      (pss_one (ps_for PassesOwn.never rfl (pi_range3 (by rfl) T.b_range (pa_cons (pe_op op_sub (pe_callB call_len_seq (by rfl) T.b_len boot'_len (pa_cons (pv 3) pa_nil)) pe_int) (pa_cons (pe_un un_neg pe_int) (pa_cons (pe_un un_neg pe_int) pa_nil)))) (pg_name (i := 4) scReleasingDestroy.nd rfl (Or.inl rfl))
      (pss_one (ps_if (pt_cmpR op_notN1 (pe_ix ix_list (pv 3) (pv 4) (fun _ _ => rfl)) pe_non (nomark _)) (pss_one (ps_expr (pe_bm PySem.F.plainAttrs_list PySem.F.slot_list_append PySem.F.type_list_append mt_append (pe_fld (pv 0) rfl) (pa_cons (pe_tup (pa_cons (pv 1) (pa_cons (pv 4) (pa_cons (pe_ix ix_list (pv 3) (pv 4) (fun _ _ => rfl)) (pa_cons (pe_op op_add (pv 2) pe_int) pa_nil))))) pa_nil)))) pss_nil))))))), ?_⟩
    refine x_start (σ' := [some (.ref p), some (.int n), some (.int d), none, none]) rfl ?_
    dsimp only [cxOf]
    have hins := md.k _ _ ms.pW ms.ins
    obtain ⟨us, eV, tV⟩ := md.eV
    repeat walk_at "rd"
    refine ⟨ty_list (SqL.of eV), ?_⟩
    have six := ms.six
    have hz0 : (us.map V.ref).length < sizeLine := big_line (by rw [List.length_map, tV.len, List.length_map]; omega)
    repeat walk_at "rd"
    rename_i t nt
    have md1 := (md.new (o := .tup (evV (.destroy n d))) nt).wV six (lk_ne eV nt) (tV.new nt) (t := t) (e := .destroy n d) upd_same
    replace md1 : MD slots H1 (upd (upd H t (.tup [.str "destroy", .int n, .int d])) aV (.lst (us.map V.ref ++ [V.ref t]))) aS aO aR aE aH aV ra outs tf log pend shelf (evs ++ [.destroy n d]) := md1
    generalize (upd (upd H t (.tup [.str "destroy", .int n, .int d])) aV (.lst (us.map V.ref ++ [V.ref t]))) = H2 at *
    have hins2 := md1.k _ _ ms.pW ms.ins
    have eS2 := md1.eS
    obtain ⟨row, er, hlt⟩ := live_lt hl
    obtain ⟨hr1, hrW⟩ := ms.rows n row er
    have hrow2 : H2 (ra n) = some (.lst (rowV row)) := md1.k _ _ hrW hr1
    have at1 : atI ((List.range slots.length).map (slotR slots ra log)) (n : Int) = some (.ref (ra n)) := by
      rw [range_at hlt]
      unfold slotR
      rw [if_pos ⟨hl, hn⟩]
    have ix1 := range_ix (f := slotR slots ra log) hlt
    repeat walk_at "rd"
    have md2 := md1.wS six (log ++ [n])
    rw [← range_set (v := V.non) hlt (f := slotR slots ra log) (by unfold slotR; rw [if_neg (by simp)]) (fun i hi => by unfold slotR; simp [hi])] at md2
    generalize upd H2 aS (.lst (((List.range slots.length).map (slotR slots ra log)).set n V.non)) = H3 at *
    have hrow3 : H3 (ra n) = some (.lst (rowV row)) := md2.k _ _ hrW hr1
    have hlen : (rowV row).length = row.length := by unfold rowV; exact List.length_map _
    rw [rowOf_some er] at hp3
    repeat walk_at "rd"
    rw [hlen]
    refine y_forDown (by omega) (by omega) ⟨fun i σ H4 => ∃ (y4 : Option V), σ = [some (.ref p), some (.int n), some (.int d), some (.ref (ra n)), y4] ∧
      MD slots H1 H4 aS aO aR aE aH aV ra outs tf (log ++ [n]) (kidsAt n (d + 1) (row.length - i) (row.drop (row.length - i)) ++ pend) shelf (evs ++ [.destroy n d]),
      ⟨none, rfl, by rw [Nat.sub_zero, List.drop_length]; exact md2⟩, fun _ _ _ _ _ => trivial, ?_, ?_⟩
    · rintro i x σ H4 H4' hi ⟨y4, rfl, md4⟩ ⟨rfl, hx⟩
      have hi2 : i < row.length := by omega
      obtain ⟨j, hj⟩ : ∃ j : Nat, j = row.length - (i + 1) := ⟨_, rfl⟩
      have hjl : j < row.length := by omega
      replace hx : x = V.int ((row.length : Int) - 1 + (i : Int) * (-1)) := hx
      obtain rfl : x = V.int (j : Int) := by rw [hx]; congr 1; omega
      have hdrop : row.drop j = row[j] :: row.drop (j + 1) := List.drop_eq_getElem_cons hjl
      rw [show row.length - i = j + 1 by omega] at md4
      have hrow4 : H4' (ra n) = some (.lst (rowV row)) := md4.k _ _ hrW hr1
      have hins4 := md4.k _ _ ms.pW ms.ins
      obtain ⟨ts, eE, tE⟩ := md4.eE
      have hatj : atI (rowV row) (j : Int) = some (slotV row[j]) := atI_nat (by unfold rowV; rw [List.getElem?_map, List.getElem?_eq_getElem hjl]; rfl)
      have hz1 : (ts.map V.ref).length < sizeLine := big_line (by
        have := kidsAt_len n (d + 1) (row.drop (j + 1)) (j + 1)
        rw [List.length_drop] at this
        rw [List.length_map, tE.len, List.length_map, List.length_reverse, List.length_append]
        omega)
      cases hc : row[j] with
      | none =>
        rw [hc] at hatj hdrop
        replace hatj : atI (rowV row) (j : Int) = some V.non := hatj
        repeat walk_at "rd"
        refine iteF ?_
        repeat walk_at "rd"
        exact ⟨_, rfl, by rw [← hj, hdrop]; exact md4⟩
      | some m =>
        rw [hc] at hatj hdrop
        replace hatj : atI (rowV row) (j : Int) = some (V.int (m : Int)) := hatj
        repeat walk_at "rd"
        refine iteT ?_
        repeat walk_at "rd"
        refine ⟨ty_list (SqL.of eE), ?_⟩
        repeat walk_at "rd"
        rename_i t2 nt2
        refine ⟨_, rfl, ?_⟩
        rw [← hj, hdrop]
        exact (md4.new (o := .tup (pdV ⟨some n, some j, m, d + 1⟩)) nt2).wE six (lk_ne eE nt2) (tE.new nt2) (t := t2) (q := ⟨some n, some j, m, d + 1⟩) upd_same
    · rintro σ H4 ⟨y4, rfl, md4⟩
      rw [show row.length - ((row.length : Int) - 1 + 1).toNat = 0 by omega, List.drop_zero] at md4
      refine k H4 ?_
      unfold kids
      rw [rowOf_some er]
      exact md4
end


section
variable {P : Program} {w : World} {K : PySem.W.Frag} {mg : Str → Option Value} {base : Heap}

theorem tal_pop_self (slots : List (Option Rw)) (outs : List Int) (log : List Nat) (q : Pd) (rest : List Pd) : tal slots outs log (q :: rest) q.node - 1 = tal slots outs log rest q.node := by
  rw [tal_pop, if_pos rfl]
  omega
theorem tal_pop_other (slots : List (Option Rw)) (outs : List Int) (log : List Nat) (q : Pd) (rest : List Pd) {m : Nat} (h : m ≠ q.node) : tal slots outs log rest m = tal slots outs log (q :: rest) m := by
  rw [tal_pop, if_neg (Ne.symm h)]
  omega
/-- the facts that a walk of the machine takes along -/
structure Wk (slots : List (Option Rw)) (outs : List Int) (s : FS) : Prop where
  ok : SOk slots outs s
  ho : ∀ z ∈ outs, 0 ≤ z
  wl : ∀ row, some row ∈ slots → ∀ k, some k ∈ row → ∃ r, slots[k]? = some (some r)
  rl : ∀ row, some row ∈ slots → row.length ≤ 40
  most : slots.length ≤ 40
  sz : s.evs.length + 2 * s.mu slots ≤ 90000
theorem Wk.step {slots : List (Option Rw)} {outs : List Int} {lim : Int} {s s' : FS} (k : Wk slots outs s) (e : stepF slots outs lim s = some s') : Wk slots outs s' := by
  have h := step_mu k.ok k.ho e
  have := k.sz
  exact ⟨k.ok.step k.ho k.wl e, k.ho, k.wl, k.rl, k.most, by omega⟩
theorem Wk.shelf {slots : List (Option Rw)} {outs : List Int} {s : FS} (k : Wk slots outs s) : s.shelf.length ≤ slots.length := by
  have hn := (List.nodup_append.mp k.ok.nd).2.1
  have := hn.length_le_of_subset (l₂ := List.range slots.length) fun n hn => List.mem_range.mpr (live_lt (k.ok.lv n (List.mem_append_right _ hn))).choose_spec.2
  rwa [List.length_range] at this
theorem Wk.row {slots : List (Option Rw)} {outs : List Int} {s : FS} (k : Wk slots outs s) (n : Nat) : (rowOf slots n).length ≤ 40 := by
  unfold rowOf
  cases e : slots[n]? with
  | none => simp
  | some o =>
    cases o with
    | none => simp
    | some row => exact k.rl row (List.mem_of_getElem? e)
def spRelease (K : PySem.W.Frag) (C : Addr) : Sp := fun vs H Q _ => ∃ (slots : List (Option Rw)) (H1 : Hp) (p dx aS aO aR aE aH aV : Addr) (ra : Nat → Addr) (lim : Int) (outs : List Int) (s : FS) (q : Pd) (rest : List Pd),
  vs = [.ref p, optV q.holder, optV q.slot, .int q.node, .int q.depth] ∧ MS slots C H1 p dx aS aO aR aE aH aV ra lim ∧ s.pend = q :: rest ∧ MD slots H1 H aS aO aR aE aH aV ra outs (tal slots outs s.log s.pend) s.log rest s.shelf s.evs ∧ ClR K C ∧ Wk slots outs s ∧
  ∀ s' H', stepF slots outs lim s = some s' → MD slots H1 H' aS aO aR aE aH aV ra outs (tal slots outs s'.log s'.pend) s'.log s'.pend s'.shelf s'.evs → Q .non H'
theorem ok_release {C : Addr} {f : Addr} {fd : FuncData} (F : Fun K "_release" "Releasing._release" sReleasingRelease f fd) (T : Txt mg) (m_destroy : Lm P w K mg base C "_destroy" 1 ["self", "node", "depth"] (spDestroy K C)) (cR : Cls K C) :
    FnOk P w K mg base CX0 2 f fd ["self", "holder", "slot", "node", "depth"] (spRelease K C) := by
  refine F.ok scReleasingRelease (fun vs H Q E h => ?_) (fun cdv A outer s H vs Q E hr h => ?_)
  · obtain ⟨slots, H1, p, dx, aS, aO, aR, aE, aH, aV, ra, lim, outs, s, q, rest, rfl, _⟩ := h
    rfl
  · obtain ⟨slots, H1, p, dx, aS, aO, aR, aE, aH, aV, ra, lim, outs, st, q, rest, rfl, ms, hp, md, hC, wk, k⟩ := h
    refine ⟨_, (pss_cons (ps_augS (pe_fld (pv 0) rfl) (pv 3) get_list pe_int ip_sub set_list)
      (pss_cons (ps_set (i := 5) scReleasingRelease.nd rfl (Or.inl rfl) (pe_ix ix_list (pe_fld (pv 0) rfl) (pv 3) (fun _ _ => rfl)))
      (pss_cons (ps_expr (pe_bm PySem.F.plainAttrs_list PySem.F.slot_list_append PySem.F.type_list_append mt_append (pe_fld (pv 0) rfl) (pa_cons (pe_tup (pa_cons pe_str (pa_cons (pv 1) (pa_cons (pv 2) (pa_cons (pv 3) (pa_cons (pv 5) pa_nil)))))) pa_nil)))
      (pss_cons (ps_if (pt_cmpR op_gt (pv 5) pe_int (nomark _)) (pss_one ps_retN) pss_nil)
      (pss_one (ps_if (pt_cmpR op_lt (pv 4) (pe_fld (pv 0) rfl) (nomark _)) (pss_one (ps_expr (pe_lm m_destroy cR (hr.mono (by decide)) (pv 0) (pa_cons (pv 3) (pa_cons (pv 4) pa_nil))))) (pss_cons (ps_expr (pe_bm PySem.F.plainAttrs_list PySem.F.slot_list_append PySem.F.type_list_append mt_append (pe_fld (pv 0) rfl) (pa_cons (pv 3) pa_nil)))
      (pss_one (ps_expr (pe_bm PySem.F.plainAttrs_list PySem.F.slot_list_append PySem.F.type_list_append mt_append (pe_fld (pv 0) rfl) (pa_cons (pe_tup (pa_cons pe_str (pa_cons (pv 3) (pa_cons (pe_callB call_len_seq (by rfl) T.b_len boot'_len (pa_cons (pe_fld (pv 0) rfl) pa_nil)) pa_nil)))) pa_nil))))))))))), ?_⟩
    refine x_start (σ' := [some (.ref p), some (optV q.holder), some (optV q.slot), some (.int q.node), some (.int q.depth), none]) rfl ?_
    dsimp only [cxOf]
    have six := ms.six
    have hl := wk.ok.pl q (by rw [hp]; exact List.mem_cons_self)
    have hnew := wk.ok.new wk.ho hp
    obtain ⟨row, er, hlt⟩ := live_lt hl
    have hins := md.k _ _ ms.pW ms.ins
    have eR := md.eR
    have at1 : atI ((List.range slots.length).map (refR slots (tal slots outs st.log st.pend))) (q.node : Int) = some (.int (tal slots outs st.log st.pend q.node)) := by
      rw [range_at hlt]
      unfold refR
      rw [if_pos hl]
    have ix1 := range_ix (f := refR slots (tal slots outs st.log st.pend)) hlt
    have hset : ((List.range slots.length).map (refR slots (tal slots outs st.log st.pend))).set q.node (V.int (tal slots outs st.log st.pend q.node - 1)) = (List.range slots.length).map (refR slots (tal slots outs st.log rest)) :=
      range_set hlt (by unfold refR; rw [if_pos hl, hp, tal_pop_self]) (fun i hi => by unfold refR; rw [hp, tal_pop_other _ _ _ _ _ hi])
    repeat walk_at "rd"
    rw [hset]
    have md1 := md.wR six (tal slots outs st.log rest)
    have eR2 := md1.eR
    generalize upd H aR (.lst ((List.range slots.length).map (refR slots (tal slots outs st.log rest)))) = H2 at *
    have hins2 := md1.k _ _ ms.pW ms.ins
    have at2 : atI ((List.range slots.length).map (refR slots (tal slots outs st.log rest))) (q.node : Int) = some (.int (tal slots outs st.log rest q.node)) := by
      rw [range_at hlt]
      unfold refR
      rw [if_pos hl]
    obtain ⟨us, eV, tV⟩ := md1.eV
    have hsz := wk.sz
    have hz1 : (us.map V.ref).length < sizeLine := big_line (by rw [List.length_map, tV.len, List.length_map]; omega)
    repeat walk_at "rd"
    refine ⟨ty_list (SqL.of eV), ?_⟩
    repeat walk_at "rd"
    rename_i t nt
    have md2 := (md1.new (o := .tup (evV (.release q.holder q.slot q.node (tal slots outs st.log rest q.node)))) nt).wV six (lk_ne eV nt) (tV.new nt) (t := t) (e := .release q.holder q.slot q.node (tal slots outs st.log rest q.node)) upd_same
    replace md2 : MD slots H1 (upd (upd H2 t (.tup [.str "release", optV q.holder, optV q.slot, .int q.node, .int (tal slots outs st.log rest q.node)])) aV (.lst (us.map V.ref ++ [V.ref t]))) aS aO aR aE aH aV ra outs (tal slots outs st.log rest) st.log rest st.shelf (st.evs ++ [.release q.holder q.slot q.node (tal slots outs st.log rest q.node)]) := md2
    generalize (upd (upd H2 t (.tup [.str "release", optV q.holder, optV q.slot, .int q.node, .int (tal slots outs st.log rest q.node)])) aV (.lst (us.map V.ref ++ [V.ref t]))) = H3 at *
    by_cases h0 : 0 < tal slots outs st.log rest q.node
    · have hstep : stepF slots outs lim st = some ⟨rest, st.shelf, st.evs ++ [.release q.holder q.slot q.node (tal slots outs st.log rest q.node)]⟩ := by
        unfold stepF
        rw [hp]
        simp only
        rw [if_pos h0]
      have hlog : FS.log ⟨rest, st.shelf, st.evs ++ [.release q.holder q.slot q.node (tal slots outs st.log rest q.node)]⟩ = st.log := by
        unfold FS.log
        rw [List.filterMap_append]
        exact List.append_nil _
      refine iteP (decide_eq_true h0) ?_
      repeat walk_at "rd"
      refine k _ H3 hstep ?_
      rw [hlog]
      exact md2
    · refine iteN (decide_eq_false h0) ?_
      have hins3 := md2.k _ _ ms.pW ms.ins
      repeat walk_at "rd"
      by_cases hd : (q.depth : Int) < lim
      · have hstep : stepF slots outs lim st = some ⟨kids slots q.node (q.depth + 1) ++ rest, st.shelf, st.evs ++ [.release q.holder q.slot q.node (tal slots outs st.log rest q.node), .destroy q.node q.depth]⟩ := by
          unfold stepF
          rw [hp]
          simp only
          rw [if_neg h0, if_pos hd]
        have hlog : FS.log ⟨kids slots q.node (q.depth + 1) ++ rest, st.shelf, st.evs ++ [.release q.holder q.slot q.node (tal slots outs st.log rest q.node), .destroy q.node q.depth]⟩ = st.log ++ [q.node] := by
          unfold FS.log
          rw [List.filterMap_append]
          rfl
        have hnl : q.node ∉ st.log := fun h => hnew (List.mem_append_left _ h)
        refine iteP (decide_eq_true hd) ?_
        repeat walk_at "rd"
        have hrl := wk.row q.node
        have hmu : st.mu slots = left slots st.log + (rest.length + 1) := by unfold FS.mu; rw [hp]; rfl
        refine ⟨slots, H1, p, dx, aS, aO, aR, aE, aH, aV, ra, lim, outs, _, st.log, rest, st.shelf, _, q.node, q.depth, rfl, ms, md2, hC, hl, hnl, by omega, by rw [List.length_append]; show st.evs.length + 1 ≤ 100000; omega, by omega, fun H4 md4 => ?_⟩
        repeat walk_at "rd"
        refine k _ H4 hstep ?_
        rw [hlog]
        show MD slots H1 H4 aS aO aR aE aH aV ra outs (tal slots outs (st.log ++ [q.node]) (kids slots q.node (q.depth + 1) ++ rest)) (st.log ++ [q.node]) (kids slots q.node (q.depth + 1) ++ rest) st.shelf _
        rw [show tal slots outs (st.log ++ [q.node]) (kids slots q.node (q.depth + 1) ++ rest) = tal slots outs st.log rest from funext fun m => tal_dead hlt hnl _ _ m]
        rw [List.append_assoc] at md4
        exact md4
      · have hstep : stepF slots outs lim st = some ⟨rest, st.shelf ++ [q.node], st.evs ++ [.release q.holder q.slot q.node (tal slots outs st.log rest q.node), .shelve q.node (st.shelf.length + 1)]⟩ := by
          unfold stepF
          rw [hp]
          simp only
          rw [if_neg h0, if_neg hd]
        have hlog : FS.log ⟨rest, st.shelf ++ [q.node], st.evs ++ [.release q.holder q.slot q.node (tal slots outs st.log rest q.node), .shelve q.node (st.shelf.length + 1)]⟩ = st.log := by
          unfold FS.log
          rw [List.filterMap_append]
          exact List.append_nil _
        refine iteN (decide_eq_false hd) ?_
        have eH3 := md2.eH
        have hsl := wk.shelf
        have hm40 := wk.most
        have hz2 : (st.shelf.map fun n : Nat => V.int n).length < sizeLine := big_line (by rw [List.length_map]; omega)
        repeat walk_at "rd"
        refine ⟨ty_list (SqL.of eH3), ?_⟩
        repeat walk_at "rd"
        have md3 := md2.wH six (st.shelf ++ [q.node])
        rw [List.map_append] at md3
        replace md3 : MD slots H1 (upd H3 aH (.lst ((st.shelf.map fun n : Nat => V.int n) ++ [V.int q.node]))) aS aO aR aE aH aV ra outs (tal slots outs st.log rest) st.log rest (st.shelf ++ [q.node]) (st.evs ++ [.release q.holder q.slot q.node (tal slots outs st.log rest q.node)]) := md3
        generalize upd H3 aH (.lst ((st.shelf.map fun n : Nat => V.int n) ++ [V.int q.node])) = H4 at *
        have hins4 := md3.k _ _ ms.pW ms.ins
        have eH4 := md3.eH
        obtain ⟨us4, eV4, tV4⟩ := md3.eV
        have hz3 : (us4.map V.ref).length < sizeLine := big_line (by rw [List.length_map, tV4.len, List.length_map, List.length_append]; show st.evs.length + 1 ≤ 1000000; omega)
        repeat walk_at "rd"
        refine ⟨ty_list (SqL.of eV4), ?_⟩
        repeat walk_at "rd"
        rename_i t4 nt4
        refine k _ _ hstep ?_
        rw [hlog]
        have hls : V.int ((((st.shelf ++ [q.node]).map fun n : Nat => V.int n)).length : Int) = V.int ((st.shelf.length + 1 : Nat) : Int) := by rw [List.length_map, List.length_append]; rfl
        rw [hls]
        have md4 := (md3.new (o := .tup (evV (.shelve q.node (st.shelf.length + 1)))) nt4).wV six (lk_ne eV4 nt4) (tV4.new nt4) (t := t4) (e := .shelve q.node (st.shelf.length + 1)) upd_same
        rw [List.append_assoc] at md4
        exact md4
def spReleaseAll (K : PySem.W.Frag) (C : Addr) : Sp := fun vs H Q _ => ∃ (slots : List (Option Rw)) (H1 : Hp) (p dx aS aO aR aE aH aV : Addr) (ra : Nat → Addr) (lim : Int) (outs : List Int) (s : FS),
  vs = [.ref p] ∧ MS slots C H1 p dx aS aO aR aE aH aV ra lim ∧ MD slots H1 H aS aO aR aE aH aV ra outs (tal slots outs s.log s.pend) s.log s.pend s.shelf s.evs ∧ ClR K C ∧ Wk slots outs s ∧
  ∀ s' H', Steps slots outs lim s s' → s'.pend = [] → Wk slots outs s' → s'.mu slots ≤ s.mu slots → MD slots H1 H' aS aO aR aE aH aV ra outs (tal slots outs s'.log s'.pend) s'.log s'.pend s'.shelf s'.evs → Q .non H'
theorem ok_releaseAll {C : Addr} {f : Addr} {fd : FuncData} (F : Fun K "_release_all" "Releasing._release_all" sReleasingReleaseAll f fd) (T : Txt mg) (m_release : Lm P w K mg base C "_release" 2 ["self", "holder", "slot", "node", "depth"] (spRelease K C)) (cR : Cls K C) :
    FnOk P w K mg base CX0 3 f fd ["self"] (spReleaseAll K C) := by
  refine F.ok scReleasingReleaseAll (fun vs H Q E h => ?_) (fun cdv A outer s H vs Q E hr h => ?_)
  · obtain ⟨slots, H1, p, dx, aS, aO, aR, aE, aH, aV, ra, lim, outs, s, rfl, _⟩ := h
    rfl
  · obtain ⟨slots, H1, p, dx, aS, aO, aR, aE, aH, aV, ra, lim, outs, st, rfl, ms, md, hC, wk, k⟩ := h
    refine ⟨_, (pss_one (ps_while PassesOwn.never (pt_truth' (pe_fld (pv 0) rfl))
      (pss_cons (ps_asg (pe_bm0 PySem.F.plainAttrs_list PySem.F.slot_list_pop PySem.F.type_list_pop mt_pop (pe_fld (pv 0) rfl)) (pg_tup rfl (pgs_cons (pg_name (i := 1) scReleasingReleaseAll.nd rfl (Or.inl rfl)) (pgs_cons (pg_name (i := 2) scReleasingReleaseAll.nd rfl (Or.inl rfl)) (pgs_cons (pg_name (i := 3) scReleasingReleaseAll.nd rfl (Or.inl rfl)) (pgs_cons (pg_name (i := 4) scReleasingReleaseAll.nd rfl (Or.inl rfl)) pgs_nil))))))
      (pss_one (ps_expr (pe_lm m_release cR (hr.mono (by decide)) (pv 0) (pa_cons (pv 1) (pa_cons (pv 2) (pa_cons (pv 3) (pa_cons (pv 4) pa_nil)))))))))), ?_⟩
    refine x_start (σ' := [some (.ref p), none, none, none, none]) rfl ?_
    dsimp only [cxOf]
    have six := ms.six
    repeat walk_at "rd"
    refine ⟨fun m σ H2 => ∃ (s2 : FS) (y1 y2 y3 y4 : Option V), σ = [some (.ref p), y1, y2, y3, y4] ∧ MD slots H1 H2 aS aO aR aE aH aV ra outs (tal slots outs s2.log s2.pend) s2.log s2.pend s2.shelf s2.evs ∧ Wk slots outs s2 ∧ Steps slots outs lim st s2 ∧ s2.mu slots ≤ st.mu slots ∧ m = s2.mu slots,
      ⟨_, st, none, none, none, none, rfl, md, wk, .refl _, Nat.le_refl _, rfl⟩, ?_⟩
    rintro m σ H2 ⟨s2, y1, y2, y3, y4, rfl, md2, wk2, hs2, hm2, rfl⟩
    have hins := md2.k _ _ ms.pW ms.ins
    cases hp : s2.pend with
    | nil =>
      obtain ⟨ts, eE, tE⟩ := md2.eE
      have hts : ts = [] := by
        have := tE.len
        rw [hp] at this
        exact List.eq_nil_of_length_eq_zero this
      subst hts
      repeat walk_at "rd"
      refine iteF ?_
      exact k s2 H2 hs2 hp wk2 hm2 md2
    | cons q rest =>
      have md2' := md2
      rw [hp] at md2'
      obtain ⟨ts, t, eE, ht, md3'⟩ := md2'.pE six
      rw [← hp] at md3'
      have eat : (ts.map V.ref ++ [V.ref t])[(ts.map V.ref ++ [V.ref t]).length - 1]? = some (V.ref t) := by simp
      have nt : t ≠ aE := fun z => by
        rw [z, eE] at ht
        cases ht
      replace ht : H2 t = some (.tup [optV q.holder, optV q.slot, .int q.node, .int q.depth]) := ht
      have npE : p ≠ aE := fun z => by
        rw [z, eE] at hins
        cases hins
      repeat walk_at "rd"
      refine iteP (by simp) (x_turn ?_)
      repeat walk_at "rd"
      refine ⟨ty_list (SqL.of eE), ?_⟩
      repeat walk_at "rd"
      rw [List.dropLast_concat]
      refine ⟨slots, H1, p, dx, aS, aO, aR, aE, aH, aV, ra, lim, outs, s2, q, rest, rfl, ms, hp, md3', hC, wk2, fun s' H3 hst md4 => ?_⟩
      have hmu := (step_mu wk2.ok wk2.ho hst).1
      repeat walk_at "rd"
      exact ⟨s'.mu slots, hmu, s', _, _, _, _, rfl, md4, wk2.step hst, hs2.tail hst, by omega, rfl⟩
end


section
variable {P : Program} {w : World} {K : PySem.W.Frag} {mg : Str → Option Value} {base : Heap}

theorem tal_start {slots : List (Option Rw)} {outs : List Int} {n : Nat} {z : Int} (hz : outs[n]? = some z) (log : List Nat) (m : Nat) : tal slots (outs.set n (z - 1)) log [⟨none, none, n, 0⟩] m = tal slots outs log [] m := by
  unfold tal
  rw [pendC_cons, show pendC [] m = 0 from rfl]
  by_cases e : n = m
  · subst e
    rw [List.getElem?_set_self (List.getElem?_eq_some_iff.mp hz).1, hz]
    simp only [if_true, Option.getD_some]
    omega
  · rw [List.getElem?_set_ne e, if_neg e]
theorem set_nonneg {outs : List Int} {n : Nat} {z : Int} (ho : ∀ z ∈ outs, 0 ≤ z) (h : 1 ≤ z) : ∀ y ∈ outs.set n (z - 1), 0 ≤ y := by
  intro y hy
  rcases List.mem_or_eq_of_mem_set hy with hy | rfl
  · exact ho y hy
  · omega
theorem Wk.start {slots : List (Option Rw)} {outs : List Int} {s : FS} (k : Wk slots outs s) (hp : s.pend = []) (hs : s.shelf = []) {n : Nat} {z : Int} (hz : outs[n]? = some z) (h1 : 1 ≤ z) (hl : isLive slots n = true) (hsz : s.evs.length + 2 * s.mu slots ≤ 89000) :
    Wk slots (outs.set n (z - 1)) ⟨[⟨none, none, n, 0⟩], [], s.evs⟩ := by
  have hlog : FS.log ⟨[⟨none, none, n, 0⟩], [], s.evs⟩ = s.log := rfl
  refine ⟨⟨fun q hq => ?_, ?_, fun m hm => ?_, fun m hm => ?_⟩, set_nonneg k.ho h1, k.wl, k.rl, k.most, ?_⟩
  · rw [List.mem_singleton.mp hq]
    exact hl
  · rw [hlog]
    have := k.ok.nd
    rwa [hs] at this
  · rw [hlog] at hm ⊢
    show tal slots (outs.set n (z - 1)) s.log [⟨none, none, n, 0⟩] m = 0
    rw [tal_start hz, ← hp]
    exact k.ok.z m (by rw [hs]; exact hm)
  · rw [hlog] at hm
    exact k.ok.lv m (by rw [hs]; exact hm)
  · have h2 : s.mu slots = left slots s.log + 0 := by unfold FS.mu; rw [hp]; rfl
    have h3 : FS.mu slots ⟨[⟨none, none, n, 0⟩], [], s.evs⟩ = left slots s.log + 1 := rfl
    rw [h3]
    show s.evs.length + 2 * (left slots s.log + 1) ≤ 90000
    omega
def spMDrop (K : PySem.W.Frag) (C : Addr) : Sp := fun vs H Q _ => ∃ (slots : List (Option Rw)) (H1 : Hp) (p dx aS aO aR aE aH aV : Addr) (ra : Nat → Addr) (lim : Int) (outs : List Int) (s : FS) (n : Nat) (z : Int),
  vs = [.ref p, .int n] ∧ MS slots C H1 p dx aS aO aR aE aH aV ra lim ∧ MD slots H1 H aS aO aR aE aH aV ra outs (tal slots outs s.log []) s.log [] [] s.evs ∧ ClR K C ∧ Wk slots outs s ∧ s.pend = [] ∧ s.shelf = [] ∧ outs.length = slots.length ∧ outs[n]? = some z ∧ 1 ≤ z ∧ isLive slots n = true ∧ s.evs.length + 2 * s.mu slots ≤ 89000 ∧ 0 < lim ∧
  ∀ s' H', Steps slots (outs.set n (z - 1)) lim ⟨[⟨none, none, n, 0⟩], [], s.evs⟩ s' → s'.pend = [] → s'.shelf = [] → Wk slots (outs.set n (z - 1)) s' → MD slots H1 H' aS aO aR aE aH aV ra (outs.set n (z - 1)) (tal slots (outs.set n (z - 1)) s'.log []) s'.log [] [] s'.evs → Q .non H'
theorem ok_mdrop {C : Addr} {f : Addr} {fd : FuncData} (F : Fun K "drop" "Releasing.drop" sReleasingDrop f fd) (T : Txt mg) (m_release_all : Lm P w K mg base C "_release_all" 3 ["self"] (spReleaseAll K C)) (m_destroy : Lm P w K mg base C "_destroy" 1 ["self", "node", "depth"] (spDestroy K C)) (cR : Cls K C) :
    FnOk P w K mg base CX0 4 f fd ["self", "node"] (spMDrop K C) := by
  refine F.ok scReleasingDrop (fun vs H Q E h => ?_) (fun cdv A outer s H vs Q E hr h => ?_)
  · obtain ⟨slots, H1, p, dx, aS, aO, aR, aE, aH, aV, ra, lim, outs, s, n, z, rfl, _⟩ := h
    rfl
  · obtain ⟨slots, H1, p, dx, aS, aO, aR, aE, aH, aV, ra, lim, outs, st, n, z, rfl, ms, md, hC, wk, hp, hs, hol, hz, h1, hl, hsz, hlim, k⟩ := h
    refine ⟨_, (pss_cons (ps_augS (pe_fld (pv 0) rfl) (pv 1) get_list pe_int ip_sub set_list)
      (pss_cons (ps_expr (pe_bm PySem.F.plainAttrs_list PySem.F.slot_list_append PySem.F.type_list_append mt_append (pe_fld (pv 0) rfl) (pa_cons (pe_tup (pa_cons pe_non (pa_cons pe_non (pa_cons (pv 1) (pa_cons pe_int pa_nil))))) pa_nil)))
      (pss_cons (ps_expr (pe_lm0 m_release_all cR (hr.mono (by decide)) (pv 0)))
      (pss_one (ps_while PassesOwn.never (pt_truth' (pe_fld (pv 0) rfl))
      (pss_cons (ps_set (i := 2) scReleasingDrop.nd rfl (Or.inl rfl) (pe_bm0 PySem.F.plainAttrs_list PySem.F.slot_list_pop PySem.F.type_list_pop mt_pop (pe_fld (pv 0) rfl)))
      (pss_cons (ps_expr (pe_bm PySem.F.plainAttrs_list PySem.F.slot_list_append PySem.F.type_list_append mt_append (pe_fld (pv 0) rfl) (pa_cons (pe_tup (pa_cons pe_str (pa_cons (pv 2) (pa_cons (pe_callB call_len_seq (by rfl) T.b_len boot'_len (pa_cons (pe_fld (pv 0) rfl) pa_nil)) pa_nil)))) pa_nil)))
      (pss_cons (ps_expr (pe_lm m_destroy cR (hr.mono (by decide)) (pv 0) (pa_cons (pv 2) (pa_cons pe_int pa_nil))))
      (pss_one (ps_expr (pe_lm0 m_release_all cR (hr.mono (by decide)) (pv 0)))))))))))), ?_⟩
    refine x_start (σ' := [some (.ref p), some (.int n), none]) rfl ?_
    dsimp only [cxOf]
    have six := ms.six
    have hins := md.k _ _ ms.pW ms.ins
    have eO := md.eO
    obtain ⟨hnl, hze⟩ := List.getElem?_eq_some_iff.mp hz
    have at1 : atI (outs.map V.int) (n : Int) = some (.int z) := atI_nat (by rw [List.getElem?_map, hz]; rfl)
    have ix1 : ixN (outs.map V.int).length (n : Int) = some n := ix_nat (by rw [List.length_map]; exact hnl)
    repeat walk_at "rd"
    have md1 := md.wO six (outs.set n (z - 1))
    rw [List.map_set] at md1
    generalize upd H aO (.lst ((outs.map V.int).set n (V.int (z - 1)))) = H2 at *
    have hins2 := md1.k _ _ ms.pW ms.ins
    obtain ⟨ts, eE, tE⟩ := md1.eE
    have hz0 : (ts.map V.ref).length < sizeLine := big_line (by rw [List.length_map, tE.len]; simp)
    repeat walk_at "rd"
    refine ⟨ty_list (SqL.of eE), ?_⟩
    repeat walk_at "rd"
    rename_i t nt
    have md2 := (md1.new (o := .tup (pdV ⟨none, none, n, 0⟩)) nt).wE six (lk_ne eE nt) (tE.new nt) (t := t) (q := ⟨none, none, n, 0⟩) upd_same
    replace md2 : MD slots H1 (upd (upd H2 t (.tup [.non, .non, .int n, .int 0])) aE (.lst (ts.map V.ref ++ [V.ref t]))) aS aO aR aE aH aV ra (outs.set n (z - 1)) (tal slots outs st.log []) st.log [⟨none, none, n, 0⟩] [] st.evs := md2
    generalize (upd (upd H2 t (.tup [.non, .non, .int n, .int 0])) aE (.lst (ts.map V.ref ++ [V.ref t]))) = H3 at *
    rw [← show tal slots (outs.set n (z - 1)) st.log [⟨none, none, n, 0⟩] = tal slots outs st.log [] from funext fun m => tal_start hz _ m] at md2
    have wk2 := wk.start hp hs hz h1 hl hsz
    have hins3 := md2.k _ _ ms.pW ms.ins
    repeat walk_at "rd"
    refine ⟨slots, H1, p, dx, aS, aO, aR, aE, aH, aV, ra, lim, outs.set n (z - 1), ⟨[⟨none, none, n, 0⟩], [], st.evs⟩, rfl, ms, md2, hC, wk2, fun s3 H4 hs3 hp3 wk3 hm3 md3 => ?_⟩
    repeat walk_at "rd"
    refine ⟨fun m σ H5 => ∃ (s5 : FS) (y2 : Option V), σ = [some (.ref p), some (.int n), y2] ∧ MD slots H1 H5 aS aO aR aE aH aV ra (outs.set n (z - 1)) (tal slots (outs.set n (z - 1)) s5.log s5.pend) s5.log s5.pend s5.shelf s5.evs ∧ Wk slots (outs.set n (z - 1)) s5 ∧ s5.pend = [] ∧ Steps slots (outs.set n (z - 1)) lim ⟨[⟨none, none, n, 0⟩], [], st.evs⟩ s5 ∧ m = s5.mu slots,
      ⟨_, s3, none, rfl, md3, wk3, hp3, hs3, rfl⟩, ?_⟩
    rintro m σ H5 ⟨s5, y2, rfl, md5, wk5, hp5, hs5, rfl⟩
    have hins5 := md5.k _ _ ms.pW ms.ins
    have eH5 := md5.eH
    rcases List.eq_nil_or_concat s5.shelf with he | ⟨ss, a, he⟩
    · rw [he] at eH5
      repeat walk_at "rd"
      refine iteF ?_
      refine k s5 H5 hs5 hp5 he wk5 ?_
      rw [hp5, he] at md5
      exact md5
    · rw [List.concat_eq_append] at he
      rw [he, List.map_append] at eH5
      replace eH5 : H5 aH = some (.lst ((ss.map fun n : Nat => V.int n) ++ [V.int (a : Int)])) := eH5
      have eat : ((ss.map fun n : Nat => V.int n) ++ [V.int (a : Int)])[((ss.map fun n : Nat => V.int n) ++ [V.int (a : Int)]).length - 1]? = some (V.int (a : Int)) := by simp
      repeat walk_at "rd"
      refine iteP (by simp) (x_turn ?_)
      repeat walk_at "rd"
      refine ⟨ty_list (SqL.of eH5), ?_⟩
      repeat walk_at "rd"
      rw [List.dropLast_concat]
      have md6 := md5.wH six ss
      generalize upd H5 aH (.lst (ss.map fun n : Nat => V.int n)) = H6 at *
      have hins6 := md6.k _ _ ms.pW ms.ins
      have eH6 := md6.eH
      obtain ⟨us, eV, tV⟩ := md6.eV
      have hsz5 := wk5.sz
      have hz1 : (us.map V.ref).length < sizeLine := big_line (by rw [List.length_map, tV.len, List.length_map]; omega)
      have ham : a ∈ s5.log ++ s5.shelf := by rw [he]; simp
      have hla := wk5.ok.lv a ham
      have hnd := wk5.ok.nd
      rw [he] at hnd
      have hna : a ∉ s5.log := fun h => (List.nodup_append.mp hnd).2.2 a h a (by simp) rfl
      obtain ⟨_, _, hlta⟩ := live_lt hla
      have hstep : stepF slots (outs.set n (z - 1)) lim s5 = some ⟨kids slots a 1, ss, s5.evs ++ [.take a ss.length, .destroy a 0]⟩ := by
        unfold stepF
        rw [hp5, he]
        simp
      have wk6 := wk5.step hstep
      have hmu6 := (step_mu wk5.ok wk5.ho hstep).1
      repeat walk_at "rd"
      refine ⟨ty_list (SqL.of eV), ?_⟩
      repeat walk_at "rd"
      rename_i t2 nt2
      have md7 := (md6.new (o := .tup (evV (.take a ss.length))) nt2).wV six (lk_ne eV nt2) (tV.new nt2) (t := t2) (e := .take a ss.length) upd_same
      have hls : V.int ((ss.map fun n : Nat => V.int n).length : Int) = V.int (ss.length : Int) := by rw [List.length_map]
      rw [hls]
      replace md7 : MD slots H1 (upd (upd H6 t2 (.tup [.str "take", .int a, .int ss.length])) aV (.lst (us.map V.ref ++ [V.ref t2]))) aS aO aR aE aH aV ra (outs.set n (z - 1)) (tal slots (outs.set n (z - 1)) s5.log s5.pend) s5.log s5.pend ss (s5.evs ++ [.take a ss.length]) := md7
      generalize (upd (upd H6 t2 (.tup [.str "take", .int a, .int ss.length])) aV (.lst (us.map V.ref ++ [V.ref t2]))) = H7 at *
      have hins7 := md7.k _ _ ms.pW ms.ins
      have hrl := wk5.row a
      repeat walk_at "rd"
      refine ⟨slots, H1, p, dx, aS, aO, aR, aE, aH, aV, ra, lim, outs.set n (z - 1), _, s5.log, s5.pend, ss, _, a, 0, rfl, ms, md7, hC, hla, hna, by rw [hp5]; simp, by rw [List.length_append]; show s5.evs.length + 1 ≤ 100000; omega, by omega, fun H8 md8 => ?_⟩
      have hins8 := md8.k _ _ ms.pW ms.ins
      repeat walk_at "rd"
      have hlog6 : FS.log ⟨kids slots a 1, ss, s5.evs ++ [.take a ss.length, .destroy a 0]⟩ = s5.log ++ [a] := by
        unfold FS.log
        rw [List.filterMap_append]
        rfl
      have md9 : MD slots H1 H8 aS aO aR aE aH aV ra (outs.set n (z - 1)) (tal slots (outs.set n (z - 1)) (FS.log ⟨kids slots a 1, ss, s5.evs ++ [.take a ss.length, .destroy a 0]⟩) (kids slots a 1)) (FS.log ⟨kids slots a 1, ss, s5.evs ++ [.take a ss.length, .destroy a 0]⟩) (kids slots a 1) ss (s5.evs ++ [.take a ss.length, .destroy a 0]) := by
        rw [hlog6]
        have := md8
        rw [hp5, List.append_assoc, List.append_nil] at this
        rw [show tal slots (outs.set n (z - 1)) (s5.log ++ [a]) (kids slots a 1) = tal slots (outs.set n (z - 1)) s5.log [] from funext fun m => by
          have := tal_dead (slots := slots) (outs := outs.set n (z - 1)) hlta hna 1 [] m
          rwa [List.append_nil] at this]
        exact this
      refine ⟨slots, H1, p, dx, aS, aO, aR, aE, aH, aV, ra, lim, outs.set n (z - 1), _, rfl, ms, md9, hC, wk6, fun s9 H9 hs9 hp9 wk9 hm9 mdA => ?_⟩
      repeat walk_at "rd"
      exact ⟨s9.mu slots, by omega, s9, _, rfl, mdA, wk9, hp9, (hs5.tail hstep).trans hs9, rfl⟩
end


theorem mf_put (aS aO aR : Addr) (lim : Int) (aE aH aV : Addr) : List.lookup ("put" : Str) (mf aS aO aR lim aE aH aV) = none := by with_unfolding_all rfl
local macro_rules | `(tactic| walk_at "ml") => `(tactic| exact mf_put ..) --keep
/-! ### a slot's new content -/
def putS (slots : List (Option Rw)) (node j : Nat) (tgt : Option Nat) : List (Option Rw) := slots.set node (some ((rowOf slots node).set j tgt))
section
variable {slots : List (Option Rw)} {outs : List Int} {node j : Nat} {row : Rw} {tgt : Option Nat}
theorem putS_len : (putS slots node j tgt).length = slots.length := List.length_set
theorem putS_at (er : slots[node]? = some (some row)) : (putS slots node j tgt)[node]? = some (some (row.set j tgt)) := by
  unfold putS
  rw [List.getElem?_set_self (List.getElem?_eq_some_iff.mp er).1, rowOf_some er]
theorem putS_ne {i : Nat} (h : i ≠ node) : (putS slots node j tgt)[i]? = slots[i]? := List.getElem?_set_ne (Ne.symm h)
theorem putS_live (er : slots[node]? = some (some row)) (i : Nat) : isLive (putS slots node j tgt) i = isLive slots i := by
  by_cases h : i = node
  · subst h
    simp [isLive, putS_at er, er]
  · simp [isLive, putS_ne h]
theorem putS_row (er : slots[node]? = some (some row)) (h : Nat) : rowOf (putS slots node j tgt) h = if h = node then row.set j tgt else rowOf slots h := by
  by_cases e : h = node
  · subst e
    rw [if_pos rfl, rowOf_some (putS_at er)]
  · rw [if_neg e]
    unfold rowOf
    rw [putS_ne e]
theorem sum_one {f g : Nat → Nat} {n N : Nat} (hn : n < N) (he : ∀ h, h ≠ n → g h = f h) : ((List.range N).map g).sum + f n = ((List.range N).map f).sum + g n := by
  induction N with
  | zero => omega
  | succ N ih =>
    rw [List.range_succ, List.map_append, List.map_append, List.sum_append, List.sum_append]
    simp only [List.map_cons, List.map_nil, List.sum_cons, List.sum_nil, Nat.add_zero]
    by_cases e : n = N
    · subst e
      have : (List.range n).map g = (List.range n).map f := List.map_congr_left fun h hh => he h (Nat.ne_of_lt (List.mem_range.mp hh))
      rw [this]
      omega
    · have := ih (by omega)
      rw [he N (Ne.symm e)]
      omega
theorem count_put {r : Rw} (hj : j < r.length) (m : Nat) : (r.set j tgt).count (some m) + (if r[j] = some m then 1 else 0) = r.count (some m) + (if tgt = some m then 1 else 0) := by
  rw [List.count_set hj]
  have h1 : r[j] = some m → 1 ≤ r.count (some m) := fun e => List.one_le_count_iff.mpr (by rw [← e]; exact List.getElem_mem hj)
  by_cases e1 : r[j] = some m
  · have := h1 e1
    simp only [e1, beq_self_eq_true, if_true]
    by_cases e2 : tgt = some m
    · simp only [e2, beq_self_eq_true, if_true]
      omega
    · simp only [e2, beq_iff_eq, if_false]
      omega
  · simp only [e1, beq_iff_eq, if_false]
    by_cases e2 : tgt = some m
    · simp only [e2, if_true]
      omega
    · simp only [e2, if_false]
      omega
theorem cntH_put (er : slots[node]? = some (some row)) (hj : j < row.length) {log : List Nat} (hn : node ∉ log) (m : Nat) : cntH (putS slots node j tgt) log m + (if row[j] = some m then 1 else 0) = cntH slots log m + (if tgt = some m then 1 else 0) := by
  have hlt := (List.getElem?_eq_some_iff.mp er).1
  have h1 := sum_one (f := fun h => if h ∈ log then 0 else (rowOf slots h).count (some m)) (g := fun h => if h ∈ log then 0 else (rowOf (putS slots node j tgt) h).count (some m)) hlt (fun h e => by
    simp only [putS_row er, if_neg e])
  simp only [if_neg hn, putS_row er, if_true, rowOf_some er] at h1
  have h2 := count_put (tgt := tgt) hj m
  unfold cntH
  rw [putS_len]
  simp only [putS_row er]
  omega
theorem left_put (er : slots[node]? = some (some row)) (log : List Nat) : left (putS slots node j tgt) log = left slots log := by
  unfold left
  rw [putS_len]
  congr 1
  refine List.map_congr_left fun h _ => ?_
  rw [putS_row er]
  by_cases e : h = node
  · subst e
    rw [if_pos rfl, List.length_set, rowOf_some er]
  · rw [if_neg e]
/-- one more outside reference -/
def bump (outs : List Int) : Option Nat → List Int
  | none => outs
  | some k => outs.set k ((outs[k]?).getD 0 + 1)
theorem bump_at {o : Option Nat} (ho : ∀ k, o = some k → k < outs.length) (m : Nat) : ((bump outs o)[m]?).getD 0 = (outs[m]?).getD 0 + (if o = some m then 1 else 0) := by
  cases o with
  | none => simp [bump]
  | some k =>
    have hk := ho k rfl
    unfold bump
    by_cases e : k = m
    · subst e
      rw [List.getElem?_set_self hk]
      simp
    · rw [List.getElem?_set_ne e]
      simp [e]
theorem tal_put (er : slots[node]? = some (some row)) (hj : j < row.length) {log : List Nat} (hn : node ∉ log) (ho : ∀ k, row[j] = some k → k < outs.length) (m : Nat) :
    tal (putS slots node j tgt) (bump outs row[j]) log [] m = tal slots outs log [] m + (if tgt = some m then 1 else 0) := by
  have h1 := cntH_put (tgt := tgt) er hj hn m
  unfold tal
  rw [bump_at ho, show pendC [] m = 0 from rfl]
  have h2 : (if row[j] = some m then (1 : Int) else 0) = ((if row[j] = some m then 1 else 0 : Nat) : Int) := by split <;> rfl
  have h3 : (if tgt = some m then (1 : Int) else 0) = ((if tgt = some m then 1 else 0 : Nat) : Int) := by split <;> rfl
  rw [h2, h3]
  omega
theorem Wk.put {s : FS} (k : Wk slots outs s) (er : slots[node]? = some (some row)) (hj : j < row.length) (hn : node ∉ s.log) (hol : outs.length = slots.length) (ht : ∀ t, tgt = some t → isLive slots t = true ∧ t ∉ s.log) (hp : s.pend = []) (hs : s.shelf = []) : Wk (putS slots node j tgt) (bump outs row[j]) s := by
  have hlive : ∀ k', row[j] = some k' → ∃ r, slots[k']? = some (some r) := fun k' e => k.wl row (List.mem_of_getElem? er) k' (by rw [← e]; exact List.getElem_mem hj)
  have hb : ∀ k', row[j] = some k' → k' < outs.length := fun k' e => by
    obtain ⟨r, h⟩ := hlive k' e
    rw [hol]
    exact (List.getElem?_eq_some_iff.mp h).1
  have hmu : s.mu (putS slots node j tgt) = s.mu slots := by
    unfold FS.mu
    rw [left_put er]
  refine ⟨⟨fun p hpm => (by rw [hp] at hpm; cases hpm), k.ok.nd, fun n hnm => ?_, fun n hnm => by rw [putS_live er]; exact k.ok.lv n hnm⟩, fun z hz => ?_, fun r hr k' hk' => ?_, fun r hr => ?_, by rw [putS_len]; exact k.most, by rw [hmu]; exact k.sz⟩
  · rw [hp, tal_put er hj hn hb]
    have h1 := k.ok.z n hnm
    rw [hp] at h1
    rw [h1, if_neg]
    · rfl
    · intro e
      rw [hs, List.append_nil] at hnm
      exact (ht n e).2 hnm
  · cases e : row[j] with
    | none => rw [e] at hz; exact k.ho z hz
    | some k' =>
      rw [e] at hz
      rcases List.mem_or_eq_of_mem_set hz with hz | rfl
      · exact k.ho z hz
      · have : 0 ≤ (outs[k']?).getD 0 := by
          cases e2 : outs[k']? with
          | none => exact Int.le_refl 0
          | some z => exact k.ho z (List.mem_of_getElem? e2)
        omega
  · have hl : isLive slots k' = true := by
      unfold putS at hr
      rcases List.mem_or_eq_of_mem_set hr with hr | e
      · obtain ⟨r', h⟩ := k.wl r hr k' hk'
        simp [isLive, h]
      · rw [Option.some.inj e, rowOf_some er] at hk'
        rcases List.mem_or_eq_of_mem_set hk' with hk' | e
        · obtain ⟨r', h⟩ := k.wl row (List.mem_of_getElem? er) k' hk'
          simp [isLive, h]
        · exact (ht k' e.symm).1
    rw [← putS_live (j := j) (tgt := tgt) er] at hl
    obtain ⟨r', h, _⟩ := live_lt hl
    exact ⟨r', h⟩
  · unfold putS at hr
    rcases List.mem_or_eq_of_mem_set hr with hr | e
    · exact k.rl r hr
    · rw [Option.some.inj e, rowOf_some er, List.length_set]
      exact k.rl row (List.mem_of_getElem? er)
theorem rowV_put {r : Rw} : (rowV r).set j (slotV tgt) = rowV (r.set j tgt) := by
  unfold rowV
  rw [List.map_set]
variable {C : Addr} {H1 H : Hp} {p dx aS aO aR aE aH aV : Addr} {ra : Nat → Addr} {lim : Int} {tf : Nat → Int} {log : List Nat} {evs : List Ev}
/-- the machine after a row's change -/
theorem MS.put (ms : MS slots C H1 p dx aS aO aR aE aH aV ra lim) (md : MD slots H1 H aS aO aR aE aH aV ra outs tf log [] [] evs) (er : slots[node]? = some (some row)) :
    MS (putS slots node j tgt) C (upd H (ra node) (.lst (rowV (row.set j tgt)))) p dx aS aO aR aE aH aV ra lim ∧ MD (putS slots node j tgt) (upd H (ra node) (.lst (rowV (row.set j tgt)))) (upd H (ra node) (.lst (rowV (row.set j tgt)))) aS aO aR aE aH aV ra outs tf log [] [] evs := by
  obtain ⟨hr1, hrW⟩ := ms.rows node row er
  have hrow : H (ra node) = some (.lst (rowV row)) := md.k _ _ hrW hr1
  have hins := md.k _ _ ms.pW ms.ins
  simp only [List.mem_cons, List.not_mem_nil, or_false, not_or] at hrW
  obtain ⟨w1, w2, w3, w4, w5, w6⟩ := hrW
  have hlv := fun i => putS_live (j := j) (tgt := tgt) er i
  refine ⟨⟨lk_ne2 (fun z => by rw [z, hrow] at hins; cases hins) hins, fun i r hi => ?_, ms.dis, ms.pW, fun i j' r r' hi hj' he => ?_⟩, ?_⟩
  · by_cases h : i = node
    · subst h
      rw [putS_at er] at hi
      cases Option.some.inj (Option.some.inj hi)
      exact ⟨upd_same, (ms.rows i row er).2⟩
    · rw [putS_ne h] at hi
      obtain ⟨h1, h2⟩ := ms.rows i r hi
      exact ⟨lk_ne2 (fun z => h (ms.inj i node r row hi er z)) (md.k _ _ h2 h1), h2⟩
  · have lv : ∀ {i : Nat} {r : Rw}, (putS slots node j tgt)[i]? = some (some r) → ∃ r', slots[i]? = some (some r') := fun {i r} hi => by
      have : isLive slots i = true := by rw [← hlv i]; simp [isLive, hi]
      obtain ⟨r', h, _⟩ := live_lt this
      exact ⟨r', h⟩
    obtain ⟨r1, h1⟩ := lv hi
    obtain ⟨r2, h2⟩ := lv hj'
    exact ms.inj i j' r1 r2 h1 h2 he
  · obtain ⟨ts, e1, e2⟩ := md.eE
    obtain ⟨us, e3, e4⟩ := md.eV
    have hS : (List.range (putS slots node j tgt).length).map (slotR (putS slots node j tgt) ra log) = (List.range slots.length).map (slotR slots ra log) := by
      rw [putS_len]
      refine List.map_congr_left fun i _ => ?_
      unfold slotR
      rw [hlv i]
    have hR : (List.range (putS slots node j tgt).length).map (refR (putS slots node j tgt) tf) = (List.range slots.length).map (refR slots tf) := by
      rw [putS_len]
      refine List.map_congr_left fun i _ => ?_
      unfold refR
      rw [hlv i]
    exact ⟨Kx.refl _ _, by rw [hS]; exact lk_ne2 (Ne.symm w1) md.eS, lk_ne2 (Ne.symm w2) md.eO, by rw [hR]; exact lk_ne2 (Ne.symm w3) md.eR, ⟨ts, lk_ne2 (Ne.symm w4) e1, e2.wr hrow⟩, lk_ne2 (Ne.symm w5) md.eH, ⟨us, lk_ne2 (Ne.symm w6) e3, e4.wr hrow⟩⟩
end
section
variable {P : Program} {w : World} {K : PySem.W.Frag} {mg : Str → Option Value} {base : Heap}

def spPut (K : PySem.W.Frag) (C : Addr) : Sp := fun vs H Q _ => ∃ (slots : List (Option Rw)) (H1 : Hp) (p dx aS aO aR aE aH aV : Addr) (ra : Nat → Addr) (lim : Int) (outs : List Int) (s : FS) (node j : Nat) (row : Rw) (tgt : Option Nat) (hj : j < row.length),
  vs = [.ref p, .int node, .int j, slotV tgt] ∧ MS slots C H1 p dx aS aO aR aE aH aV ra lim ∧ MD slots H1 H aS aO aR aE aH aV ra outs (tal slots outs s.log []) s.log [] [] s.evs ∧ ClR K C ∧ Wk slots outs s ∧ s.pend = [] ∧ s.shelf = [] ∧ outs.length = slots.length ∧ slots[node]? = some (some row) ∧ node ∉ s.log ∧
  (∀ t, tgt = some t → isLive slots t = true ∧ t ∉ s.log) ∧ s.evs.length + 2 * s.mu slots ≤ 89000 ∧ 0 < lim ∧
  ∀ s' H2 H', Kx [ra node] H H2 → MS (putS slots node j tgt) C H2 p dx aS aO aR aE aH aV ra lim → MD (putS slots node j tgt) H2 H' aS aO aR aE aH aV ra outs (tal (putS slots node j tgt) outs s'.log []) s'.log [] [] s'.evs → Wk (putS slots node j tgt) outs s' → s'.pend = [] → s'.shelf = [] →
    (match row[j] with | none => s' = s | some k => Wk (putS slots node j tgt) outs ⟨[⟨none, none, k, 0⟩], [], s.evs⟩ ∧ Steps (putS slots node j tgt) outs lim ⟨[⟨none, none, k, 0⟩], [], s.evs⟩ s') → Q .non H'
theorem ok_put {C : Addr} {f : Addr} {fd : FuncData} (F : Fun K "put" "Releasing.put" sReleasingPut f fd) (T : Txt mg) (m_drop : Lm P w K mg base C "drop" 4 ["self", "node"] (spMDrop K C)) (cR : Cls K C) :
    FnOk P w K mg base CX0 5 f fd ["self", "node", "slot", "target"] (spPut K C) := by
  refine F.ok scReleasingPut (fun vs H Q E h => ?_) (fun cdv A outer s H vs Q E hr h => ?_)
  · obtain ⟨slots, H1, p, dx, aS, aO, aR, aE, aH, aV, ra, lim, outs, s, node, j, row, tgt, hj, rfl, _⟩ := h
    rfl
  · obtain ⟨slots, H1, p, dx, aS, aO, aR, aE, aH, aV, ra, lim, outs, st, node, j, row, tgt, hj, rfl, ms, md, hC, wk, hp, hs, hol, er, hnl, ht, hsz, hlim, k⟩ := h
    refine ⟨_, (pss_cons (ps_set (i := 4) scReleasingPut.nd rfl (Or.inl rfl) (pe_ix ix_list (pe_ix ix_list (pe_fld (pv 0) rfl) (pv 1) (fun _ _ => rfl)) (pv 2) (fun _ _ => rfl)))
      (pss_cons (ps_asg (pv 3) (pg_sub (pe_ix ix_list (pe_fld (pv 0) rfl) (pv 1) (fun _ _ => rfl)) (pv 2) set_list))
      (pss_cons (ps_if (pt_cmpR op_notN1 (pv 3) pe_non (nomark _)) (pss_one (ps_augS (pe_fld (pv 0) rfl) (pv 3) get_list pe_int ip_add set_list)) pss_nil)
      (pss_one (ps_if (pt_cmpR op_notN1 (pv 4) pe_non (nomark _)) (pss_cons (ps_augS (pe_fld (pv 0) rfl) (pv 4) get_list pe_int ip_add set_list)
      (pss_one (ps_expr (pe_lm m_drop cR (hr.mono (by decide)) (pv 0) (pa_cons (pv 4) pa_nil))))) pss_nil))))), ?_⟩
    refine x_start (σ' := [some (.ref p), some (.int node), some (.int j), some (slotV tgt), none]) rfl ?_
    dsimp only [cxOf]
    have six := ms.six
    have hins := md.k _ _ ms.pW ms.ins
    have hlt := (List.getElem?_eq_some_iff.mp er).1
    have hlv : isLive slots node = true := by simp [isLive, er]
    obtain ⟨hr1, hrW⟩ := ms.rows node row er
    have hrow : H (ra node) = some (.lst (rowV row)) := md.k _ _ hrW hr1
    have eS := md.eS
    have atS : atI ((List.range slots.length).map (slotR slots ra st.log)) (node : Int) = some (.ref (ra node)) := by
      rw [range_at hlt]
      unfold slotR
      rw [if_pos ⟨hlv, hnl⟩]
    have atr : atI (rowV row) (j : Int) = some (slotV row[j]) := atI_nat (by unfold rowV; rw [List.getElem?_map, List.getElem?_eq_getElem hj]; rfl)
    have ixr : ixN (rowV row).length (j : Int) = some j := ix_nat (by unfold rowV; rw [List.length_map]; exact hj)
    repeat walk_at "rd"
    rw [rowV_put]
    have hbl : ∀ k', row[j] = some k' → k' < outs.length := fun k' e => by
      obtain ⟨r, h⟩ := wk.wl row (List.mem_of_getElem? er) k' (by rw [← e]; exact List.getElem_mem hj)
      rw [hol]
      exact (List.getElem?_eq_some_iff.mp h).1
    have wk2 := wk.put (tgt := tgt) er hj hnl hol ht hp hs
    obtain ⟨ms2, md2⟩ := ms.put (j := j) (tgt := tgt) md er
    have kx2 : Kx [ra node] H (upd H (ra node) (.lst (rowV (row.set j tgt)))) := (Kx.refl _ _).wr (.inr (by simp))
    generalize upd H (ra node) (.lst (rowV (row.set j tgt))) = H2 at *
    cases tgt with
    | none =>
      refine iteF ?_
      have md3 := md2
      rw [show tal slots outs st.log [] = (fun m => tal slots outs st.log [] m + (if (none : Option Nat) = some m then 1 else 0)) from funext fun m => by simp] at md3
      repeat walk_at "rd"
      have tfE : (fun m => tal slots outs st.log [] m + (if none = some m then 1 else 0)) = tal (putS slots node j none) (bump outs row[j]) st.log [] := funext fun m => (tal_put er hj hnl hbl m).symm
      rw [tfE] at md3
      have hins3 := md3.k _ _ ms2.pW ms2.ins
      cases hc : row[j] with
      | none =>
        rw [hc] at md3 wk2
        repeat walk_at "rd"
        refine iteF ?_
        repeat walk_at "rd"
        have kf := k st H2 H2 kx2 ms2 md3 wk2 hp hs
        rw [hc] at kf
        exact kf rfl
      | some k' =>
        rw [hc] at md3 wk2
        have hkl := hbl k' hc
        have hkz : outs[k']? = some outs[k'] := List.getElem?_eq_getElem hkl
        have hlk : isLive (putS slots node j none) k' = true := by
          obtain ⟨r, e⟩ := wk.wl row (List.mem_of_getElem? er) k' (by rw [← hc]; exact List.getElem_mem hj)
          rw [putS_live er]
          simp [isLive, e]
        have eO3 := md3.eO
        have bE : bump outs (some k') = outs.set k' (outs[k'] + 1) := by
          show outs.set k' ((outs[k']?).getD 0 + 1) = _
          rw [hkz]
          rfl
        have atO : atI (outs.map V.int) (k' : Int) = some (.int outs[k']) := atI_nat (by rw [List.getElem?_map, hkz]; rfl)
        have ixO : ixN (outs.map V.int).length (k' : Int) = some k' := ix_nat (by rw [List.length_map]; exact hkl)
        refine iteT ?_
        rw [show slotV (some k') = V.int (k' : Int) from rfl]
        repeat walk_at "rd"
        have md4 := md3.wO six (outs.set k' (outs[k'] + 1))
        rw [List.map_set] at md4
        rw [← bE] at md4
        generalize upd H2 aO (.lst ((outs.map V.int).set k' (V.int (outs[k'] + 1)))) = H4 at *
        have hins4 := md4.k _ _ ms2.pW ms2.ins
        repeat walk_at "rd"
        have hbk : (bump outs (some k'))[k']? = some (outs[k'] + 1) := by rw [bE, List.getElem?_set_self hkl]
        have hz0 : 0 ≤ outs[k'] := wk.ho _ (List.getElem_mem hkl)
        have hmu : st.mu (putS slots node j none) = st.mu slots := by
          unfold FS.mu
          rw [left_put er]
        have hback : (bump outs (some k')).set k' (outs[k'] + 1 - 1) = outs := by
          rw [bE, List.set_set]
          refine List.ext_getElem? fun i => ?_
          by_cases e : k' = i
          · subst e
            rw [List.getElem?_set_self hkl, hkz]
            congr 1
            omega
          · rw [List.getElem?_set_ne e]
        refine ⟨putS slots node j none, H2, p, dx, aS, aO, aR, aE, aH, aV, ra, lim, bump outs (some k'), st, k', outs[k'] + 1, rfl, ms2, md4, hC, wk2, hp, hs, by rw [bE, List.length_set, putS_len]; exact hol, hbk, by omega, hlk, by rw [hmu]; exact hsz, hlim, fun s' H5 hs5 hp5 he5 wk5 md5 => ?_⟩
        rw [hback] at hs5 wk5 md5
        repeat walk_at "rd"
        have kf := k s' H2 H5 kx2 ms2 md5 wk5 hp5 he5
        rw [hc] at kf
        have wkS := wk2.start hp hs hbk (by omega) hlk (by rw [hmu]; exact hsz)
        rw [hback] at wkS
        exact kf ⟨wkS, hs5⟩
    | some t =>
      obtain ⟨htl, htn⟩ := ht t rfl
      obtain ⟨_, _, htlt⟩ := live_lt htl
      have htl2 : isLive (putS slots node j (some t)) t = true := by rw [putS_live er]; exact htl
      have htlt2 : t < (putS slots node j (some t)).length := by rw [putS_len]; exact htlt
      have hins2 := md2.k _ _ ms2.pW ms2.ins
      have eR2 := md2.eR
      have atR : atI ((List.range (putS slots node j (some t)).length).map (refR (putS slots node j (some t)) (tal slots outs st.log []))) (t : Int) = some (.int (tal slots outs st.log [] t)) := by
        rw [range_at htlt2]
        unfold refR
        rw [if_pos htl2]
      have ixR := range_ix (f := refR (putS slots node j (some t)) (tal slots outs st.log [])) htlt2
      have hset : ((List.range (putS slots node j (some t)).length).map (refR (putS slots node j (some t)) (tal slots outs st.log []))).set t (V.int (tal slots outs st.log [] t + 1)) = (List.range (putS slots node j (some t)).length).map (refR (putS slots node j (some t)) (fun m => tal slots outs st.log [] m + (if (some t : Option Nat) = some m then 1 else 0))) :=
        range_set htlt2 (by unfold refR; rw [if_pos htl2]; simp) (fun i hi => by
          unfold refR
          show (if isLive (putS slots node j (some t)) i = true then V.int (tal slots outs st.log [] i + (if (some t : Option Nat) = some i then 1 else 0)) else V.non) = _
          rw [if_neg (c := (some t : Option Nat) = some i) (fun e => hi (Option.some.inj e).symm), Int.add_zero])
      refine iteT ?_
      rw [show slotV (some t) = V.int (t : Int) from rfl]
      repeat walk_at "rd"
      rw [hset]
      have md3 := md2.wR six (fun m => tal slots outs st.log [] m + (if (some t : Option Nat) = some m then 1 else 0))
      generalize upd H2 aR (.lst ((List.range (putS slots node j (some t)).length).map (refR (putS slots node j (some t)) (fun m => tal slots outs st.log [] m + (if (some t : Option Nat) = some m then 1 else 0))))) = H3 at *
      repeat walk_at "rd"
      have tfE : (fun m => tal slots outs st.log [] m + (if (some t) = some m then 1 else 0)) = tal (putS slots node j (some t)) (bump outs row[j]) st.log [] := funext fun m => (tal_put er hj hnl hbl m).symm
      rw [tfE] at md3
      have hins3 := md3.k _ _ ms2.pW ms2.ins
      cases hc : row[j] with
      | none =>
        rw [hc] at md3 wk2
        repeat walk_at "rd"
        refine iteF ?_
        repeat walk_at "rd"
        have kf := k st H2 H3 kx2 ms2 md3 wk2 hp hs
        rw [hc] at kf
        exact kf rfl
      | some k' =>
        rw [hc] at md3 wk2
        have hkl := hbl k' hc
        have hkz : outs[k']? = some outs[k'] := List.getElem?_eq_getElem hkl
        have hlk : isLive (putS slots node j (some t)) k' = true := by
          obtain ⟨r, e⟩ := wk.wl row (List.mem_of_getElem? er) k' (by rw [← hc]; exact List.getElem_mem hj)
          rw [putS_live er]
          simp [isLive, e]
        have eO3 := md3.eO
        have bE : bump outs (some k') = outs.set k' (outs[k'] + 1) := by
          show outs.set k' ((outs[k']?).getD 0 + 1) = _
          rw [hkz]
          rfl
        have atO : atI (outs.map V.int) (k' : Int) = some (.int outs[k']) := atI_nat (by rw [List.getElem?_map, hkz]; rfl)
        have ixO : ixN (outs.map V.int).length (k' : Int) = some k' := ix_nat (by rw [List.length_map]; exact hkl)
        refine iteT ?_
        rw [show slotV (some k') = V.int (k' : Int) from rfl]
        repeat walk_at "rd"
        have md4 := md3.wO six (outs.set k' (outs[k'] + 1))
        rw [List.map_set] at md4
        rw [← bE] at md4
        generalize upd H3 aO (.lst ((outs.map V.int).set k' (V.int (outs[k'] + 1)))) = H4 at *
        have hins4 := md4.k _ _ ms2.pW ms2.ins
        repeat walk_at "rd"
        have hbk : (bump outs (some k'))[k']? = some (outs[k'] + 1) := by rw [bE, List.getElem?_set_self hkl]
        have hz0 : 0 ≤ outs[k'] := wk.ho _ (List.getElem_mem hkl)
        have hmu : st.mu (putS slots node j (some t)) = st.mu slots := by
          unfold FS.mu
          rw [left_put er]
        have hback : (bump outs (some k')).set k' (outs[k'] + 1 - 1) = outs := by
          rw [bE, List.set_set]
          refine List.ext_getElem? fun i => ?_
          by_cases e : k' = i
          · subst e
            rw [List.getElem?_set_self hkl, hkz]
            congr 1
            omega
          · rw [List.getElem?_set_ne e]
        refine ⟨putS slots node j (some t), H2, p, dx, aS, aO, aR, aE, aH, aV, ra, lim, bump outs (some k'), st, k', outs[k'] + 1, rfl, ms2, md4, hC, wk2, hp, hs, by rw [bE, List.length_set, putS_len]; exact hol, hbk, by omega, hlk, by rw [hmu]; exact hsz, hlim, fun s' H5 hs5 hp5 he5 wk5 md5 => ?_⟩
        rw [hback] at hs5 wk5 md5
        repeat walk_at "rd"
        have kf := k s' H2 H5 kx2 ms2 md5 wk5 hp5 he5
        rw [hc] at kf
        have wkS := wk2.start hp hs hbk (by omega) hlk (by rw [hmu]; exact hsz)
        rw [hback] at wkS
        exact kf ⟨wkS, hs5⟩
end


section
variable {P : Program} {w : World} {K : PySem.W.Frag} {mg : Str → Option Value} {base : Heap}
def usesF (f : Nat → Nat) (N : Nat) : List Int := (List.range N).map fun k => (f k : Int)
theorem usesF_len (f : Nat → Nat) (N : Nat) : (usesF f N).length = N := by
  unfold usesF
  rw [List.length_map, List.length_range]
theorem usesF_at {f : Nat → Nat} {N h : Nat} (hh : h < N) : (usesF f N)[h]? = some (f h : Int) := by
  unfold usesF
  rw [List.getElem?_map, List.getElem?_range hh]
  rfl
theorem usesF_ext {f g : Nat → Nat} {N : Nat} (h : ∀ k, k < N → f k = g k) : usesF f N = usesF g N := by
  unfold usesF
  refine List.map_congr_left fun k hk => ?_
  rw [h k (List.mem_range.mp hk)]
theorem usesF_set {f : Nat → Nat} {N h : Nat} (hh : h < N) : (usesF f N).set h ((f h : Int) + 1) = usesF (fun k => f k + if k = h then 1 else 0) N := by
  refine List.ext_getElem? fun m => ?_
  by_cases hm : m = h
  · subst hm
    rw [List.getElem?_set_self (by rw [usesF_len]; exact hh), usesF_at hh, if_pos rfl]
    rfl
  · rw [List.getElem?_set_ne (Ne.symm hm)]
    by_cases hN : m < N
    · rw [usesF_at hN, usesF_at hN, if_neg hm, Nat.add_zero]
    · rw [List.getElem?_eq_none (by rw [usesF_len]; omega), List.getElem?_eq_none (by rw [usesF_len]; omega)]
def cntUp (slots : List (Option Rw)) (i k : Nat) : Nat := ((slots.take i).map (cntO k)).sum
theorem cntUp_succ {slots : List (Option Rw)} {i : Nat} {o : Option Rw} (h : slots[i]? = some o) (k : Nat) : cntUp slots (i + 1) k = cntUp slots i k + cntO k o := by
  unfold cntUp
  rw [List.take_add_one, h, List.map_append, List.sum_append]
  simp
theorem count_succ {row : Rw} {j k : Nat} {o : Option Nat} (h : row[j]? = some o) : (row.take (j + 1)).count (some k) = (row.take j).count (some k) + if o = some k then 1 else 0 := by
  rw [List.take_add_one, h, List.count_append]
  simp [List.count_singleton]
theorem flat_rep (n : Nat) (v : V) : (List.replicate n [v]).flatten = List.replicate n v := by
  induction n with
  | zero => rfl
  | succ n ih => rw [List.replicate_succ, List.flatten_cons, ih, List.replicate_succ]; rfl
def spUses (K : PySem.W.Frag) : Sp := fun vs H Q _ => ∃ (S : Addr) (xs : List V) (slots : List (Option Rw)) (outs : List Int), vs = [.ref S] ∧ SqT K H S xs ∧ xs.length = slots.length ∧
  (∀ (i : Nat) (o : Option Rw), slots[i]? = some o → (o = none ∧ xs[i]? = some V.non) ∨ ∃ r row, o = some row ∧ xs[i]? = some (.ref r) ∧ SqT K H r (rowV row)) ∧ Wf slots outs ∧
  ∀ p H', H p = none → Kx [] H H' → H' p = some (.lst ((useL slots).map V.int)) → Q (.ref p) H'
theorem ok_uses {f : Addr} {fd : FuncData} (F : Fun K "slot_uses" "slot_uses" sSlotUses f fd) (T : Txt mg) : FnOk P w K mg base CX0 1 f fd ["slots"] (spUses K) := by
  refine F.ok scSlotUses (fun vs H Q E h => ?_) (fun cdv A outer s H vs Q E hr h => ?_)
  · obtain ⟨S, xs, slots, outs, rfl, _⟩ := h
    rfl
  · obtain ⟨S, xs, slots, outs, rfl, hS, hl, hv, wf, k⟩ := h
    refine ⟨_, (pss_cons (ps_set (i := 1) scSlotUses.nd rfl (Or.inl rfl) (pe_op op_rep (pe_lst (pa_cons pe_int pa_nil)) (pe_callB call_len_seq (by rfl) T.b_len boot'_len (pa_cons (pv 0) pa_nil))))
      (pss_cons (ps_for PassesOwn.never rfl (pi_tup (pv 0)) (pg_name (i := 2) scSlotUses.nd rfl (Or.inl rfl))
      (pss_one (ps_if (pt_cmpR op_notN1 (pv 2) pe_non (nomark _)) (pss_one (ps_for PassesOwn.never rfl (pi_tup (pv 2)) (pg_name (i := 3) scSlotUses.nd rfl (Or.inl rfl))
      (pss_one (ps_if (pt_cmpR op_notN1 (pv 3) pe_non (nomark _)) (pss_one (ps_augS (pv 1) (pv 3) get_list pe_int ip_add set_list)) pss_nil)))) pss_nil)))
      (pss_one (ps_ret (pv 1))))), ?_⟩
    refine x_start (σ' := [some (.ref S), none, none, none]) rfl ?_
    dsimp only [cxOf]
    have h40 := wf.most
    repeat walk_at "rd"
    rename_i q nq
    refine x_rep (xs := [V.int 0]) (k := (xs.length : Int)) upd_same (by omega) (by omega) (Nat.le_of_lt (small1000 (by simp; omega))) fun U nU => ?_
    rw [flat_rep]
    have nU0 : H U = none := ((Kx.refl [] H).new nq).fresh (by simp) nU
    have k0 := ((Kx.refl [] H).new nq).new (o := .lst (List.replicate (xs.length : Int).toNat (V.int 0))) nU
    have e0 : List.replicate (xs.length : Int).toNat (V.int 0) = (usesF (cntUp slots 0) slots.length).map V.int := by
      rw [Int.toNat_natCast, hl]
      refine List.ext_getElem? fun m => ?_
      rw [List.getElem?_map]
      by_cases hm : m < slots.length
      · rw [usesF_at hm, List.getElem?_replicate, if_pos hm]
        rfl
      · rw [List.getElem?_eq_none (by rw [List.length_replicate]; omega), List.getElem?_eq_none (by rw [usesF_len]; omega)]
        rfl
    repeat walk_at "rd"
    refine y_forT (xs := xs) (k0.sqT (by simp) hS) ⟨fun i σ H1 => ∃ (y2 y3 : Option V), σ = [some (.ref S), some (.ref U), y2, y3] ∧ Kx [] H H1 ∧ H1 U = some (.lst ((usesF (cntUp slots i) slots.length).map V.int)),
      ⟨none, none, rfl, k0, by rw [upd_same, e0]⟩, ?_, ?_, ?_⟩
    · rintro i σ H1 hi ⟨y2, y3, rfl, k1, e1⟩
      exact k1.sqT (by simp) hS
    · rintro i x σ H1 H1' hi ⟨y2, y3, rfl, k1, e1⟩ ⟨rfl, hx⟩
      have hs : i < slots.length := by omega
      have es := List.getElem?_eq_getElem hs
      repeat walk_at "rd"
      rcases hv i _ es with ⟨e, z⟩ | ⟨r, row, e, z, hF⟩
      · cases Option.some.inj (z.symm.trans hx)
        refine iteF ?_
        repeat walk_at "rd"
        refine ⟨_, _, rfl, k1, ?_⟩
        rw [e1]
        congr 3
        exact usesF_ext fun k _ => by rw [cntUp_succ es, e]; rfl
      · cases Option.some.inj (z.symm.trans hx)
        refine iteT ?_
        have hrow : some row ∈ slots := by rw [← e]; exact List.getElem_mem hs
        repeat walk_at "rd"
        refine y_forT (xs := rowV row) (k1.sqT (by simp) hF) ⟨fun j σ H2 => ∃ (y3 : Option V), σ = [some (.ref S), some (.ref U), some (.ref r), y3] ∧ Kx [] H H2 ∧ H2 U = some (.lst ((usesF (fun k => cntUp slots i k + (row.take j).count (some k)) slots.length).map V.int)),
          ⟨_, rfl, k1, by rw [e1]; rfl⟩, ?_, ?_, ?_⟩
        · rintro j σ H2 hj ⟨y3, rfl, k2, e2⟩
          exact (k2.sqT (by simp) hF)
        · rintro j x σ H2 H2' hj ⟨y3, rfl, k2, e2⟩ ⟨rfl, hx2⟩
          have hj2 : j < row.length := by
            unfold rowV at hj
            rwa [List.length_map] at hj
          have er := List.getElem?_eq_getElem hj2
          unfold rowV at hx2
          rw [List.getElem?_map, er] at hx2
          cases Option.some.inj hx2
          repeat walk_at "rd"
          cases ho : row[j] with
          | none =>
            refine iteF ?_
            repeat walk_at "rd"
            refine ⟨_, rfl, k2, ?_⟩
            rw [e2]
            congr 3
            exact usesF_ext fun k _ => by rw [count_succ er, ho]; simp
          | some hd =>
            obtain ⟨r2, e9⟩ := wf.live row hrow hd (by rw [← ho]; exact List.getElem_mem hj2)
            have hh := (List.getElem?_eq_some_iff.mp e9).1
            refine iteT ?_
            have hat : atI ((usesF (fun k => cntUp slots i k + (row.take j).count (some k)) slots.length).map V.int) (hd : Int) = some (.int ((cntUp slots i hd + (row.take j).count (some hd) : Nat) : Int)) := atI_nat (by rw [List.getElem?_map, usesF_at hh]; rfl)
            have hix : ixN ((usesF (fun k => cntUp slots i k + (row.take j).count (some k)) slots.length).map V.int).length (hd : Int) = some hd := ix_nat (by rw [List.length_map, usesF_len]; exact hh)
            show tAugS _ _ _ _ _ _ _ [some (.ref S), some (.ref U), some (.ref r), some (.int (hd : Int))] _
            repeat walk_at "rd"
            refine ⟨_, rfl, k2.wr (.inl nU0), ?_⟩
            rw [upd_same, ← List.map_set, usesF_set hh]
            congr 3
            exact usesF_ext fun k _ => by
              rw [count_succ er, ho]
              by_cases hk : k = hd
              · subst hk
                simp [Nat.add_assoc]
              · rw [if_neg hk, if_neg (fun e => hk (Option.some.inj e).symm), Nat.add_zero, Nat.add_zero]
        · rintro σ H2 ⟨y3, rfl, k2, e2⟩
          refine ⟨_, _, rfl, k2, ?_⟩
          rw [e2]
          congr 3
          refine usesF_ext fun k _ => ?_
          rw [cntUp_succ es, e, show (rowV row).length = row.length by unfold rowV; rw [List.length_map], List.take_length]
          rfl
    · rintro σ H1 ⟨y2, y3, rfl, k1, e1⟩
      repeat walk_at "rd"
      refine k U H1 nU0 k1 ?_
      rw [e1, hl]
      unfold useL usesF
      congr 3
      refine List.map_congr_left fun k _ => ?_
      unfold cntUp useC
      rw [List.take_length]
def spCounts (K : PySem.W.Frag) : Sp := fun vs H Q _ => ∃ (D : Addr) (slots : List (Option Rw)) (outs : List Int), vs = [.ref D] ∧ HeapT K H D slots outs ∧ Wf slots outs ∧
  ∀ p H', H p = none → Kx [] H H' → H' p = some (.tup (countsV slots outs)) → Q (.ref p) H'
theorem ok_counts {f : Addr} {fd : FuncData} (F : Fun K "counts" "counts" sCounts f fd) (T : Txt mg) (l_slot_uses : Lo P w K mg base "slot_uses" 1 ["slots"] (spUses K)) : FnOk P w K mg base CX0 2 f fd ["heap"] (spCounts K) := by
  refine F.ok scCounts (fun vs H Q E h => ?_) (fun cdv A outer s H vs Q E hr h => ?_)
  · obtain ⟨D, slots, outs, rfl, _⟩ := h
    rfl
  · obtain ⟨D, slots, outs, rfl, ⟨S, O, vs, hD, hS, hO, hl, hv⟩, wf, k⟩ := h
    refine ⟨_, (pss_cons (ps_asg (pv 0) (pg_tup rfl (pgs_cons (pg_name (i := 1) scCounts.nd rfl (Or.inl rfl)) (pgs_cons (pg_name (i := 2) scCounts.nd rfl (Or.inr rfl)) pgs_nil))))
      (pss_cons (ps_set (i := 3) scCounts.nd rfl (Or.inr rfl) (pe_lo l_slot_uses (hr.mono (by decide)) (by rfl) (pa_cons (pv 1) pa_nil)))
      (pss_one (ps_ret (pe_callTy call_tuple_of (by rfl) T.b_tuple boot'_tuple (pa_cons (pe_lc (own := [("node", 4), ("row", 5)]) rfl scCounts.nd (pi_enumT (by rfl) T.b_enumerate (pa_cons (pv 1) pa_nil)) (blkOk_by (N := ["heap", "slots", "outside", "uses", "node", "row"]) (sc := defScope sCounts) (by decide +kernel)) (fun _ _ _ _ _ => (pg_tupK (K := K) (n := 2) rfl rfl (pgs_cons (pg_name (i := 4) scCounts.nd rfl (Or.inl rfl)) (pgs_cons (pg_name (i := 5) scCounts.nd rfl (Or.inl rfl)) pgs_nil)))) (fun _ _ _ _ _ => pts_nil) (fun _ _ _ _ _ => (pe_ifExp (pt_cmpR op_isN1 (pv 5) pe_non (nomark _)) pe_non (pe_op op_add (pe_ix (ix_tupK (K := K)) (pv 2) (pv 4) (fun _ _ => rfl)) (pe_ix (ix_listK (K := K)) (pv 3) (pv 4) (fun _ _ => rfl)))))) pa_nil)))))), ?_⟩
    refine x_start (σ' := [some (.ref D), none, none, none, none, none]) rfl ?_
    dsimp only [cxOf]
    have h40 := wf.most
    repeat walk_at "rd"
    refine ⟨S, vs, slots, outs, rfl, hS, hl, hv, wf, fun U H1 nU k1 e1 => ?_⟩
    have hS1 : SqT K H1 S vs := k1.sqT (by simp) hS
    have hO1 : SqT K H1 O (outs.map V.int) := k1.sqT (by simp) hO
    repeat walk_at "rd"
    refine y_lcET (xs := vs) hS1 (fun Z nZ => ⟨fun i H2 => Kx [] H1 H2 ∧ H2 Z = some (.lst ((List.range i).map (countV slots outs))), ⟨(Kx.refl _ _).new nZ, upd_same⟩, ?_, ?_, ?_⟩)
    · rintro i H2 hi ⟨k2, _⟩
      exact k2.sqT (by simp) hS1
    · rintro i x H2 H2' hi ⟨k2, e2⟩ ⟨W, x1, x2, rfl, nW, rfl, f1, f2⟩
      cases f1
      have nWZ : Z ≠ W := ne_of_none e2 nW
      repeat walk_at "rd"
      refine ⟨rfl, ?_⟩
      have hs : i < slots.length := by omega
      have es := List.getElem?_eq_getElem hs
      have e3 : (upd H2 W (.tup [.int (i : Int), x2])) Z = some (.lst ((List.range i).map (countV slots outs))) := lk_ne e2 nW
      have hO2 : SqT K (upd H2 W (.tup [.int (i : Int), x2])) O (outs.map V.int) := (k2.new nW).sqT (by simp) hO1
      have hU2 : SqL K (upd H2 W (.tup [.int (i : Int), x2])) U ((useL slots).map V.int) := SqL.of ((k2.new nW) _ _ (by simp) e1)
      have hout : i < outs.length := by rw [wf.len]; exact hs
      have at1 : atI (outs.map V.int) (i : Int) = some (.int outs[i]) := atI_nat (by rw [List.getElem?_map, List.getElem?_eq_getElem hout]; rfl)
      have at2 : atI ((useL slots).map V.int) (i : Int) = some (.int (useC slots i : Int)) := atI_nat (by
        unfold useL
        rw [List.getElem?_map, List.getElem?_map, List.getElem?_range hs]
        rfl)
      have hnew : (List.range (i + 1)).map (countV slots outs) = (List.range i).map (countV slots outs) ++ [countV slots outs i] := by rw [List.range_succ, List.map_append]; rfl
      repeat walk_at "rd"
      rcases hv i _ es with ⟨e, z⟩ | ⟨r, row, e, z, _⟩
      · cases Option.some.inj (z.symm.trans f2)
        refine iteT ?_
        repeat walk_at "rd"
        refine ⟨_, e3, small1000 (by rw [List.length_map, List.length_range]; omega), (k2.new nW).wr (.inl nZ), ?_⟩
        rw [upd_same, hnew, show countV slots outs i = V.non by simp [countV, isLive, es, e]]
      · cases Option.some.inj (z.symm.trans f2)
        refine iteF ?_
        repeat walk_at "rd"
        refine ⟨_, e3, small1000 (by rw [List.length_map, List.length_range]; omega), (k2.new nW).wr (.inl nZ), ?_⟩
        rw [upd_same, hnew, show countV slots outs i = V.int (outs[i] + (useC slots i : Int)) by simp [countV, isLive, es, e, List.getElem?_eq_getElem hout]]
    · rintro H2 ⟨k2, e2⟩
      rw [hl] at e2
      repeat walk_at "rd"
      intro l nl
      repeat walk_at "rd"
      exact k l _ ((k1.trans k2).fresh (by simp) nl) ((k1.trans k2).new nl) upd_same
end


theorem pf1 {v : V} : putF ("slots" : Str) v [] = [(("slots" : Str), v)] := rfl
theorem pf2 {a v : V} : putF ("outside" : Str) v [(("slots" : Str), a)] = [(("slots" : Str), a), (("outside" : Str), v)] := by with_unfolding_all rfl
theorem pf3 {a b v : V} : putF ("references" : Str) v [(("slots" : Str), a), (("outside" : Str), b)] = [(("slots" : Str), a), (("outside" : Str), b), (("references" : Str), v)] := by with_unfolding_all rfl
theorem pf4 {a b c v : V} : putF ("limit" : Str) v [(("slots" : Str), a), (("outside" : Str), b), (("references" : Str), c)] = [(("slots" : Str), a), (("outside" : Str), b), (("references" : Str), c), (("limit" : Str), v)] := by with_unfolding_all rfl
theorem pf5 {a b c d v : V} : putF ("emptied" : Str) v [(("slots" : Str), a), (("outside" : Str), b), (("references" : Str), c), (("limit" : Str), d)] = [(("slots" : Str), a), (("outside" : Str), b), (("references" : Str), c), (("limit" : Str), d), (("emptied" : Str), v)] := by with_unfolding_all rfl
theorem pf6 {a b c d e v : V} : putF ("shelf" : Str) v [(("slots" : Str), a), (("outside" : Str), b), (("references" : Str), c), (("limit" : Str), d), (("emptied" : Str), e)] = [(("slots" : Str), a), (("outside" : Str), b), (("references" : Str), c), (("limit" : Str), d), (("emptied" : Str), e), (("shelf" : Str), v)] := by with_unfolding_all rfl
theorem pf7 {a b c d e f v : V} : putF ("events" : Str) v [(("slots" : Str), a), (("outside" : Str), b), (("references" : Str), c), (("limit" : Str), d), (("emptied" : Str), e), (("shelf" : Str), f)] = [(("slots" : Str), a), (("outside" : Str), b), (("references" : Str), c), (("limit" : Str), d), (("emptied" : Str), e), (("shelf" : Str), f), (("events" : Str), v)] := by with_unfolding_all rfl
theorem x_insS {K : PySem.W.Frag} {H : Hp} {C a dx : Addr} {fs : List (Str × V)} {f : Str} {R : Addr → Addr → Addr → List (Str × V) → Prop} (h : H a = some (.ins C dx fs)) (c : Cls K C) (n : NoAttr K C f) (l : fs.length < 1000) (q : R a C dx fs) :
    ∃ a' C' dx' fs', V.ref a = .ref a' ∧ H a' = some (.ins C' dx' fs') ∧ Cls K C' ∧ NoAttr K C' f ∧ List.length fs' < 1000 ∧ R a' C' dx' fs' := ⟨a, C, dx, fs, rfl, h, c, n, l, q⟩
local macro_rules | `(tactic| walk_at "rd") => `(tactic| with_reducible refine' x_sfld ?_) --keep
section
variable {P : Program} {w : World} {K : PySem.W.Frag} {mg : Str → Option Value} {base : Heap}

def spMInit (K : PySem.W.Frag) (C : Addr) : Sp := fun vs H Q _ => ∃ (p dx D : Addr) (slots : List (Option Rw)) (outs : List Int) (lim : Int), vs = [.ref p, .ref D, .int lim] ∧ H p = some (.ins C dx []) ∧ HeapT K H D slots outs ∧ Wf slots outs ∧ ClR K C ∧
  ∀ H' aS aO aR aE aH aV ra, MS slots C H' p dx aS aO aR aE aH aV ra lim → MD slots H' H' aS aO aR aE aH aV ra outs (tal slots outs [] []) [] [] [] [] → Kx [p] H H' → (∀ b ∈ [aS, aO, aR, aE, aH, aV], H b = none) → (∀ (i : Nat) (r : Rw), slots[i]? = some (some r) → H (ra i) = none) → Q .non H'
theorem cntH_use (slots : List (Option Rw)) (m : Nat) : cntH slots [] m = useC slots m := by
  unfold cntH useC
  congr 1
  refine List.ext_getElem? fun i => ?_
  rw [List.getElem?_map, List.getElem?_map]
  by_cases hi : i < slots.length
  · rw [List.getElem?_range hi, List.getElem?_eq_getElem hi]
    simp only [Option.map_some, List.not_mem_nil, if_false]
    unfold rowOf
    rw [List.getElem?_eq_getElem hi]
    cases slots[i] <;> rfl
  · rw [List.getElem?_eq_none (by rw [List.length_range]; omega), List.getElem?_eq_none (by omega)]
    rfl
theorem counts_ref {slots : List (Option Rw)} {outs : List Int} : countsV slots outs = (List.range slots.length).map (refR slots (tal slots outs [] [])) := by
  unfold countsV
  refine List.map_congr_left fun m _ => ?_
  unfold countV refR tal
  rw [cntH_use, show pendC [] m = 0 from rfl]
  simp
theorem sqT_ins {S : List Addr} {H H' : Hp} {a p C dx : Addr} {fs : List (Str × V)} {xs : List V} (h : SqT K H a xs) (hp : H p = some (.ins C dx fs)) (k : Kx [p] H H') : SqT K H' a xs := by
  rcases h with h | h
  · refine .inl ?_
    rcases h with h | ⟨o, h⟩
    · exact .inl (k _ _ (fun z => by rw [List.mem_singleton.mp z, hp] at h; cases h) h)
    · exact .inr ⟨o, k _ _ (fun z => by rw [List.mem_singleton.mp z, hp] at h; cases h) h⟩
  · exact .inr h
theorem HeapT.kp {H H' : Hp} {D p C dx : Addr} {fs : List (Str × V)} {slots : List (Option Rw)} {outs : List Int} (h : HeapT K H D slots outs) (hp : H p = some (.ins C dx fs)) (k : Kx [p] H H') : HeapT K H' D slots outs := by
  obtain ⟨S, O, vs, h1, h2, h3, h4, h5⟩ := h.ex
  refine ⟨S, O, vs, sqT_ins (S := []) h1 hp k, sqT_ins (S := []) h2 hp k, sqT_ins (S := []) h3 hp k, h4, fun i o ho => ?_⟩
  rcases h5 i o ho with z | ⟨r, row, e1, e2, e3⟩
  · exact .inl z
  · exact .inr ⟨r, row, e1, e2, sqT_ins (S := []) e3 hp k⟩
def RaI (slots : List (Option Rw)) (as : List Addr) (i : Nat) : Prop := ∀ (j j' : Nat) (r r' : Rw), j < i → j' < i → slots[j]? = some (some r) → slots[j']? = some (some r') → as.getD j 0 = as.getD j' 0 → j = j'
theorem RaI.grow {slots : List (Option Rw)} {as : List Addr} {i : Nat} (h : RaI slots as i) (ha : as.length = i) {a : Addr} (hn : slots[i]? = some none ∨ ∀ (j : Nat) (r : Rw), j < i → slots[j]? = some (some r) → as.getD j 0 ≠ a) : RaI slots (as ++ [a]) (i + 1) := by
  have gold : ∀ j : Nat, j < i → (as ++ [a]).getD j 0 = as.getD j 0 := by
    intro j hj
    simp only [List.getD_eq_getElem?_getD]
    rw [List.getElem?_append_left (by omega)]
  have gnew : (as ++ [a]).getD i 0 = a := by
    simp only [List.getD_eq_getElem?_getD]
    rw [List.getElem?_append_right (by omega), ha, Nat.sub_self]
    rfl
  intro j j' r r' hj hj' hr hr' he
  rcases hn with hn | hn
  · have h1 : j ≠ i := fun z => by rw [z, hn] at hr; cases hr
    have h2 : j' ≠ i := fun z => by rw [z, hn] at hr'; cases hr'
    rw [gold j (by omega), gold j' (by omega)] at he
    exact h j j' r r' (by omega) (by omega) hr hr' he
  · by_cases h1 : j = i
    · by_cases h2 : j' = i
      · omega
      · subst h1
        rw [gnew, gold j' (by omega)] at he
        exact absurd he.symm (hn j' r' (by omega) hr')
    · by_cases h2 : j' = i
      · subst h2
        rw [gnew, gold j (by omega)] at he
        exact absurd he (hn j r (by omega) hr)
      · rw [gold j (by omega), gold j' (by omega)] at he
        exact h j j' r r' (by omega) (by omega) hr hr' he
def RaF (H : Hp) (slots : List (Option Rw)) (as : List Addr) (i : Nat) : Prop := ∀ (j : Nat) (r : Rw), j < i → slots[j]? = some (some r) → H (as.getD j 0) = none
theorem RaF.grow {H : Hp} {slots : List (Option Rw)} {as : List Addr} {i : Nat} (h : RaF H slots as i) (ha : as.length = i) {a : Addr} (hn : slots[i]? = some none ∨ H a = none) : RaF H slots (as ++ [a]) (i + 1) := by
  intro j r hj hr
  by_cases h1 : j = i
  · subst h1
    rcases hn with hn | hn
    · rw [hn] at hr
      cases hr
    · simp only [List.getD_eq_getElem?_getD]
      rw [List.getElem?_append_right (by omega), ha, Nat.sub_self]
      exact hn
  · simp only [List.getD_eq_getElem?_getD]
    rw [List.getElem?_append_left (by omega), ← List.getD_eq_getElem?_getD]
    exact h j r (by omega) hr
theorem ok_minit {C : Addr} {f : Addr} {fd : FuncData} (F : Fun K "__init__" "Releasing.__init__" sReleasingInit f fd) (T : Txt mg) (l_counts : Lo P w K mg base "counts" 2 ["heap"] (spCounts K)) : FnOk P w K mg base CX0 3 f fd ["self", "heap", "limit"] (spMInit K C) := by
  refine F.ok scReleasingInit (fun vs H Q E h => ?_) (fun cdv A outer s H vs Q E hr h => ?_)
  · obtain ⟨p, dx, D, slots, outs, lim, rfl, _⟩ := h
    rfl
  · obtain ⟨p, dx, D, slots, outs, lim, rfl, hins, hT, wf, hC, k⟩ := h
    obtain ⟨S, O, vs, hD, hS, hO, hl, hv⟩ := id hT.ex
    refine ⟨_, (pss_cons (ps_fld (pv 0) (pe_lc (own := [("row", 3)]) rfl scReleasingInit.nd (pi_tup (pe_ix ix_tup (pv 1) pe_int (fun _ _ => rfl))) (blkOk_by (N := ["self", "heap", "limit", "row"]) (sc := defScope sReleasingInit) (by decide +kernel)) (fun _ _ _ _ _ => (pg_name (i := 3) scReleasingInit.nd rfl (Or.inl rfl))) (fun _ _ _ _ _ => pts_nil) (fun _ _ _ _ _ => (pe_ifExp (pt_cmpR op_isN1 (pv 3) pe_non (nomark _)) pe_non (pe_callTy (call_list_ofK (K := K)) (by rfl) T.b_list boot'_list (pa_cons (pv 3) pa_nil))))) rfl)
      (pss_cons (ps_fld (pv 0) (pe_callTy call_list_of (by rfl) T.b_list boot'_list (pa_cons (pe_ix ix_tup (pv 1) pe_int (fun _ _ => rfl)) pa_nil)) rfl)
      (pss_cons (ps_fld (pv 0) (pe_callTy call_list_of (by rfl) T.b_list boot'_list (pa_cons (pe_lo l_counts (hr.mono (by decide)) (by rfl) (pa_cons (pv 1) pa_nil)) pa_nil)) rfl)
      (pss_cons (ps_fld (pv 0) (pv 2) rfl)
      (pss_cons (ps_fld (pv 0) (pe_lst pa_nil) rfl)
      (pss_cons (ps_fld (pv 0) (pe_lst pa_nil) rfl)
      (pss_one (ps_fld (pv 0) (pe_lst pa_nil) rfl)))))))), ?_⟩
    refine x_start (σ' := [some (.ref p), some (.ref D), some (.int lim), none]) rfl ?_
    dsimp only [cxOf]
    have h40 := wf.most
    repeat walk_at "rd"
    refine y_lcT (xs := vs) hS (fun Z nZ => ⟨fun i H1 => Kx [] H H1 ∧ ∃ as : List Addr, as.length = i ∧ H1 Z = some (.lst ((List.range i).map (slotR slots (fun j => as.getD j 0) []))) ∧
      (∀ (j : Nat) (row : Rw), j < i → slots[j]? = some (some row) → H1 (as.getD j 0) = some (.lst (rowV row)) ∧ as.getD j 0 ≠ Z) ∧ RaI slots as i ∧ RaF H slots as i, ⟨(Kx.refl _ _).new nZ, [], rfl, upd_same, fun j row hj => absurd hj (Nat.not_lt_zero _), fun j _ _ _ hj => absurd hj (Nat.not_lt_zero _), fun j _ hj => absurd hj (Nat.not_lt_zero _)⟩, ?_, ?_, ?_⟩)
    · rintro i H1 hi ⟨k1, _⟩
      exact k1.sqT (by simp) hS
    · rintro i x H1 H1' hi ⟨k1, as, ha, e1, hr1, hin, hfr⟩ ⟨rfl, hx⟩
      have hs : i < slots.length := by omega
      have es := List.getElem?_eq_getElem hs
      have grow : ∀ a : Addr, (List.range (i + 1)).map (slotR slots (fun j => (as ++ [a]).getD j 0) []) = (List.range i).map (slotR slots (fun j => as.getD j 0) []) ++ [slotR slots (fun _ => a) [] i] := by
        intro a
        rw [List.range_succ, List.map_append]
        congr 1
        · refine List.map_congr_left fun j hj => ?_
          have := List.mem_range.mp hj
          unfold slotR
          simp only [List.getD_eq_getElem?_getD]
          rw [List.getElem?_append_left (by omega)]
        · simp only [List.map_cons, List.map_nil]
          unfold slotR
          simp only [List.getD_eq_getElem?_getD]
          rw [List.getElem?_append_right (by omega), ha, Nat.sub_self]
          rfl
      have gold : ∀ (a : Addr) (j : Nat), j < i → (as ++ [a]).getD j 0 = as.getD j 0 := by
        intro a j hj
        simp only [List.getD_eq_getElem?_getD]
        rw [List.getElem?_append_left (by omega)]
      have gnew : ∀ a : Addr, (as ++ [a]).getD i 0 = a := by
        intro a
        simp only [List.getD_eq_getElem?_getD]
        rw [List.getElem?_append_right (by omega), ha, Nat.sub_self]
        rfl
      repeat walk_at "rd"
      refine ⟨rfl, ?_⟩
      repeat walk_at "rd"
      rcases hv i _ es with ⟨e, z⟩ | ⟨r, row, e, z, hR⟩
      · cases Option.some.inj (z.symm.trans hx)
        refine iteT ?_
        repeat walk_at "rd"
        refine ⟨_, e1, small1000 (by rw [List.length_map, List.length_range]; omega), k1.wr (.inl nZ), as ++ [0], by rw [List.length_append, ha]; rfl, ?_, ?_, hin.grow ha (.inl (by rw [es, e])), hfr.grow ha (.inl (by rw [es, e]))⟩
        · rw [upd_same, grow, show slotR slots (fun _ => 0) [] i = V.non by unfold slotR; rw [if_neg]; simp [isLive, es, e]]
        · intro j row hj hjr
          by_cases hji : j = i
          · subst hji
            rw [es, e] at hjr
            cases hjr
          · rw [gold _ _ (by omega)]
            obtain ⟨h1, h2⟩ := hr1 j row (by omega) hjr
            exact ⟨lk_ne2 h2 h1, h2⟩
      · cases Option.some.inj (z.symm.trans hx)
        have hR1 := k1.sqT (by simp) hR
        refine iteF ?_
        repeat walk_at "rd"
        intro a na
        have naZ : a ≠ Z := (ne_of_none e1 na).symm
        refine ⟨_, lk_ne e1 na, small1000 (by rw [List.length_map, List.length_range]; omega), (k1.new na).wr (.inl nZ), as ++ [a], by rw [List.length_append, ha]; rfl, ?_, ?_, hin.grow ha (.inr fun j r hj hjr => ne_of_none (hr1 j r hj hjr).1 na), hfr.grow ha (.inr (k1.fresh (by simp) na))⟩
        · rw [upd_same, grow, show slotR slots (fun _ => a) [] i = V.ref a by unfold slotR; rw [if_pos]; simp [isLive, es, e]]
        · intro j row' hj hjr
          by_cases hji : j = i
          · subst hji
            rw [es, e] at hjr
            cases Option.some.inj (Option.some.inj hjr)
            rw [gnew]
            exact ⟨lk_ne2 naZ upd_same, naZ⟩
          · rw [gold _ _ (by omega)]
            obtain ⟨h1, h2⟩ := hr1 j row' (by omega) hjr
            exact ⟨lk_ne2 h2 (lk_ne h1 na), h2⟩
    rintro H1 ⟨k1, as, ha, eS, hrows, hin, hfr⟩
    rw [hl] at eS
    have hp1 := k1 p _ (by simp) hins
    repeat walk_at "rd"
    refine x_insS hp1 hC.cl hC.n_slots (by simp) ?_
    rw [pf1]
    have nZp : Z ≠ p := fun z => by rw [z, hins] at nZ; cases nZ
    have k2 : Kx [p] H (upd H1 p (.ins C dx [("slots", .ref Z)])) := (k1.mono (by simp)).wr (.inr (by simp))
    have hp2 : (upd H1 p (.ins C dx [("slots", .ref Z)])) p = some (.ins C dx [("slots", .ref Z)]) := upd_same
    have eS2 := lk_ne2 (p := p) (o := .ins C dx [("slots", .ref Z)]) nZp eS
    have rows2 : ∀ (j : Nat) (row : Rw), j < vs.length → slots[j]? = some (some row) → (upd H1 p (.ins C dx [("slots", .ref Z)])) (as.getD j 0) = some (.lst (rowV row)) ∧ as.getD j 0 ≠ Z := fun j row hj hjr => by
      obtain ⟨h1, h2⟩ := hrows j row hj hjr
      exact ⟨lk_ne2 (fun z => by rw [z, hp1] at h1; cases h1) h1, h2⟩
    generalize upd H1 p (.ins C dx [("slots", .ref Z)]) = H2 at *
    clear hrows eS hp1 k1
    have hT2 := hT.kp hins k2
    obtain ⟨S2, O2, vs2, hD2, _, hO2, _⟩ := id hT2.ex
    repeat walk_at "rd"
    intro aO nO
    repeat walk_at "rd"
    refine x_insS (lk_ne hp2 nO) hC.cl hC.n_outside (by simp) ?_
    rw [pf2]
    have npO : p ≠ aO := ne_of_none hp2 nO
    have nSO : Z ≠ aO := ne_of_none eS2 nO
    have k3 := (k2.new (o := .lst (outs.map V.int)) nO).wr (p := p) (o := .ins C dx [("slots", .ref Z), ("outside", .ref aO)]) (.inr (by simp))
    have hp3 : (upd (upd H2 aO (.lst (outs.map V.int))) p (.ins C dx [("slots", .ref Z), ("outside", .ref aO)])) p = some (.ins C dx [("slots", .ref Z), ("outside", .ref aO)]) := upd_same
    have eS3 := lk_ne2 (p := p) (o := .ins C dx [("slots", .ref Z), ("outside", .ref aO)]) nZp (lk_ne (o := .lst (outs.map V.int)) eS2 nO)
    have eO3 := lk_ne2 (p := p) (o := .ins C dx [("slots", .ref Z), ("outside", .ref aO)]) npO.symm (upd_same (H := H2) (a := aO) (o := .lst (outs.map V.int)))
    have rows3 : ∀ (j : Nat) (row : Rw), j < vs.length → slots[j]? = some (some row) → (upd (upd H2 aO (.lst (outs.map V.int))) p (.ins C dx [("slots", .ref Z), ("outside", .ref aO)])) (as.getD j 0) = some (.lst (rowV row)) ∧ as.getD j 0 ≠ Z ∧ as.getD j 0 ≠ aO := fun j row hj hjr => by
      obtain ⟨h1, h2⟩ := rows2 j row hj hjr
      exact ⟨lk_ne2 (fun z => by rw [z, hp2] at h1; cases h1) (lk_ne h1 nO), h2, ne_of_none h1 nO⟩
    have nO0 : H aO = none := by
      have := k2.fresh (by simpa using npO.symm) nO
      exact this
    generalize (upd (upd H2 aO (.lst (outs.map V.int))) p (.ins C dx [("slots", .ref Z), ("outside", .ref aO)])) = H3 at *
    clear rows2 eS2 hp2 k2 hT2 hD2 hO2
    have hT3 := hT.kp hins k3
    repeat walk_at "rd"
    refine ⟨D, slots, outs, rfl, hT3, wf, fun cp H4 ncp k4 eC => ?_⟩
    have hp4 := k4 p _ (by simp) hp3
    have eS4 := k4 Z _ (by simp) eS3
    have eO4 := k4 aO _ (by simp) eO3
    have k04 := k3.trans (k4.mono (by simp))
    rw [counts_ref] at eC
    repeat walk_at "rd"
    intro aR nR
    repeat walk_at "rd"
    refine x_insS (lk_ne hp4 nR) hC.cl hC.n_references (by simp) ?_
    rw [pf3]
    have npR : p ≠ aR := ne_of_none hp4 nR
    have nSR : Z ≠ aR := ne_of_none eS4 nR
    have nOR : aO ≠ aR := ne_of_none eO4 nR
    have nR0 : H aR = none := k04.fresh (by simpa using npR.symm) nR
    generalize hfR : (List.range slots.length).map (refR slots (tal slots outs [] [])) = refs at *
    have k5 := (k04.new (o := .lst refs) nR).wr (p := p) (o := .ins C dx [("slots", .ref Z), ("outside", .ref aO), ("references", .ref aR)]) (.inr (by simp))
    have hp5 : (upd (upd H4 aR (.lst refs)) p (.ins C dx [("slots", .ref Z), ("outside", .ref aO), ("references", .ref aR)])) p = some (.ins C dx [("slots", .ref Z), ("outside", .ref aO), ("references", .ref aR)]) := upd_same
    have eS5 := lk_ne2 (p := p) (o := .ins C dx [("slots", .ref Z), ("outside", .ref aO), ("references", .ref aR)]) nZp (lk_ne (o := .lst refs) eS4 nR)
    have eO5 := lk_ne2 (p := p) (o := .ins C dx [("slots", .ref Z), ("outside", .ref aO), ("references", .ref aR)]) npO.symm (lk_ne (o := .lst refs) eO4 nR)
    have eR5 := lk_ne2 (p := p) (o := .ins C dx [("slots", .ref Z), ("outside", .ref aO), ("references", .ref aR)]) npR.symm (upd_same (H := H4) (a := aR) (o := .lst refs))
    have rows5 : ∀ (j : Nat) (row : Rw), j < vs.length → slots[j]? = some (some row) → (upd (upd H4 aR (.lst refs)) p (.ins C dx [("slots", .ref Z), ("outside", .ref aO), ("references", .ref aR)])) (as.getD j 0) = some (.lst (rowV row)) ∧ as.getD j 0 ≠ Z ∧ as.getD j 0 ≠ aO ∧ as.getD j 0 ≠ aR := fun j row hj hjr => by
      obtain ⟨h1, h2, h3⟩ := rows3 j row hj hjr
      have h4 := k4 _ _ (by simp) h1
      exact ⟨lk_ne2 (fun z => by rw [z, hp4] at h4; cases h4) (lk_ne h4 nR), h2, h3, ne_of_none h4 nR⟩
    generalize (upd (upd H4 aR (.lst refs)) p (.ins C dx [("slots", .ref Z), ("outside", .ref aO), ("references", .ref aR)])) = H5 at *
    clear rows3 eS4 eO4 hp4 k04 eS3 eO3 hp3 k3 k4 eC hT3
    repeat walk_at "rd"
    refine x_insS hp5 hC.cl hC.n_limit (by simp) ?_
    rw [pf4]
    have k6 := k5.wr (p := p) (o := .ins C dx [("slots", .ref Z), ("outside", .ref aO), ("references", .ref aR), ("limit", .int lim)]) (.inr (by simp))
    have hp6 : (upd H5 p (.ins C dx [("slots", .ref Z), ("outside", .ref aO), ("references", .ref aR), ("limit", .int lim)])) p = some _ := upd_same
    have eS6 := lk_ne2 (p := p) (o := .ins C dx [("slots", .ref Z), ("outside", .ref aO), ("references", .ref aR), ("limit", .int lim)]) nZp eS5
    have eO6 := lk_ne2 (p := p) (o := .ins C dx [("slots", .ref Z), ("outside", .ref aO), ("references", .ref aR), ("limit", .int lim)]) npO.symm eO5
    have eR6 := lk_ne2 (p := p) (o := .ins C dx [("slots", .ref Z), ("outside", .ref aO), ("references", .ref aR), ("limit", .int lim)]) npR.symm eR5
    have rows6 : ∀ (j : Nat) (row : Rw), j < vs.length → slots[j]? = some (some row) → (upd H5 p (.ins C dx [("slots", .ref Z), ("outside", .ref aO), ("references", .ref aR), ("limit", .int lim)])) (as.getD j 0) = some (.lst (rowV row)) := fun j row hj hjr => by
      have h1 := (rows5 j row hj hjr).1
      exact lk_ne2 (fun z => by rw [z, hp5] at h1; cases h1) h1
    generalize (upd H5 p (.ins C dx [("slots", .ref Z), ("outside", .ref aO), ("references", .ref aR), ("limit", .int lim)])) = H6 at *
    repeat walk_at "rd"
    rename_i aE nE
    refine x_insS (lk_ne hp6 nE) hC.cl hC.n_emptied (by simp) ?_
    rw [pf5]
    have npE : p ≠ aE := ne_of_none hp6 nE
    have nE0 : H aE = none := k6.fresh (by simpa using npE.symm) nE
    have nSE : Z ≠ aE := ne_of_none eS6 nE
    have nOE : aO ≠ aE := ne_of_none eO6 nE
    have nRE : aR ≠ aE := ne_of_none eR6 nE
    have k7 := (k6.new (o := .lst []) nE).wr (p := p) (o := .ins C dx [("slots", .ref Z), ("outside", .ref aO), ("references", .ref aR), ("limit", .int lim), ("emptied", .ref aE)]) (.inr (by simp))
    have hp7 : (upd (upd H6 aE (.lst [])) p (.ins C dx [("slots", .ref Z), ("outside", .ref aO), ("references", .ref aR), ("limit", .int lim), ("emptied", .ref aE)])) p = some _ := upd_same
    have eS7 := lk_ne2 (p := p) (o := .ins C dx [("slots", .ref Z), ("outside", .ref aO), ("references", .ref aR), ("limit", .int lim), ("emptied", .ref aE)]) nZp (lk_ne (o := .lst []) eS6 nE)
    have eO7 := lk_ne2 (p := p) (o := .ins C dx [("slots", .ref Z), ("outside", .ref aO), ("references", .ref aR), ("limit", .int lim), ("emptied", .ref aE)]) npO.symm (lk_ne (o := .lst []) eO6 nE)
    have eR7 := lk_ne2 (p := p) (o := .ins C dx [("slots", .ref Z), ("outside", .ref aO), ("references", .ref aR), ("limit", .int lim), ("emptied", .ref aE)]) npR.symm (lk_ne (o := .lst []) eR6 nE)
    have eE7 := lk_ne2 (p := p) (o := .ins C dx [("slots", .ref Z), ("outside", .ref aO), ("references", .ref aR), ("limit", .int lim), ("emptied", .ref aE)]) npE.symm (upd_same (H := H6) (a := aE) (o := .lst []))
    have rows7 : ∀ (j : Nat) (row : Rw), j < vs.length → slots[j]? = some (some row) → (upd (upd H6 aE (.lst [])) p (.ins C dx [("slots", .ref Z), ("outside", .ref aO), ("references", .ref aR), ("limit", .int lim), ("emptied", .ref aE)])) (as.getD j 0) = some (.lst (rowV row)) ∧ as.getD j 0 ≠ aE := fun j row hj hjr => by
      have h1 := rows6 j row hj hjr
      exact ⟨lk_ne2 (fun z => by rw [z, hp6] at h1; cases h1) (lk_ne h1 nE), ne_of_none h1 nE⟩
    generalize (upd (upd H6 aE (.lst [])) p (.ins C dx [("slots", .ref Z), ("outside", .ref aO), ("references", .ref aR), ("limit", .int lim), ("emptied", .ref aE)])) = H7 at *
    repeat walk_at "rd"
    rename_i aH nH
    refine x_insS (lk_ne hp7 nH) hC.cl hC.n_shelf (by simp) ?_
    rw [pf6]
    have npH : p ≠ aH := ne_of_none hp7 nH
    have nH0 : H aH = none := k7.fresh (by simpa using npH.symm) nH
    have nSH : Z ≠ aH := ne_of_none eS7 nH
    have nOH : aO ≠ aH := ne_of_none eO7 nH
    have nRH : aR ≠ aH := ne_of_none eR7 nH
    have nEH : aE ≠ aH := ne_of_none eE7 nH
    have k8 := (k7.new (o := .lst []) nH).wr (p := p) (o := .ins C dx [("slots", .ref Z), ("outside", .ref aO), ("references", .ref aR), ("limit", .int lim), ("emptied", .ref aE), ("shelf", .ref aH)]) (.inr (by simp))
    have hp8 : (upd (upd H7 aH (.lst [])) p (.ins C dx [("slots", .ref Z), ("outside", .ref aO), ("references", .ref aR), ("limit", .int lim), ("emptied", .ref aE), ("shelf", .ref aH)])) p = some _ := upd_same
    have eS8 := lk_ne2 (p := p) (o := .ins C dx [("slots", .ref Z), ("outside", .ref aO), ("references", .ref aR), ("limit", .int lim), ("emptied", .ref aE), ("shelf", .ref aH)]) nZp (lk_ne (o := .lst []) eS7 nH)
    have eO8 := lk_ne2 (p := p) (o := .ins C dx [("slots", .ref Z), ("outside", .ref aO), ("references", .ref aR), ("limit", .int lim), ("emptied", .ref aE), ("shelf", .ref aH)]) npO.symm (lk_ne (o := .lst []) eO7 nH)
    have eR8 := lk_ne2 (p := p) (o := .ins C dx [("slots", .ref Z), ("outside", .ref aO), ("references", .ref aR), ("limit", .int lim), ("emptied", .ref aE), ("shelf", .ref aH)]) npR.symm (lk_ne (o := .lst []) eR7 nH)
    have eE8 := lk_ne2 (p := p) (o := .ins C dx [("slots", .ref Z), ("outside", .ref aO), ("references", .ref aR), ("limit", .int lim), ("emptied", .ref aE), ("shelf", .ref aH)]) npE.symm (lk_ne (o := .lst []) eE7 nH)
    have eH8 := lk_ne2 (p := p) (o := .ins C dx [("slots", .ref Z), ("outside", .ref aO), ("references", .ref aR), ("limit", .int lim), ("emptied", .ref aE), ("shelf", .ref aH)]) npH.symm (upd_same (H := H7) (a := aH) (o := .lst []))
    have rows8 : ∀ (j : Nat) (row : Rw), j < vs.length → slots[j]? = some (some row) → (upd (upd H7 aH (.lst [])) p (.ins C dx [("slots", .ref Z), ("outside", .ref aO), ("references", .ref aR), ("limit", .int lim), ("emptied", .ref aE), ("shelf", .ref aH)])) (as.getD j 0) = some (.lst (rowV row)) ∧ as.getD j 0 ≠ aH := fun j row hj hjr => by
      have h1 := (rows7 j row hj hjr).1
      exact ⟨lk_ne2 (fun z => by rw [z, hp7] at h1; cases h1) (lk_ne h1 nH), ne_of_none h1 nH⟩
    generalize (upd (upd H7 aH (.lst [])) p (.ins C dx [("slots", .ref Z), ("outside", .ref aO), ("references", .ref aR), ("limit", .int lim), ("emptied", .ref aE), ("shelf", .ref aH)])) = H8 at *
    repeat walk_at "rd"
    rename_i aV nV
    refine x_insS (lk_ne hp8 nV) hC.cl hC.n_events (by simp) ?_
    rw [pf7]
    have npV : p ≠ aV := ne_of_none hp8 nV
    have nV0 : H aV = none := k8.fresh (by simpa using npV.symm) nV
    have nSV : Z ≠ aV := ne_of_none eS8 nV
    have nOV : aO ≠ aV := ne_of_none eO8 nV
    have nRV : aR ≠ aV := ne_of_none eR8 nV
    have nEV : aE ≠ aV := ne_of_none eE8 nV
    have nHV : aH ≠ aV := ne_of_none eH8 nV
    have k9 := (k8.new (o := .lst []) nV).wr (p := p) (o := .ins C dx (mf Z aO aR lim aE aH aV)) (.inr (by simp))
    subst hfR
    have hl' : ∀ {j : Nat} {row : Rw}, slots[j]? = some (some row) → j < vs.length := fun {j row} hj => by
      have := (List.getElem?_eq_some_iff.mp hj).1
      omega
    refine k _ Z aO aR aE aH aV (fun j => as.getD j 0) ⟨upd_same, fun j row hj => ?_, ?_, ?_, fun i j r r' hi hj he => hin i j r r' (hl' hi) (hl' hj) hi hj he⟩ ⟨Kx.refl _ _, lk_ne2 nZp (lk_ne eS8 nV), lk_ne2 npO.symm (lk_ne eO8 nV), lk_ne2 npR.symm (lk_ne eR8 nV), ⟨[], lk_ne2 npE.symm (lk_ne eE8 nV), .nil⟩, lk_ne2 npH.symm (lk_ne eH8 nV), ⟨[], lk_ne2 npV.symm upd_same, .nil⟩⟩ k9 ?_ (fun i r hi => hfr i r (hl' hi) hi)
    · obtain ⟨h1, h2⟩ := rows8 j row (hl' hj) hj
      obtain ⟨_, g1, g2, g3⟩ := rows5 j row (hl' hj) hj
      have g4 := (rows7 j row (hl' hj) hj).2
      refine ⟨lk_ne2 (fun z => by rw [z, hp8] at h1; cases h1) (lk_ne h1 nV), ?_⟩
      have g5 := ne_of_none h1 nV
      simp only [List.mem_cons, List.not_mem_nil, or_false, not_or]
      exact ⟨g1, g2, g3, g4, h2, g5⟩
    · simp only [List.nodup_cons, List.mem_cons, List.not_mem_nil, or_false, not_or, not_false_eq_true, List.nodup_nil, and_true]
      exact ⟨⟨nSO, nSR, nSE, nSH, nSV⟩, ⟨nOR, nOE, nOH, nOV⟩, ⟨nRE, nRH, nRV⟩, ⟨nEH, nEV⟩, nHV⟩
    · simp only [List.mem_cons, List.not_mem_nil, or_false, not_or]
      exact ⟨nZp.symm, npO, npR, npE, npH, npV⟩
    · intro b hb
      simp only [List.mem_cons, List.not_mem_nil, or_false] at hb
      rcases hb with rfl | rfl | rfl | rfl | rfl | rfl
      · exact nZ
      · exact nO0
      · exact nR0
      · exact nE0
      · exact nH0
      · exact nV0
end

local macro_rules | `(tactic| walk_at "ml") => `(tactic| exact mf_put ..) --keep

def afterS (slots : List (Option Rw)) (log : List Nat) : List (Option Rw) := (List.range slots.length).map fun i => if i ∈ log then none else (slots[i]?).getD none
def sizesOf (evs : List Ev) : List Int := evs.filterMap Ev.size
/-- the greatest of them, 0 for none -/
def IsPeak (ns : List Int) (k : Int) : Prop := (ns = [] ∧ k = 0) ∨ (k ∈ ns ∧ ∀ b ∈ ns, b ≤ k)
section
variable {P : Program} {w : World} {K : PySem.W.Frag} {mg : Str → Option Value} {base : Heap}

theorem x_maxP {H : Hp} {Q : VK} {a : Addr} {ns : List Int} (h : SqL K H a (ns.map V.int)) (q : ∀ m, IsPeak ns m → Q (.int m) H) : rMaxD K [.ref a] [.int 0] H Q := ⟨a, ns, 0, rfl, rfl, h, fun e => q 0 (.inl ⟨e, rfl⟩), fun m h1 h2 => q m (.inr ⟨h1, h2⟩)⟩
theorem afterS_len (slots : List (Option Rw)) (log : List Nat) : (afterS slots log).length = slots.length := by
  unfold afterS
  rw [List.length_map, List.length_range]
theorem filterMap_take_succ {β : Type} {evs : List Ev} {g : Ev → Option β} {i : Nat} {e : Ev} (h : evs[i]? = some e) : (evs.take (i + 1)).filterMap g = (evs.take i).filterMap g ++ (g e).toList := by
  rw [List.take_add_one, h, List.filterMap_append]
  cases hg : g e <;> simp [hg]
theorem ev_ne {a b : String} (h : ¬ (Str.ofString a = Str.ofString b)) : decide (V.str (Str.ofString a) = V.str (Str.ofString b)) = false := decide_eq_false fun e => h (V.str.inj e)
def spResult (K : PySem.W.Frag) (C : Addr) : Sp := fun vs H Q _ => ∃ (slots : List (Option Rw)) (H1 : Hp) (p dx aS aO aR aE aH aV : Addr) (ra : Nat → Addr) (lim : Int) (outs : List Int) (tf : Nat → Int) (log : List Nat) (evs : List Ev),
  vs = [.ref p] ∧ MS slots C H1 p dx aS aO aR aE aH aV ra lim ∧ MD slots H1 H aS aO aR aE aH aV ra outs tf log [] [] evs ∧ ClR K C ∧ log = evs.filterMap Ev.dead ∧ evs.length ≤ 100000 ∧ slots.length ≤ 40 ∧
  ∀ B L X k H', Kx [] H H' → SqT K H' B [.ref L, .int k, .ref X] → SqT K H' L (log.map fun n : Nat => V.int n) → IsPeak (sizesOf evs) k → HeapT K H' X (afterS slots log) outs → Q (.ref B) H'
theorem ok_result {C : Addr} {f : Addr} {fd : FuncData} (F : Fun K "result" "Releasing.result" sReleasingResult f fd) (T : Txt mg) : FnOk P w K mg base CX0 1 f fd ["self"] (spResult K C) := by
  refine F.ok scReleasingResult (fun vs H Q E h => ?_) (fun cdv A outer s H vs Q E hr h => ?_)
  · obtain ⟨slots, H1, p, dx, aS, aO, aR, aE, aH, aV, ra, lim, outs, tf, log, evs, rfl, _⟩ := h
    rfl
  · obtain ⟨slots, H1, p, dx, aS, aO, aR, aE, aH, aV, ra, lim, outs, tf, log, evs, rfl, ms, md, hC, hlog, hsz, h40, k⟩ := h
    refine ⟨_, (pss_cons (ps_setLc (i := 1) (own := [("event", 4)]) rfl scReleasingResult.nd rfl rfl (sw_true rfl rfl rfl (by decide +kernel)) (pi_list (pe_fld (pv 0) rfl)) (blkOk_by (N := ["self", "log", "peak", "rows", "event", "row"]) (sc := defScope sReleasingResult) (by decide +kernel)) (fun _ _ _ _ _ => (pg_name (i := 4) scReleasingResult.nd rfl (Or.inl rfl))) (fun _ _ _ _ _ => (pts_one (pt_cmpR op_eq (pe_ix (ix_tupK (K := K)) (pv 4) pe_int (fun _ _ => rfl)) pe_str (nomark _)))) (fun _ _ _ _ _ => (pe_ix (ix_tupK (K := K)) (pv 4) pe_int (fun _ _ => rfl))))
      (pss_cons (ps_set (i := 2) scReleasingResult.nd rfl (Or.inl rfl) (pe_callBK (cr_maxD rfl) (by rfl) T.b_max boot'_max (pa_cons (pe_lc (own := [("event", 4)]) rfl scReleasingResult.nd (pi_list (pe_fld (pv 0) rfl)) (blkOk_by (N := ["self", "log", "peak", "rows", "event", "row"]) (sc := defScope sReleasingResult) (by decide +kernel)) (fun _ _ _ _ _ => (pg_name (i := 4) scReleasingResult.nd rfl (Or.inl rfl))) (fun _ _ _ _ _ => (pts_one (pt_cmpR op_eq (pe_ix (ix_tupK (K := K)) (pv 4) pe_int (fun _ _ => rfl)) pe_str (nomark _)))) (fun _ _ _ _ _ => (pe_ix (ix_tupK (K := K)) (pv 4) pe_int (fun _ _ => rfl)))) pa_nil) (pk_cons pe_int pk_nil)))
      (pss_cons (ps_setLc (i := 3) (own := [("row", 5)]) rfl scReleasingResult.nd rfl rfl (sw_true rfl rfl rfl (by decide +kernel)) (pi_list (pe_fld (pv 0) rfl)) (blkOk_by (N := ["self", "log", "peak", "rows", "event", "row"]) (sc := defScope sReleasingResult) (by decide +kernel)) (fun _ _ _ _ _ => (pg_name (i := 5) scReleasingResult.nd rfl (Or.inl rfl))) (fun _ _ _ _ _ => pts_nil) (fun _ _ _ _ _ => (pe_ifExp (pt_cmpR op_isN1 (pv 5) pe_non (nomark _)) pe_non (pe_callTy (call_tuple_ofK (K := K)) (by rfl) T.b_tuple boot'_tuple (pa_cons (pv 5) pa_nil)))))
      (pss_one (ps_ret (pe_tup (pa_cons (pe_callTy call_tuple_of (by rfl) T.b_tuple boot'_tuple (pa_cons (pv 1) pa_nil)) (pa_cons (pv 2) (pa_cons (pe_tup (pa_cons (pe_callTy call_tuple_of (by rfl) T.b_tuple boot'_tuple (pa_cons (pv 3) pa_nil)) (pa_cons (pe_callTy call_tuple_of (by rfl) T.b_tuple boot'_tuple (pa_cons (pe_fld (pv 0) rfl) pa_nil)) pa_nil))) pa_nil))))))))), ?_⟩
    refine x_start (σ' := [some (.ref p), none, none, none, none, none]) rfl ?_
    dsimp only [cxOf]
    have hins := md.k _ _ ms.pW ms.ins
    obtain ⟨us, eV, tV⟩ := md.eV
    have hul : us.length = evs.length := by rw [tV.len, List.length_map]
    repeat walk_at "rd"
    refine y_lcL (xs := us.map V.ref) (SqL.of eV) (fun Z nZ => ⟨fun i H2 => Kx [] H H2 ∧ H2 Z = some (.lst (((evs.take i).filterMap Ev.dead).map fun n : Nat => V.int n)), ⟨(Kx.refl _ _).new nZ, upd_same⟩, ?_, ?_, ?_⟩)
    · rintro i H2 hi ⟨k2, _⟩
      exact k2.sqL (by simp) (SqL.of eV)
    · rintro i x H2 H2' hi ⟨k2, e2⟩ ⟨rfl, hx⟩
      rw [List.length_map] at hi
      have hie : i < evs.length := by omega
      have ee := List.getElem?_eq_getElem hie
      obtain ⟨t, et, ht⟩ := tV.at_ i (evV evs[i]) (by rw [List.getElem?_map, ee]; rfl)
      rw [List.getElem?_map, et] at hx
      cases Option.some.inj hx
      have ht2 := k2 t _ (by simp) ht
      have hf := filterMap_take_succ (g := Ev.dead) ee
      have hz : (((evs.take i).filterMap Ev.dead).map fun n : Nat => V.int n).length < sizeLine := big_line (by
        rw [List.length_map]
        refine Nat.le_trans (List.length_filterMap_le _ _) ?_
        rw [List.length_take]
        omega)
      cases hev : evs[i] with
      | destroy n d =>
        rw [hev] at ht2 hf
        replace ht2 : H2' t = some (.tup [.str "destroy", .int n, .int d]) := ht2
        repeat walk_at "rd"
        refine ⟨rfl, ?_⟩
        repeat walk_at "rd"
        refine iteP (by simp) ?_
        repeat walk_at "rd"
        refine ⟨_, e2, hz, k2.wr (.inl nZ), ?_⟩
        rw [upd_same, hf, List.map_append]
        rfl
      | release h s n l =>
        rw [hev] at ht2 hf
        replace ht2 : H2' t = some (.tup [.str "release", optV h, optV s, .int n, .int l]) := ht2
        repeat walk_at "rd"
        refine ⟨rfl, ?_⟩
        repeat walk_at "rd"
        refine iteN (ev_ne (by decide)) ⟨k2, ?_⟩
        rw [hf]
        simpa [Ev.dead] using e2
      | shelve n s =>
        rw [hev] at ht2 hf
        replace ht2 : H2' t = some (.tup [.str "shelve", .int n, .int s]) := ht2
        repeat walk_at "rd"
        refine ⟨rfl, ?_⟩
        repeat walk_at "rd"
        refine iteN (ev_ne (by decide)) ⟨k2, ?_⟩
        rw [hf]
        simpa [Ev.dead] using e2
      | take n s =>
        rw [hev] at ht2 hf
        replace ht2 : H2' t = some (.tup [.str "take", .int n, .int s]) := ht2
        repeat walk_at "rd"
        refine ⟨rfl, ?_⟩
        repeat walk_at "rd"
        refine iteN (ev_ne (by decide)) ⟨k2, ?_⟩
        rw [hf]
        simpa [Ev.dead] using e2
    rintro H2 ⟨k2, eZ⟩
    rw [List.length_map, hul, List.take_length, ← hlog] at eZ
    have md2 := md.keep k2
    have hins2 := k2 p _ (by simp) hins
    have eV2 := k2 aV _ (by simp) eV
    have tV2 := tV.kx k2 (by simp)
    repeat walk_at "rd"
    have md3 := md2
    refine y_lcL (xs := us.map V.ref) (SqL.of eV2) (fun W nW => ⟨fun i H3 => Kx [] H2 H3 ∧ H3 W = some (.lst (((evs.take i).filterMap Ev.size).map V.int)), ⟨(Kx.refl _ _).new nW, upd_same⟩, ?_, ?_, ?_⟩)
    · rintro i H3 hi ⟨k3, _⟩
      exact k3.sqL (by simp) (SqL.of eV2)
    · rintro i x H3 H3' hi ⟨k3, e3⟩ ⟨rfl, hx⟩
      rw [List.length_map] at hi
      have hie : i < evs.length := by omega
      have ee := List.getElem?_eq_getElem hie
      obtain ⟨t, et, ht⟩ := tV2.at_ i (evV evs[i]) (by rw [List.getElem?_map, ee]; rfl)
      rw [List.getElem?_map, et] at hx
      cases Option.some.inj hx
      have ht2 := k3 t _ (by simp) ht
      have hf := filterMap_take_succ (g := Ev.size) ee
      have hz : (((evs.take i).filterMap Ev.size).map V.int).length < sizeLine := big_line (by
        rw [List.length_map]
        refine Nat.le_trans (List.length_filterMap_le _ _) ?_
        rw [List.length_take]
        omega)
      cases hev : evs[i] with
      | destroy n d =>
        rw [hev] at ht2 hf
        replace ht2 : H3' t = some (.tup [.str "destroy", .int n, .int d]) := ht2
        repeat walk_at "rd"
        refine ⟨rfl, ?_⟩
        repeat walk_at "rd"
        refine iteN (ev_ne (by decide)) ⟨k3, ?_⟩
        rw [hf]
        simpa [Ev.size] using e3
      | release h s n l =>
        rw [hev] at ht2 hf
        replace ht2 : H3' t = some (.tup [.str "release", optV h, optV s, .int n, .int l]) := ht2
        repeat walk_at "rd"
        refine ⟨rfl, ?_⟩
        repeat walk_at "rd"
        refine iteN (ev_ne (by decide)) ⟨k3, ?_⟩
        rw [hf]
        simpa [Ev.size] using e3
      | shelve n s =>
        rw [hev] at ht2 hf
        replace ht2 : H3' t = some (.tup [.str "shelve", .int n, .int s]) := ht2
        repeat walk_at "rd"
        refine ⟨rfl, ?_⟩
        repeat walk_at "rd"
        refine iteP (by simp) ?_
        repeat walk_at "rd"
        refine ⟨_, e3, hz, k3.wr (.inl nW), ?_⟩
        rw [upd_same, hf, List.map_append]
        rfl
      | take n s =>
        rw [hev] at ht2 hf
        replace ht2 : H3' t = some (.tup [.str "take", .int n, .int s]) := ht2
        repeat walk_at "rd"
        refine ⟨rfl, ?_⟩
        repeat walk_at "rd"
        refine iteN (ev_ne (by decide)) ⟨k3, ?_⟩
        rw [hf]
        simpa [Ev.size] using e3
    rintro H3 ⟨k3, eW⟩
    rw [List.length_map, hul, List.take_length] at eW
    replace eW : H3 W = some (.lst ((sizesOf evs).map V.int)) := eW
    have k03 := k2.trans k3
    have md3 := md2.keep k3
    have hins3 := k3 p _ (by simp) hins2
    have eZ3 := k3 Z _ (by simp) eZ
    have eS3 := md3.eS
    repeat walk_at "rd"
    refine x_maxP (SqL.of eW) fun pk hpk => ?_
    repeat walk_at "rd"
    refine y_lcL (SqL.of eS3) (fun Y nY => ⟨fun i H4 => Kx [] H3 H4 ∧ ∃ bs : List Addr, bs.length = i ∧ H4 Y = some (.lst ((List.range i).map (slotR slots (fun j => bs.getD j 0) log))) ∧
      ∀ (j : Nat) (row : Rw), j < i → slots[j]? = some (some row) → j ∉ log → H4 (bs.getD j 0) = some (.tup (rowV row)), ⟨(Kx.refl _ _).new nY, [], rfl, upd_same, fun j row hj => absurd hj (Nat.not_lt_zero _)⟩, ?_, ?_, ?_⟩)
    · rintro i H4 hi ⟨k4, _⟩
      exact k4.sqL (by simp) (SqL.of eS3)
    · rintro i x H4 H4' hi ⟨k4, bs, hb, e4, hr4⟩ ⟨rfl, hx⟩
      rw [List.length_map, List.length_range] at hi
      rw [List.getElem?_map, List.getElem?_range hi] at hx
      cases Option.some.inj hx
      have es := List.getElem?_eq_getElem hi
      have grow : ∀ a : Addr, (List.range (i + 1)).map (slotR slots (fun j => (bs ++ [a]).getD j 0) log) = (List.range i).map (slotR slots (fun j => bs.getD j 0) log) ++ [slotR slots (fun _ => a) log i] := by
        intro a
        rw [List.range_succ, List.map_append]
        congr 1
        · refine List.map_congr_left fun j hj => ?_
          have := List.mem_range.mp hj
          unfold slotR
          simp only [List.getD_eq_getElem?_getD]
          rw [List.getElem?_append_left (by omega)]
        · simp only [List.map_cons, List.map_nil]
          unfold slotR
          simp only [List.getD_eq_getElem?_getD]
          rw [List.getElem?_append_right (by omega), hb, Nat.sub_self]
          rfl
      have gold : ∀ (a : Addr) (j : Nat), j < i → (bs ++ [a]).getD j 0 = bs.getD j 0 := by
        intro a j hj
        simp only [List.getD_eq_getElem?_getD]
        rw [List.getElem?_append_left (by omega)]
      have gnew : ∀ a : Addr, (bs ++ [a]).getD i 0 = a := by
        intro a
        simp only [List.getD_eq_getElem?_getD]
        rw [List.getElem?_append_right (by omega), hb, Nat.sub_self]
        rfl
      by_cases hlv : isLive slots i = true ∧ i ∉ log
      · obtain ⟨row, er, _⟩ := live_lt hlv.1
        obtain ⟨hr1, hrW⟩ := ms.rows i row er
        have hrow : H4' (ra i) = some (.lst (rowV row)) := k4 _ _ (by simp) (md3.k _ _ hrW hr1)
        rw [show slotR slots ra log i = V.ref (ra i) by unfold slotR; rw [if_pos hlv]]
        repeat walk_at "rd"
        refine ⟨rfl, ?_⟩
        repeat walk_at "rd"
        refine iteF ?_
        repeat walk_at "rd"
        intro a na
        have naY : a ≠ Y := (ne_of_none e4 na).symm
        refine ⟨_, lk_ne e4 na, small1000 (by rw [List.length_map, List.length_range]; omega), (k4.new na).wr (.inl nY), bs ++ [a], by rw [List.length_append, hb]; rfl, ?_, ?_⟩
        · rw [upd_same, grow, show slotR slots (fun _ => a) log i = V.ref a by unfold slotR; rw [if_pos hlv]]
        · intro j row' hj hjr hjl
          by_cases hji : j = i
          · subst hji
            rw [er] at hjr
            cases Option.some.inj (Option.some.inj hjr)
            rw [gnew]
            exact lk_ne2 naY upd_same
          · rw [gold _ _ (by omega)]
            have h1 := hr4 j row' (by omega) hjr hjl
            exact lk_ne2 (fun z => by rw [z, e4] at h1; cases h1) (lk_ne h1 na)
      · rw [show slotR slots ra log i = V.non by unfold slotR; rw [if_neg hlv]]
        repeat walk_at "rd"
        refine ⟨rfl, ?_⟩
        repeat walk_at "rd"
        refine ⟨_, e4, small1000 (by rw [List.length_map, List.length_range]; omega), k4.wr (.inl nY), bs ++ [0], by rw [List.length_append, hb]; rfl, ?_, ?_⟩
        · rw [upd_same, grow, show slotR slots (fun _ => 0) log i = V.non by unfold slotR; rw [if_neg hlv]]
        · intro j row' hj hjr hjl
          by_cases hji : j = i
          · subst hji
            exact absurd ⟨by simp [isLive, hjr], hjl⟩ hlv
          · rw [gold _ _ (by omega)]
            have h1 := hr4 j row' (by omega) hjr hjl
            exact lk_ne2 (fun z => by rw [z, e4] at h1; cases h1) h1
    rintro H4 ⟨k4, bs, hb, eY, hrows⟩
    rw [List.length_map, List.length_range] at eY hrows
    have k04 := k03.trans k4
    have md4 := md3.keep k4
    have hins4 := k4 p _ (by simp) hins3
    have eZ4 := k4 Z _ (by simp) eZ3
    have eO4 := md4.eO
    repeat walk_at "rd"
    intro L nL
    repeat walk_at "rd"
    intro S' nS
    repeat walk_at "rd"
    intro O' nO
    repeat walk_at "rd"
    rename_i X nX B nB
    have kf : Kx [] H4 (upd (upd (upd (upd (upd H4 L (.tup (log.map fun n : Nat => V.int n))) S' (.tup ((List.range slots.length).map (slotR slots (fun j => bs.getD j 0) log)))) O' (.tup (outs.map V.int))) X (.tup [.ref S', .ref O'])) B (.tup [.ref L, .int pk, .ref X])) :=
      (((((Kx.refl [] H4).new nL).new nS).new nO).new nX).new nB
    refine k B L X pk _ (k04.trans kf) (SqT.of upd_same) (SqT.of (by walk_at "lk")) hpk ⟨S', O', _, SqT.of (by walk_at "lk"), SqT.of (by walk_at "lk"), SqT.of (by walk_at "lk"), by rw [afterS_len, List.length_map, List.length_range], fun i o ho => ?_⟩
    have hi : i < slots.length := by
      have := (List.getElem?_eq_some_iff.mp ho).1
      rwa [afterS_len] at this
    unfold afterS at ho
    rw [List.getElem?_map, List.getElem?_range hi] at ho
    cases Option.some.inj ho
    rw [List.getElem?_map, List.getElem?_range hi]
    simp only [Option.map_some]
    rw [List.getElem?_eq_getElem hi]
    simp only [Option.getD_some]
    by_cases hl : i ∈ log
    · refine .inl ⟨if_pos hl, ?_⟩
      unfold slotR
      rw [if_neg (fun z => z.2 hl)]
    · rw [if_neg hl]
      cases e : slots[i] with
      | none =>
        refine .inl ⟨rfl, ?_⟩
        unfold slotR
        rw [if_neg (fun z => by have := z.1; simp [isLive, List.getElem?_eq_getElem hi, e] at this)]
      | some row =>
        have er : slots[i]? = some (some row) := by rw [List.getElem?_eq_getElem hi, e]
        refine .inr ⟨bs.getD i 0, row, rfl, ?_, SqT.of (kf _ _ (by simp) (hrows i row hi er hl))⟩
        unfold slotR
        rw [if_pos ⟨by simp [isLive, er], hl⟩]
theorem left_nil_le {slots : List (Option Rw)} (h40 : slots.length ≤ 40) (hr : ∀ row, some row ∈ slots → row.length ≤ 40) : left slots [] ≤ 40 * 42 := by
  unfold left
  have : ∀ n, n ≤ slots.length → ((List.range n).map fun h => if h ∈ ([] : List Nat) then 0 else (rowOf slots h).length + 2).sum ≤ n * 42 := by
    intro n
    induction n with
    | zero => intro _; simp
    | succ n ih =>
      intro hn
      rw [List.range_succ, List.map_append, List.sum_append]
      have h1 := ih (by omega)
      have h2 : (rowOf slots n).length ≤ 40 := by
        unfold rowOf
        cases e : slots[n]? with
        | none => simp
        | some o =>
          cases o with
          | none => simp
          | some row => exact hr row (List.mem_of_getElem? e)
      simp only [List.not_mem_nil, if_false, List.map_cons, List.map_nil, List.sum_cons, List.sum_nil] at h1 ⊢
      omega
  have := this slots.length (Nat.le_refl _)
  omega
theorem wk_zero {slots : List (Option Rw)} {outs : List Int} {b : Int} (wf : WfB b slots outs) : Wk slots outs ⟨[], [], []⟩ := by
  have hlog0 : FS.log ⟨[], [], []⟩ = [] := rfl
  have hmu : FS.mu slots ⟨[], [], []⟩ ≤ 40 * 42 := left_nil_le wf.most wf.row
  exact ⟨⟨fun q hq => absurd hq (by simp), List.nodup_nil, fun m hm => absurd hm (by simp [hlog0]), fun m hm => absurd hm (by simp [hlog0])⟩, fun z hz => (wf.outs z hz).1, wf.live, wf.row, wf.most, by show 0 + 2 * FS.mu slots ⟨[], [], []⟩ ≤ 90000; omega⟩
end

/-! ### a run behind a log is a run of what that log leaves -/
section
variable {slots : List (Option Rw)} {outs : List Int} {lim : Int}
theorem rowOf_after {L : List Nat} {h : Nat} (hh : h < slots.length) : rowOf (afterS slots L) h = if h ∈ L then [] else rowOf slots h := by
  unfold rowOf afterS
  rw [List.getElem?_map, List.getElem?_range hh]
  simp only [Option.map_some, Option.getD_some]
  by_cases e : h ∈ L
  · rw [if_pos e, if_pos e]
    rfl
  · rw [if_neg e, if_neg e]
theorem cntH_after (L l : List Nat) (m : Nat) : cntH (afterS slots L) l m = cntH slots (L ++ l) m := by
  unfold cntH
  rw [afterS_len]
  congr 1
  refine List.map_congr_left fun h hh => ?_
  rw [rowOf_after (List.mem_range.mp hh)]
  by_cases e1 : h ∈ L
  · simp [e1]
  · by_cases e2 : h ∈ l
    · simp [e2]
    · simp [e1, e2]
theorem tal_after (L l : List Nat) (rest : List Pd) (m : Nat) : tal (afterS slots L) outs l rest m = tal slots outs (L ++ l) rest m := by
  unfold tal
  rw [cntH_after]
theorem kids_after {L : List Nat} {n d : Nat} (hn : n < slots.length) (h : n ∉ L) : kids (afterS slots L) n d = kids slots n d := by
  unfold kids
  rw [rowOf_after hn, if_neg h]
theorem sim_step {p : List Pd} {sh : List Nat} {E e : List Ev} {s' : FS} (wk : Wk slots outs ⟨p, sh, E ++ e⟩) (h : stepF slots outs lim ⟨p, sh, E ++ e⟩ = some s') :
    ∃ e', s'.evs = E ++ e' ∧ stepF (afterS slots (FS.log ⟨[], [], E⟩)) outs lim ⟨p, sh, e⟩ = some ⟨s'.pend, s'.shelf, e'⟩ := by
  have hlog : FS.log ⟨p, sh, E ++ e⟩ = FS.log ⟨[], [], E⟩ ++ FS.log ⟨p, sh, e⟩ := by
    unfold FS.log
    exact List.filterMap_append
  unfold stepF at h ⊢
  cases p with
  | nil =>
    simp only at h ⊢
    cases hs : sh.getLast? with
    | none => rw [hs] at h; cases h
    | some n =>
      rw [hs] at h
      cases Option.some.inj h
      have hsp : sh = sh.dropLast ++ [n] := by
        obtain ⟨ys, hy⟩ := List.getLast?_eq_some_iff.mp hs
        rw [hy, List.dropLast_concat]
      have hm : n ∈ FS.log ⟨[], sh, E ++ e⟩ ++ sh := List.mem_append_right _ (List.mem_of_getLast? hs)
      obtain ⟨_, _, hlt⟩ := live_lt (wk.ok.lv n hm)
      have hnd : (FS.log ⟨[], sh, E ++ e⟩ ++ sh).Nodup := wk.ok.nd
      have hnl : n ∉ FS.log ⟨[], [], E⟩ := fun hh => (List.nodup_append.mp hnd).2.2 n (by rw [hlog]; exact List.mem_append_left _ hh) n (List.mem_of_getLast? hs) rfl
      refine ⟨e ++ [.take n sh.dropLast.length, .destroy n 0], List.append_assoc _ _ _, ?_⟩
      simp only
      rw [kids_after hlt hnl]
  | cons q rest =>
    have hnew := wk.ok.new wk.ho rfl
    have hl := wk.ok.pl q List.mem_cons_self
    obtain ⟨_, _, hlt⟩ := live_lt hl
    have hnl : q.node ∉ FS.log ⟨[], [], E⟩ := fun hh => hnew (List.mem_append_left _ (by rw [hlog]; exact List.mem_append_left _ hh))
    simp only at h ⊢
    rw [show FS.log ⟨q :: rest, sh, e⟩ = FS.log ⟨[], [], e⟩ from rfl, tal_after]
    rw [hlog] at h
    rw [show FS.log ⟨q :: rest, sh, e⟩ = FS.log ⟨[], [], e⟩ from rfl] at h
    by_cases h0 : 0 < tal slots outs (FS.log ⟨[], [], E⟩ ++ FS.log ⟨[], [], e⟩) rest q.node
    · rw [if_pos h0] at h ⊢
      cases Option.some.inj h
      exact ⟨_, List.append_assoc _ _ _, rfl⟩
    · rw [if_neg h0] at h ⊢
      by_cases hd : (q.depth : Int) < lim
      · rw [if_pos hd] at h ⊢
        cases Option.some.inj h
        refine ⟨_, List.append_assoc _ _ _, ?_⟩
        rw [kids_after hlt hnl]
      · rw [if_neg hd] at h ⊢
        cases Option.some.inj h
        exact ⟨_, List.append_assoc _ _ _, rfl⟩
theorem sim_steps {p : List Pd} {sh : List Nat} {E : List Ev} (wk : Wk slots outs ⟨p, sh, E⟩) {s' : FS} (h : Steps slots outs lim ⟨p, sh, E⟩ s') :
    ∃ e', s'.evs = E ++ e' ∧ Steps (afterS slots (FS.log ⟨[], [], E⟩)) outs lim ⟨p, sh, []⟩ ⟨s'.pend, s'.shelf, e'⟩ ∧ Wk slots outs s' := by
  obtain ⟨n, hn⟩ := h
  induction n generalizing s' with
  | zero =>
    cases Option.some.inj (hn : some _ = some s')
    exact ⟨[], (List.append_nil _).symm, .refl _, wk⟩
  | succ n ih =>
    have hn : (run slots outs lim n ⟨p, sh, E⟩).bind (stepF slots outs lim) = some s' := hn
    cases er : run slots outs lim n ⟨p, sh, E⟩ with
    | none => rw [er] at hn; cases hn
    | some v =>
      rw [er] at hn
      obtain ⟨e1, h1, h2, h3⟩ := ih er
      have hv : v = ⟨v.pend, v.shelf, E ++ e1⟩ := by
        cases v
        simp only at h1
        rw [h1]
      rw [hv] at hn h3
      obtain ⟨e2, g1, g2⟩ := sim_step h3 hn
      exact ⟨e2, g1, h2.tail g2, h3.step hn⟩
/-- what a whole drop leaves is a heap -/
theorem wf_after {b : Int} (wf : WfB b slots outs) {outs' : List Int} {s : FS} (wk : Wk slots outs' s) (hp : s.pend = []) (hol : outs'.length = slots.length) (hb : ∀ z ∈ outs', z ≤ b) (hfr : ∀ m : Nat, slots[m]? = some none → outs'[m]? = some 0) : WfB b (afterS slots s.log) outs' := by
  have hz : ∀ n ∈ s.log, tal slots outs' s.log [] n = 0 := fun n hn => by
    have := wk.ok.z n (List.mem_append_left _ hn)
    rwa [hp] at this
  have hcnt : ∀ n ∈ s.log, (outs'[n]?).getD 0 = 0 ∧ cntH slots s.log n = 0 := fun n hn => by
    have h1 := hz n hn
    have h2 : 0 ≤ (outs'[n]?).getD 0 := by
      cases e : outs'[n]? with
      | none => exact Int.le_refl 0
      | some z => exact wk.ho z (List.mem_of_getElem? e)
    unfold tal at h1
    rw [show pendC [] n = 0 from rfl] at h1
    omega
  have hat : ∀ i : Nat, i < slots.length → (afterS slots s.log)[i]? = some (if i ∈ s.log then none else (slots[i]?).getD none) := fun i hi => by
    unfold afterS
    rw [List.getElem?_map, List.getElem?_range hi]
    rfl
  have hrow : ∀ row, some row ∈ afterS slots s.log → ∃ i, i < slots.length ∧ i ∉ s.log ∧ slots[i]? = some (some row) := fun row hr => by
    obtain ⟨i, hi, e⟩ := List.mem_map.mp (show some row ∈ (List.range slots.length).map _ from hr)
    have hi2 := List.mem_range.mp hi
    by_cases hl : i ∈ s.log
    · rw [if_pos hl] at e
      cases e
    · rw [if_neg hl, List.getElem?_eq_getElem hi2] at e
      exact ⟨i, hi2, hl, by rw [List.getElem?_eq_getElem hi2]; exact congrArg some e⟩
  refine ⟨by rw [afterS_len]; exact hol, by rw [afterS_len]; exact wf.most, fun m hm => ?_, fun z hz => ⟨wk.ho z hz, hb z hz⟩, fun row hr => ?_, fun row hr k hk => ?_⟩
  · have hml : m < slots.length := by
      have := (List.getElem?_eq_some_iff.mp hm).1
      rwa [afterS_len] at this
    rw [hat m hml] at hm
    by_cases hl : m ∈ s.log
    · have h1 := (hcnt m hl).1
      rw [List.getElem?_eq_getElem (by omega)] at h1 ⊢
      exact congrArg some h1
    · rw [if_neg hl, List.getElem?_eq_getElem hml] at hm
      exact hfr m (by rw [List.getElem?_eq_getElem hml]; exact hm)
  · obtain ⟨i, _, _, e⟩ := hrow row hr
    exact wf.row row (List.mem_of_getElem? e)
  · obtain ⟨i, hi, hil, e⟩ := hrow row hr
    obtain ⟨r, er⟩ := wf.live row (List.mem_of_getElem? e) k hk
    have hkl := (List.getElem?_eq_some_iff.mp er).1
    have hkn : k ∉ s.log := fun hkm => by
      have h2 := (hcnt k hkm).2
      unfold cntH at h2
      have h3 : (if i ∈ s.log then 0 else (rowOf slots i).count (some k)) = 0 := List.sum_eq_zero_iff_forall_eq_nat.mp h2 _ (List.mem_map.mpr ⟨i, List.mem_range.mpr hi, rfl⟩)
      rw [if_neg hil, rowOf_some e] at h3
      exact (List.count_eq_zero.mp h3) hk
    exact ⟨r, by rw [hat k hkl, if_neg hkn, er]; rfl⟩
end
theorem mf_empty (aS aO aR : Addr) (lim : Int) (aE aH aV : Addr) : List.lookup ("empty" : Str) (mf aS aO aR lim aE aH aV) = none := by with_unfolding_all rfl
local macro_rules | `(tactic| walk_at "ml") => `(tactic| exact mf_empty ..) --keep

/-! ### slot after slot -/
def rowN (row : Rw) (i : Nat) : Rw := List.replicate i none ++ row.drop i
def slotN (slots : List (Option Rw)) (node : Nat) (row : Rw) (i : Nat) : List (Option Rw) := slots.set node (some (rowN row i))
theorem rowN_len {row : Rw} {i : Nat} (h : i ≤ row.length) : (rowN row i).length = row.length := by
  unfold rowN
  rw [List.length_append, List.length_replicate, List.length_drop]
  omega
theorem rowN_at {row : Rw} {i : Nat} (h : i < row.length) : (rowN row i)[i]? = some row[i] := by
  unfold rowN
  rw [List.getElem?_append_right (by rw [List.length_replicate]; exact Nat.le_refl _), List.length_replicate, Nat.sub_self, List.getElem?_drop, Nat.add_zero, List.getElem?_eq_getElem h]
theorem rowN_set {row : Rw} {i : Nat} (h : i < row.length) : (rowN row i).set i none = rowN row (i + 1) := by
  unfold rowN
  rw [List.set_append_right _ _ (by rw [List.length_replicate]; exact Nat.le_refl _), List.length_replicate, Nat.sub_self, List.drop_eq_getElem_cons h, List.set_cons_zero, List.replicate_succ', List.append_assoc]
  rfl
section
variable {slots : List (Option Rw)} {outs : List Int} {lim : Int} {node : Nat} {row : Rw}
theorem slotN_zero (er : slots[node]? = some (some row)) : slotN slots node row 0 = slots := by
  unfold slotN rowN
  refine List.ext_getElem? fun i => ?_
  by_cases e : node = i
  · subst e
    rw [List.getElem?_set_self (List.getElem?_eq_some_iff.mp er).1, er]
    rfl
  · rw [List.getElem?_set_ne e]
theorem slotN_at (er : slots[node]? = some (some row)) (i : Nat) : (slotN slots node row i)[node]? = some (some (rowN row i)) := List.getElem?_set_self (List.getElem?_eq_some_iff.mp er).1
theorem slotN_len (i : Nat) : (slotN slots node row i).length = slots.length := List.length_set
theorem slotN_put (er : slots[node]? = some (some row)) {i : Nat} (h : i < row.length) : putS (slotN slots node row i) node i none = slotN slots node row (i + 1) := by
  unfold putS
  rw [rowOf_some (slotN_at er i), rowN_set h]
  unfold slotN
  rw [List.set_set]
def EndsA (slots : List (Option Rw)) (outs : List Int) (lim : Int) (o : Option Nat) (e : List Ev) : Prop := match o with | none => e = [] | some k => Steps slots outs lim ⟨[⟨none, none, k, 0⟩], [], []⟩ ⟨[], [], e⟩
theorem end_none {s : FS} (hp : s.pend = []) (he : s.shelf = []) : stepF slots outs lim s = none := by
  unfold stepF
  rw [hp, he]
  rfl
theorem EndsA.det {o : Option Nat} {a b : List Ev} (h : EndsA slots outs lim o a) (g : EndsA slots outs lim o b) : a = b := by
  cases o with
  | none => exact (show a = [] from h).trans (show b = [] from g).symm
  | some k => exact congrArg FS.evs (Steps.det (show Steps _ _ _ _ _ from h) (end_none rfl rfl) (show Steps _ _ _ _ _ from g) (end_none rfl rfl))
/-- the events after the first i slots are emptied -/
def ChainA (slots : List (Option Rw)) (outs : List Int) (lim : Int) (node : Nat) (row : Rw) : Nat → List Ev → Prop
  | 0, E => E = []
  | i + 1, E => ∃ E0 e, ChainA slots outs lim node row i E0 ∧ E = E0 ++ e ∧ EndsA (afterS (slotN slots node row (i + 1)) (FS.log ⟨[], [], E0⟩)) outs lim ((row[i]?).getD none) e
theorem ChainA.det : ∀ {i : Nat} {a b : List Ev}, ChainA slots outs lim node row i a → ChainA slots outs lim node row i b → a = b
  | 0, _, _, h, g => (show _ = [] from h).trans (show _ = [] from g).symm
  | i + 1, _, _, h, g => by
    obtain ⟨E0, e, h1, rfl, h2⟩ := h
    obtain ⟨E1, e1, g1, rfl, g2⟩ := g
    cases h1.det g1
    rw [h2.det g2]
def FinA (slots : List (Option Rw)) (outs outs1 : List Int) (lim : Int) (node : Nat) (row : Rw) (E : List Ev) : Prop :=
  ∃ E0 e, ChainA slots outs1 lim node row row.length E0 ∧ E = E0 ++ e ∧ EndsA (afterS (slotN slots node row row.length) (FS.log ⟨[], [], E0⟩)) outs lim (some node) e
theorem FinA.det {outs1 : List Int} {a b : List Ev} (h : FinA slots outs outs1 lim node row a) (g : FinA slots outs outs1 lim node row b) : a = b := by
  obtain ⟨E0, e, h1, rfl, h2⟩ := h
  obtain ⟨E1, e1, g1, rfl, g2⟩ := g
  cases h1.det g1
  rw [h2.det g2]
theorem steps_sz {s s' : FS} (wk : Wk slots outs s) (h : Steps slots outs lim s s') : s'.evs.length + 2 * s'.mu slots ≤ s.evs.length + 2 * s.mu slots := by
  obtain ⟨n, hn⟩ := h
  have : ∀ (n : Nat) (s' : FS), run slots outs lim n s = some s' → Wk slots outs s' ∧ s'.evs.length + 2 * s'.mu slots ≤ s.evs.length + 2 * s.mu slots := by
    intro n
    induction n with
    | zero => intro s' e; cases Option.some.inj (e : some s = some s'); exact ⟨wk, Nat.le_refl _⟩
    | succ n ih =>
      intro s' e
      have e : (run slots outs lim n s).bind (stepF slots outs lim) = some s' := e
      cases er : run slots outs lim n s with
      | none => rw [er] at e; cases e
      | some v =>
        rw [er] at e
        obtain ⟨w1, w2⟩ := ih v er
        have := step_mu w1.ok w1.ho e
        exact ⟨w1.step e, by omega⟩
  exact (this n s' hn).2
theorem not_dead {s : FS} (wk : Wk slots outs s) {n : Nat} {z : Int} (hz : outs[n]? = some z) (h1 : 1 ≤ z) : n ∉ s.log := by
  intro h
  have h2 := wk.ok.z n (List.mem_append_left _ h)
  unfold tal at h2
  rw [hz] at h2
  simp only [Option.getD_some] at h2
  omega
end
/-- as ChainA, behind earlier events -/
def ChainG (slots : List (Option Rw)) (outs : List Int) (lim : Int) (node : Nat) (row : Rw) (EE : List Ev) : Nat → List Ev → Prop
  | 0, E => E = EE
  | i + 1, E => ∃ E0 e, ChainG slots outs lim node row EE i E0 ∧ E = E0 ++ e ∧ EndsA (afterS (slotN slots node row (i + 1)) (FS.log ⟨[], [], E0⟩)) outs lim ((row[i]?).getD none) e
def FinG (slots : List (Option Rw)) (outs outs1 : List Int) (lim : Int) (node : Nat) (row : Rw) (EE E : List Ev) : Prop :=
  ∃ E0 e, ChainG slots outs1 lim node row EE row.length E0 ∧ E = E0 ++ e ∧ EndsA (afterS (slotN slots node row row.length) (FS.log ⟨[], [], E0⟩)) outs lim (some node) e
theorem log_ev (a b : List Ev) : FS.log ⟨[], [], a ++ b⟩ = FS.log ⟨[], [], a⟩ ++ FS.log ⟨[], [], b⟩ := List.filterMap_append
theorem after_after (slots : List (Option Rw)) (a b : List Nat) : afterS (afterS slots a) b = afterS slots (a ++ b) := by
  unfold afterS
  rw [List.length_map, List.length_range]
  refine List.map_congr_left fun i hi => ?_
  rw [List.getElem?_map, List.getElem?_range (List.mem_range.mp hi)]
  simp only [Option.map_some, Option.getD_some, List.mem_append]
  by_cases h1 : i ∈ a
  · simp [h1]
  · by_cases h2 : i ∈ b
    · simp [h2]
    · simp [h1, h2]
theorem slotN_after {slots : List (Option Rw)} {node : Nat} {row : Rw} {L : List Nat} (hlt : node < slots.length) (hn : node ∉ L) (i : Nat) : slotN (afterS slots L) node row i = afterS (slotN slots node row i) L := by
  unfold slotN afterS
  refine List.ext_getElem? fun m => ?_
  rw [List.length_set, List.getElem?_map]
  by_cases hm : m < slots.length
  · rw [List.getElem?_range hm]
    by_cases e : node = m
    · subst e
      rw [List.getElem?_set_self (by rw [List.length_map, List.length_range]; exact hlt)]
      simp only [Option.map_some]
      rw [if_neg hn, List.getElem?_set_self hlt]
      rfl
    · rw [List.getElem?_set_ne e, List.getElem?_map, List.getElem?_range hm]
      simp only [Option.map_some]
      rw [List.getElem?_set_ne e]
  · rw [List.getElem?_eq_none (by rw [List.length_set, List.length_map, List.length_range]; omega), List.getElem?_eq_none (by rw [List.length_range]; omega)]
    rfl
theorem chainA_of {slots : List (Option Rw)} {outs : List Int} {lim : Int} {node : Nat} {row : Rw} {EE : List Ev} (hlt : node < slots.length) (hn : node ∉ FS.log ⟨[], [], EE⟩) : ∀ {i : Nat} {E : List Ev}, ChainG slots outs lim node row EE i E → ∃ E', E = EE ++ E' ∧ ChainA (afterS slots (FS.log ⟨[], [], EE⟩)) outs lim node row i E'
  | 0, E, h => ⟨[], by rw [show E = EE from h, List.append_nil], rfl⟩
  | i + 1, E, h => by
    obtain ⟨E0, e, h1, rfl, h2⟩ := h
    obtain ⟨E', rfl, h3⟩ := chainA_of hlt hn h1
    refine ⟨E' ++ e, List.append_assoc _ _ _, E', e, h3, rfl, ?_⟩
    rw [slotN_after hlt hn, after_after, ← log_ev]
    exact h2
theorem finA_of {slots : List (Option Rw)} {outs outs1 : List Int} {lim : Int} {node : Nat} {row : Rw} {EE E : List Ev} (hlt : node < slots.length) (hn : node ∉ FS.log ⟨[], [], EE⟩) (h : FinG slots outs outs1 lim node row EE E) : ∃ E', E = EE ++ E' ∧ FinA (afterS slots (FS.log ⟨[], [], EE⟩)) outs outs1 lim node row E' := by
  obtain ⟨E0, e, h1, rfl, h2⟩ := h
  obtain ⟨E', rfl, h3⟩ := chainA_of hlt hn h1
  refine ⟨E' ++ e, List.append_assoc _ _ _, E', e, h3, rfl, ?_⟩
  rw [slotN_after hlt hn, after_after, ← log_ev]
  exact h2
section
variable {P : Program} {w : World} {K : PySem.W.Frag} {mg : Str → Option Value} {base : Heap}
def spEmpty (K : PySem.W.Frag) (C : Addr) : Sp := fun vs H Q _ => ∃ (slots : List (Option Rw)) (p dx aS aO aR aE aH aV : Addr) (ra : Nat → Addr) (lim : Int) (outs : List Int) (node : Nat) (row : Rw) (z : Int) (EE : List Ev) (Bd : Nat),
  vs = [.ref p, .int node] ∧ MS slots C H p dx aS aO aR aE aH aV ra lim ∧ MD slots H H aS aO aR aE aH aV ra outs (tal slots outs (FS.log ⟨[], [], EE⟩) []) (FS.log ⟨[], [], EE⟩) [] [] EE ∧ ClR K C ∧ Wk slots outs ⟨[], [], EE⟩ ∧ node ∉ FS.log ⟨[], [], EE⟩ ∧ outs.length = slots.length ∧ slots[node]? = some (some row) ∧ outs[node]? = some z ∧ EE.length + 2 * FS.mu slots ⟨[], [], EE⟩ ≤ Bd ∧ Bd ≤ 80000 ∧ 0 < lim ∧
  ∀ E H2 H', (∀ b o, b ∉ [aS, aO, aR, aE, aH, aV] → b ≠ ra node → H b = some o → H' b = some o) → MS (slotN slots node row row.length) C H2 p dx aS aO aR aE aH aV ra lim → MD (slotN slots node row row.length) H2 H' aS aO aR aE aH aV ra outs (tal (slotN slots node row row.length) outs (FS.log ⟨[], [], E⟩) []) (FS.log ⟨[], [], E⟩) [] [] E →
    Wk (slotN slots node row row.length) outs ⟨[], [], E⟩ → FinG slots outs (outs.set node (z + 1)) lim node row EE E → E.length + 2 * FS.mu (slotN slots node row row.length) ⟨[], [], E⟩ ≤ Bd + 2 * row.length + 2 → Q .non H'
theorem ok_empty {C : Addr} {f : Addr} {fd : FuncData} (F : Fun K "empty" "Releasing.empty" sReleasingEmpty f fd) (T : Txt mg) (m_put : Lm P w K mg base C "put" 5 ["self", "node", "slot", "target"] (spPut K C)) (m_drop : Lm P w K mg base C "drop" 4 ["self", "node"] (spMDrop K C)) (cR : Cls K C) :
    FnOk P w K mg base CX0 6 f fd ["self", "node"] (spEmpty K C) := by
  refine F.ok scReleasingEmpty (fun vs H Q E h => ?_) (fun cdv A outer s H vs Q E hr h => ?_)
  · obtain ⟨slots, p, dx, aS, aO, aR, aE, aH, aV, ra, lim, outs, node, row, z, EE, Bd, rfl, _⟩ := h
    rfl
  · obtain ⟨slots, p, dx, aS, aO, aR, aE, aH, aV, ra, lim, outs, node, row, z, EE, Bd, rfl, ms, md, hC, wk, hn0, hol, er, hz, hmu, hBd, hlim, k⟩ := h
    refine ⟨_, (pss_cons (ps_augS (pe_fld (pv 0) rfl) (pv 1) get_list pe_int ip_add set_list)
      (pss_cons (ps_augS (pe_fld (pv 0) rfl) (pv 1) get_list pe_int ip_add set_list)
      (pss_cons (ps_for PassesOwn.never rfl (pi_range1 (by rfl) T.b_range (pa_cons (pe_callB call_len_seq (by rfl) T.b_len boot'_len (pa_cons (pe_ix ix_list (pe_fld (pv 0) rfl) (pv 1) (fun _ _ => rfl)) pa_nil)) pa_nil)) (pg_name (i := 2) scReleasingEmpty.nd rfl (Or.inl rfl))
      (pss_one (ps_expr (pe_lm m_put cR (hr.mono (by decide)) (pv 0) (pa_cons (pv 1) (pa_cons (pv 2) (pa_cons pe_non pa_nil)))))))
      (pss_one (ps_expr (pe_lm m_drop cR (hr.mono (by decide)) (pv 0) (pa_cons (pv 1) pa_nil))))))), ?_⟩
    refine x_start (σ' := [some (.ref p), some (.int node), none]) rfl ?_
    dsimp only [cxOf]
    have six := ms.six
    have hins := md.k _ _ ms.pW ms.ins
    have hlt := (List.getElem?_eq_some_iff.mp er).1
    have hlv : isLive slots node = true := by simp [isLive, er]
    have hnl := (List.getElem?_eq_some_iff.mp hz).1
    have hz0 : 0 ≤ z := wk.ho z (List.mem_of_getElem? hz)
    have eO := md.eO
    have atO : atI (outs.map V.int) (node : Int) = some (.int z) := atI_nat (by rw [List.getElem?_map, hz]; rfl)
    have ixO : ixN (outs.map V.int).length (node : Int) = some node := ix_nat (by rw [List.length_map]; exact hnl)
    repeat walk_at "rd"
    have md1 := md.wO six (outs.set node (z + 1))
    rw [List.map_set] at md1
    have kq1 : Kx [aS, aO, aR, aE, aH, aV] H (upd H aO (.lst ((outs.map V.int).set node (V.int (z + 1))))) := (Kx.refl _ _).wr (.inr (by simp))
    generalize upd H aO (.lst ((outs.map V.int).set node (V.int (z + 1)))) = Ha at *
    have hins1 := md1.k _ _ ms.pW ms.ins
    have eR1 := md1.eR
    have atR : atI ((List.range slots.length).map (refR slots (tal slots outs (FS.log ⟨[], [], EE⟩) []))) (node : Int) = some (.int (tal slots outs (FS.log ⟨[], [], EE⟩) [] node)) := by
      rw [range_at hlt]
      unfold refR
      rw [if_pos hlv]
    have ixR := range_ix (f := refR slots (tal slots outs (FS.log ⟨[], [], EE⟩) [])) hlt
    have htal : ∀ m, tal slots (outs.set node (z + 1)) (FS.log ⟨[], [], EE⟩) [] m = tal slots outs (FS.log ⟨[], [], EE⟩) [] m + (if node = m then 1 else 0) := fun m => by
      unfold tal
      by_cases e : node = m
      · subst e
        rw [List.getElem?_set_self hnl, hz]
        simp only [Option.getD_some, if_true]
        omega
      · rw [List.getElem?_set_ne e, if_neg e]
        omega
    have hset : ((List.range slots.length).map (refR slots (tal slots outs (FS.log ⟨[], [], EE⟩) []))).set node (V.int (tal slots outs (FS.log ⟨[], [], EE⟩) [] node + 1)) = (List.range slots.length).map (refR slots (tal slots (outs.set node (z + 1)) (FS.log ⟨[], [], EE⟩) [])) :=
      range_set hlt (by unfold refR; rw [if_pos hlv, htal, if_pos rfl]) (fun i hi => by unfold refR; rw [htal, if_neg (Ne.symm hi), Int.add_zero])
    repeat walk_at "rd"
    rw [hset]
    have md2 := md1.wR six (tal slots (outs.set node (z + 1)) (FS.log ⟨[], [], EE⟩) [])
    have kq2 : Kx [aS, aO, aR, aE, aH, aV] H (upd Ha aR (.lst ((List.range slots.length).map (refR slots (tal slots (outs.set node (z + 1)) (FS.log ⟨[], [], EE⟩) []))))) := kq1.wr (.inr (by simp))
    generalize upd Ha aR (.lst ((List.range slots.length).map (refR slots (tal slots (outs.set node (z + 1)) (FS.log ⟨[], [], EE⟩) [])))) = Hb at *
    have hins2 := md2.k _ _ ms.pW ms.ins
    have eS2 := md2.eS
    have atS : atI ((List.range slots.length).map (slotR slots ra (FS.log ⟨[], [], EE⟩))) (node : Int) = some (.ref (ra node)) := by
      rw [range_at hlt]
      unfold slotR
      rw [if_pos ⟨hlv, hn0⟩]
    have hrow : Hb (ra node) = some (.lst (rowV row)) := md2.k _ _ (ms.rows node row er).2 (ms.rows node row er).1
    have hrl : (rowV row).length = row.length := by unfold rowV; exact List.length_map _
    have h40 := wk.rl row (List.mem_of_getElem? er)
    have hz1 : (outs.set node (z + 1))[node]? = some (z + 1) := List.getElem?_set_self hnl
    have hol1 : (outs.set node (z + 1)).length = slots.length := by rw [List.length_set]; exact hol
    have wk1 : Wk slots (outs.set node (z + 1)) ⟨[], [], EE⟩ := ⟨⟨fun q hq => (by cases hq), wk.ok.nd, fun m hm => (by
      have h1 := wk.ok.z m hm
      have hmn : node ≠ m := fun e => by rw [show FS.log ⟨[], [], EE⟩ ++ [] = FS.log ⟨[], [], EE⟩ from List.append_nil _] at hm; exact hn0 (e ▸ hm)
      have h2 := htal m
      rw [if_neg hmn, Int.add_zero] at h2
      exact h2.trans h1), wk.ok.lv⟩, fun y hy => by
      rcases List.mem_or_eq_of_mem_set hy with hy | rfl
      · exact wk.ho y hy
      · omega, wk.wl, wk.rl, wk.most, wk.sz⟩
    repeat walk_at "rd"
    rw [hrl]
    refine y_forR1 (by omega) (by omega) ⟨fun i σ Hi => ∃ (H2 : Hp) (E : List Ev) (y2 : Option V), σ = [some (.ref p), some (.int node), y2] ∧ MS (slotN slots node row i) C H2 p dx aS aO aR aE aH aV ra lim ∧
      MD (slotN slots node row i) H2 Hi aS aO aR aE aH aV ra (outs.set node (z + 1)) (tal (slotN slots node row i) (outs.set node (z + 1)) (FS.log ⟨[], [], E⟩) []) (FS.log ⟨[], [], E⟩) [] [] E ∧ Wk (slotN slots node row i) (outs.set node (z + 1)) ⟨[], [], E⟩ ∧ ChainG slots (outs.set node (z + 1)) lim node row EE i E ∧
      E.length + 2 * FS.mu (slotN slots node row i) ⟨[], [], E⟩ ≤ Bd + 2 * i ∧ (∀ b o, b ∉ [aS, aO, aR, aE, aH, aV] → b ≠ ra node → H b = some o → H2 b = some o), ?_, fun _ _ _ _ _ => trivial, ?_, ?_⟩
    · refine ⟨H, EE, none, rfl, ?_, ?_, ?_, rfl, ?_, fun b o _ _ e => e⟩
      · rw [slotN_zero er]; exact ms
      · rw [slotN_zero er]; exact md2
      · rw [slotN_zero er]; exact wk1
      · rw [slotN_zero er]
        omega
    · rintro i x σ Hi Hi' hi ⟨H2, E, y2, rfl, ms2, md2', wk2, ch, hsz, kk⟩ ⟨rfl, rfl⟩
      have hir : i < row.length := by omega
      have hri : i < (rowN row i).length := by rw [rowN_len (Nat.le_of_lt hir)]; exact hir
      have hins3 := md2'.k _ _ ms2.pW ms2.ins
      have hnd : node ∉ FS.log ⟨[], [], E⟩ := not_dead wk2 hz1 (by omega)
      have heq : (rowN row i)[i] = row[i] := by
        have := rowN_at hir
        rw [List.getElem?_eq_getElem hri] at this
        exact Option.some.inj this
      repeat walk_at "rd"
      rw [Int.zero_add]
      refine ⟨slotN slots node row i, H2, p, dx, aS, aO, aR, aE, aH, aV, ra, lim, outs.set node (z + 1), ⟨[], [], E⟩, node, i, rowN row i, none, hri, rfl, ms2, md2', hC, wk2, rfl, rfl, by rw [slotN_len]; exact hol1, slotN_at er i, hnd, fun t e => (by cases e), by show E.length + 2 * _ ≤ 89000; omega, hlim, fun s' H3 H4 kx3 ms3 md3 wk3 hp3 he3 hst => ?_⟩
      rw [slotN_put er hir] at ms3 md3 wk3
      have hs' : s' = ⟨[], [], s'.evs⟩ := by
        cases s'
        simp only at hp3 he3
        rw [hp3, he3]
      have hchain : ChainG slots (outs.set node (z + 1)) lim node row EE (i + 1) s'.evs ∧ s'.evs.length + 2 * FS.mu (slotN slots node row (i + 1)) s' ≤ Bd + 2 * (i + 1) := by
        have hmuE : FS.mu (slotN slots node row i) ⟨[], [], E⟩ = FS.mu (slotN slots node row (i + 1)) ⟨[], [], E⟩ := by
          rw [← slotN_put er hir]
          unfold FS.mu
          rw [left_put (slotN_at er i)]
        rw [heq] at hst
        cases hc : row[i] with
        | none =>
          rw [hc] at hst
          have hst : s' = ⟨[], [], E⟩ := hst
          rw [hst]
          refine ⟨⟨E, [], ch, (List.append_nil _).symm, ?_⟩, ?_⟩
          · rw [List.getElem?_eq_getElem hir, hc]
            rfl
          · rw [← hmuE]
            show E.length + _ ≤ _
            omega
        | some k' =>
          rw [hc] at hst
          obtain ⟨wkS, hst⟩ := hst
          rw [slotN_put er hir] at wkS hst
          obtain ⟨e', h1, h2, _⟩ := sim_steps wkS hst
          have hsz2 : s'.evs.length + 2 * FS.mu (slotN slots node row (i + 1)) s' ≤ E.length + 2 * (FS.mu (slotN slots node row i) ⟨[], [], E⟩ + 1) := by
            rw [hmuE]
            exact steps_sz wkS hst
          refine ⟨⟨E, e', ch, h1, ?_⟩, ?_⟩
          · rw [List.getElem?_eq_getElem hir, hc]
            show Steps _ _ _ _ ⟨[], [], e'⟩
            rw [hp3, he3] at h2
            exact h2
          · omega
      repeat walk_at "rd"
      refine ⟨H3, s'.evs, _, rfl, ms3, ?_, ?_, hchain.1, ?_, fun b o hb hbr e => kx3 b o (by simpa using hbr) (md2'.k b o hb (kk b o hb hbr e))⟩
      · rw [hs'] at md3
        exact md3
      · rw [← hs']
        exact wk3
      · rw [← hs']
        exact hchain.2
    · rintro σ Hi ⟨H2, E, y2, rfl, ms2, md2', wk2, ch, hsz, kk⟩
      rw [Int.toNat_natCast] at ms2 md2' wk2 ch hsz
      have hins3 := md2'.k _ _ ms2.pW ms2.ins
      have hlN : isLive (slotN slots node row row.length) node = true := by simp [isLive, slotN_at er]
      have hback : (outs.set node (z + 1)).set node (z + 1 - 1) = outs := by
        rw [List.set_set]
        refine List.ext_getElem? fun i => ?_
        by_cases e : node = i
        · subst e
          rw [List.getElem?_set_self hnl, hz]
          congr 1
          omega
        · rw [List.getElem?_set_ne e]
      have wkS := wk2.start rfl rfl hz1 (by omega) hlN (by show E.length + 2 * _ ≤ 89000; omega)
      rw [hback] at wkS
      repeat walk_at "rd"
      refine ⟨slotN slots node row row.length, H2, p, dx, aS, aO, aR, aE, aH, aV, ra, lim, outs.set node (z + 1), ⟨[], [], E⟩, node, z + 1, rfl, ms2, md2', hC, wk2, rfl, rfl, by rw [slotN_len]; exact hol1, hz1, by omega, hlN, by show E.length + 2 * _ ≤ 89000; omega, hlim, fun s' H4 hst hp4 he4 wk4 md4 => ?_⟩
      rw [hback] at hst wk4 md4
      have hs' : s' = ⟨[], [], s'.evs⟩ := by
        cases s'
        simp only at hp4 he4
        rw [hp4, he4]
      obtain ⟨e', h1, h2, _⟩ := sim_steps wkS hst
      rw [hp4, he4] at h2
      repeat walk_at "rd"
      have hfz : s'.evs.length + 2 * FS.mu (slotN slots node row row.length) ⟨[], [], s'.evs⟩ ≤ Bd + 2 * row.length + 2 := by
        have h9 := steps_sz wkS hst
        rw [hs'] at h9
        have e9 : FS.mu (slotN slots node row row.length) ⟨[⟨none, none, node, 0⟩], [], E⟩ = FS.mu (slotN slots node row row.length) ⟨[], [], E⟩ + 1 := rfl
        have h9 : s'.evs.length + 2 * FS.mu (slotN slots node row row.length) ⟨[], [], s'.evs⟩ ≤ E.length + 2 * FS.mu (slotN slots node row row.length) ⟨[⟨none, none, node, 0⟩], [], E⟩ := h9
        omega
      refine k s'.evs H2 H4 (fun b o hb hbr e => md4.k b o hb (kk b o hb hbr e)) ms2 ?_ ?_ ⟨E, e', ch, h1, h2⟩ hfz
      · rw [hs'] at md4
        exact md4
      · rw [← hs']
        exact wk4
end


section
variable {P : Program} {w : World} {K : PySem.W.Frag} {mg : Str → Option Value} {base : Heap}

/-- the counts of all nodes, free ones too -/
def useAll (slots : List (Option Rw)) (outs : List Int) (f : Nat → Nat) : List Int := (List.range slots.length).map fun m => (outs[m]?).getD 0 + (f m : Int)
theorem useAll_at {slots : List (Option Rw)} {outs : List Int} {f : Nat → Nat} {m : Nat} (h : m < slots.length) : atI ((useAll slots outs f).map V.int) (m : Int) = some (.int ((outs[m]?).getD 0 + (f m : Int))) := atI_nat (by
  unfold useAll
  rw [List.getElem?_map, List.getElem?_map, List.getElem?_range h]
  rfl)
theorem useAll_ix {slots : List (Option Rw)} {outs : List Int} {f : Nat → Nat} {m : Nat} (h : m < slots.length) : ixN ((useAll slots outs f).map V.int).length (m : Int) = some m := ix_nat (by
  unfold useAll
  rw [List.length_map, List.length_map, List.length_range]
  exact h)
theorem useAll_set {slots : List (Option Rw)} {outs : List Int} {f g : Nat → Nat} {m : Nat} (h : m < slots.length) (h1 : g m = f m + 1) (h2 : ∀ k, k ≠ m → g k = f k) : ((useAll slots outs f).map V.int).set m (.int ((outs[m]?).getD 0 + (f m : Int) + 1)) = (useAll slots outs g).map V.int := by
  unfold useAll
  rw [List.map_map, List.map_map]
  refine range_set h ?_ fun i hi => ?_
  · show V.int ((outs[m]?).getD 0 + (g m : Int)) = V.int ((outs[m]?).getD 0 + (f m : Int) + 1)
    rw [h1]
    congr 1
    omega
  · show V.int ((outs[i]?).getD 0 + (g i : Int)) = V.int ((outs[i]?).getD 0 + (f i : Int))
    rw [h2 i hi]
theorem useAll_ext {slots : List (Option Rw)} {outs : List Int} {f g : Nat → Nat} (h : ∀ m, f m = g m) : useAll slots outs f = useAll slots outs g := by
  rw [show f = g from funext h]
def spTallies (K : PySem.W.Frag) : Sp := fun vs H Q _ => ∃ (D : Addr) (slots : List (Option Rw)) (outs : List Int), vs = [.ref D] ∧ HeapT K H D slots outs ∧ (∃ b, WfB b slots outs) ∧
  ∀ p H', H p = none → Kx [] H H' → H' p = some (.lst ((useAll slots outs (useC slots)).map V.int)) → Q (.ref p) H'
theorem ok_tallies {f : Addr} {fd : FuncData} (F : Fun K "_law_tallies" "_law_tallies" sQTallies f fd) (T : Txt mg) : FnOk P w K mg base CX0 1 f fd ["_law_base_here"] (spTallies K) := by
  refine F.ok scQTallies (fun vs H Q E h => ?_) (fun cdv A outer s H vs Q E hr h => ?_)
  · obtain ⟨D, slots, outs, rfl, _⟩ := h
    rfl
  · obtain ⟨D, slots, outs, rfl, hT, ⟨b0, wf⟩, k⟩ := h
    obtain ⟨S, O, vs, hD, hS, hO, hl, hv⟩ := id hT.ex
    refine ⟨_, (pss_cons (ps_set (i := 1) scQTallies.nd rfl (Or.inl rfl) (pe_callTy call_list_of (by rfl) T.b_list boot'_list (pa_cons (pe_ix ix_tup (pv 0) pe_int (fun _ _ => rfl)) pa_nil)))
      (pss_cons (ps_for PassesOwn.never rfl (pi_tup (pe_ix ix_tup (pv 0) pe_int (fun _ _ => rfl))) (pg_name (i := 2) scQTallies.nd rfl (Or.inl rfl))
      (pss_one (ps_for PassesOwn.never rfl (pi_tup (pe_orT (pv 2) (pe_one (pe_tup pa_nil)))) (pg_name (i := 3) scQTallies.nd rfl (Or.inl rfl))
      (pss_one (ps_if (pt_cmpR op_notN1 (pv 3) pe_non (nomark _)) (pss_one (ps_asg (pe_op op_add (pe_ix ix_list (pv 1) (pv 3) (fun _ _ => rfl)) pe_int) (pg_sub (pv 1) (pv 3) set_list))) pss_nil)))))
      (pss_one (ps_ret (pv 1))))), ?_⟩
    refine x_start (σ' := [some (.ref D), none, none, none]) rfl ?_
    dsimp only [cxOf]
    have h40 := wf.most
    have hol := wf.len
    repeat walk_at "rd"
    intro U nU
    have k0 : Kx [] H (upd H U (.lst (outs.map V.int))) := (Kx.refl [] H).new nU
    have hD1 := k0.sqT (by simp) hD
    have hS1 := k0.sqT (by simp) hS
    repeat walk_at "rd"
    refine y_forT (xs := vs) hS1 ⟨fun i σ H1 => ∃ (y2 y3 : Option V), σ = [some (.ref D), some (.ref U), y2, y3] ∧ Kx [] H H1 ∧ H1 U = some (.lst ((useAll slots outs (cntUp slots i)).map V.int)),
      ⟨none, none, rfl, k0, ?_⟩, ?_, ?_, ?_⟩
    · rw [upd_same]
      congr 2
      refine List.ext_getElem? fun m => ?_
      unfold useAll
      rw [List.getElem?_map, List.getElem?_map, List.getElem?_map]
      by_cases hm : m < slots.length
      · rw [List.getElem?_range hm, List.getElem?_eq_getElem (by omega)]
        simp only [Option.map_some]
        show some (V.int _) = some (V.int _)
        rw [List.getElem?_eq_getElem (by omega)]
        simp [cntUp]
      · rw [List.getElem?_eq_none (by omega), List.getElem?_eq_none (by rw [List.length_range]; omega)]
        rfl
    · rintro i σ H1 hi ⟨y2, y3, rfl, k1, e1⟩
      exact k1.sqT (by simp) hS
    · rintro i x σ H1 H1' hi ⟨y2, y3, rfl, k1, e1⟩ ⟨rfl, hx⟩
      have hs : i < slots.length := by omega
      have es := List.getElem?_eq_getElem hs
      rcases hv i _ es with ⟨e, z⟩ | ⟨r, row, e, z, hF⟩
      · cases Option.some.inj (z.symm.trans hx)
        repeat walk_at "rd"
        rename_i E' nE'
        refine y_forT (xs := []) (SqT.of upd_same) ⟨fun j σ H2 => ∃ (y3 : Option V), σ = [some (.ref D), some (.ref U), some .non, y3] ∧ Kx [] H H2 ∧ (∃ xs : List V, SqT K H2 E' []) ∧ H2 U = some (.lst ((useAll slots outs (cntUp slots i)).map V.int)),
          ⟨y3, rfl, k1.new nE', ⟨[], SqT.of upd_same⟩, lk_ne e1 nE'⟩, ?_, ?_, ?_⟩
        · rintro j σ H2 hj ⟨y3, rfl, k2, ⟨_, e3⟩, e2⟩
          exact e3
        · rintro j x σ H2 H2' hj
          exact absurd hj (Nat.not_lt_zero _)
        · rintro σ H2 ⟨y3, rfl, k2, _, e2⟩
          refine ⟨_, _, rfl, k2, ?_⟩
          rw [e2]
          rw [useAll_ext (f := cntUp slots i) (g := cntUp slots (i + 1)) fun m => by rw [cntUp_succ es, e]; rfl]
      · cases Option.some.inj (z.symm.trans hx)
        have hrow : some row ∈ slots := by rw [← e]; exact List.getElem_mem hs
        have hF1 := k1.sqT (by simp) hF
        cases hrw : row with
        | nil =>
          subst hrw
          repeat walk_at "rd"
          refine iteF ?_
          repeat walk_at "rd"
          rename_i E' nE'
          refine y_forT (xs := []) (SqT.of upd_same) ⟨fun j σ H2 => ∃ (y3 : Option V), σ = [some (.ref D), some (.ref U), some (.ref r), y3] ∧ Kx [] H H2 ∧ SqT K H2 E' [] ∧ H2 U = some (.lst ((useAll slots outs (cntUp slots i)).map V.int)),
            ⟨y3, rfl, k1.new nE', SqT.of upd_same, lk_ne e1 nE'⟩, ?_, ?_, ?_⟩
          · rintro j σ H2 hj ⟨y3, rfl, k2, e3, e2⟩
            exact e3
          · rintro j x σ H2 H2' hj
            exact absurd hj (Nat.not_lt_zero _)
          · rintro σ H2 ⟨y3, rfl, k2, _, e2⟩
            refine ⟨_, _, rfl, k2, ?_⟩
            rw [e2]
            rw [useAll_ext (f := cntUp slots i) (g := cntUp slots (i + 1)) fun m => by rw [cntUp_succ es, e]; rfl]
        | cons c0 rs =>
          have hne : (!(rowV row).isEmpty) = true := by rw [hrw]; rfl
          repeat walk_at "rd"
          refine iteP hne ?_
          repeat walk_at "rd"
          refine y_forT (xs := rowV row) hF1 ⟨fun j σ H2 => ∃ (y3 : Option V), σ = [some (.ref D), some (.ref U), some (.ref r), y3] ∧ Kx [] H H2 ∧ H2 U = some (.lst ((useAll slots outs (fun k => cntUp slots i k + (row.take j).count (some k))).map V.int)),
            ⟨y3, rfl, k1, e1⟩, ?_, ?_, ?_⟩
          · rintro j σ H2 hj ⟨y3, rfl, k2, e2⟩
            exact k2.sqT (by simp) hF
          · rintro j x σ H2 H2' hj ⟨y3, rfl, k2, e2⟩ ⟨rfl, hx2⟩
            have hj2 : j < row.length := by
              unfold rowV at hj
              rwa [List.length_map] at hj
            have er := List.getElem?_eq_getElem hj2
            unfold rowV at hx2
            rw [List.getElem?_map, er] at hx2
            have hx3 : slotV row[j] = x := Option.some.inj hx2
            cases ho : row[j] with
            | none =>
              rw [ho] at hx3
              obtain rfl : V.non = x := hx3
              repeat walk_at "rd"
              refine iteF ?_
              repeat walk_at "rd"
              refine ⟨_, rfl, k2, ?_⟩
              rw [e2]
              rw [useAll_ext (f := fun k => cntUp slots i k + (row.take j).count (some k)) (g := fun k => cntUp slots i k + (row.take (j + 1)).count (some k)) fun m => by rw [count_succ er, ho]; simp]
            | some hd =>
              rw [ho] at hx3
              obtain rfl : V.int (hd : Int) = x := hx3
              obtain ⟨r2, e9⟩ := wf.live row hrow hd (by rw [← ho]; exact List.getElem_mem hj2)
              have hh := (List.getElem?_eq_some_iff.mp e9).1
              have hat := useAll_at (outs := outs) (f := fun k => cntUp slots i k + (row.take j).count (some k)) hh
              have hix := useAll_ix (outs := outs) (f := fun k => cntUp slots i k + (row.take j).count (some k)) hh
              have nU2 : H U = none := nU
              repeat walk_at "rd"
              refine iteT ?_
              repeat walk_at "rd"
              refine ⟨_, rfl, k2.wr (.inl nU2), ?_⟩
              rw [upd_same]
              rw [useAll_set (f := fun k => cntUp slots i k + (row.take j).count (some k)) (g := fun k => cntUp slots i k + (row.take (j + 1)).count (some k)) hh (by rw [count_succ er, ho]; simp [Nat.add_assoc]) (fun k hk => by rw [count_succ er, ho, if_neg (fun e => hk (Option.some.inj e).symm), Nat.add_zero])]
          · rintro σ H2 ⟨y3, rfl, k2, e2⟩
            refine ⟨_, _, rfl, k2, ?_⟩
            rw [e2]
            rw [useAll_ext (f := fun k => cntUp slots i k + (row.take (rowV row).length).count (some k)) (g := cntUp slots (i + 1)) fun m => by rw [cntUp_succ es, e, show (rowV row).length = row.length by unfold rowV; rw [List.length_map], List.take_length]; rfl]
    · rintro σ H1 ⟨y2, y3, rfl, k1, e1⟩
      repeat walk_at "rd"
      refine k U H1 nU k1 ?_
      rw [e1, hl, useAll_ext (f := cntUp slots slots.length) (g := useC slots) fun m => by unfold cntUp useC; rw [List.take_length]]
end

/-! ### the law's own machine -/
/-- the pending releases of frames (top first): node and place -/
def pf (slots : List (Option Rw)) : List (Nat × Nat) → List Pd
  | [] => []
  | q :: below => kidsAt q.1 (below.length + 1) q.2 ((rowOf slots q.1).drop q.2) ++ pf slots below
/-- what the frames have before them -/
def fw (slots : List (Option Rw)) (frs : List (Nat × Nat)) : Nat := (frs.map fun q => (rowOf slots q.1).length - q.2 + 1).sum
theorem fw_cons (slots : List (Option Rw)) (q : Nat × Nat) (r : List (Nat × Nat)) : fw slots (q :: r) = ((rowOf slots q.1).length - q.2 + 1) + fw slots r := by
  unfold fw
  rw [List.map_cons, List.sum_cons]
theorem fw_len (slots : List (Option Rw)) : ∀ frs : List (Nat × Nat), frs.length ≤ fw slots frs
  | [] => Nat.le_refl _
  | q :: r => by
    have := fw_len slots r
    rw [fw_cons, List.length_cons]
    omega
/-- the four lists of the law's machine -/
structure Four (H0 : Hp) (t wt fr lg : Addr) : Prop where
  tw : t ≠ wt
  tf : t ≠ fr
  tl : t ≠ lg
  wf : wt ≠ fr
  wl : wt ≠ lg
  fl : fr ≠ lg
  n : ∀ b ∈ [t, wt, fr, lg], H0 b = none
structure LX (H0 H : Hp) (t wt fr lg : Addr) (tv wv lv : List V) (fa : List Addr) (frs : List (Nat × Nat)) : Prop where
  kx : Kx [] H0 H
  tl : H t = some (.lst tv)
  w : H wt = some (.lst wv)
  f : H fr = some (.lst (fa.reverse.map V.ref))
  l : H lg = some (.lst lv)
  fl : fa.length = frs.length
  fat : ∀ (i : Nat) (q : Nat × Nat), frs[i]? = some q → ∃ a, fa[i]? = some a ∧ H a = some (.lst [.int q.1, .int q.2])
  fd : fa.Nodup
  fn : ∀ a ∈ fa, a ≠ t ∧ a ≠ wt ∧ a ≠ fr ∧ a ≠ lg ∧ H0 a = none
section
variable {H0 H : Hp} {t wt fr lg : Addr} {tv wv lv : List V} {fa : List Addr} {frs : List (Nat × Nat)}
theorem LX.new (x : LX H0 H t wt fr lg tv wv lv fa frs) {q : Addr} {o : HO} (n : H q = none) : LX H0 (upd H q o) t wt fr lg tv wv lv fa frs := by
  refine ⟨x.kx.new n, lk_ne x.tl n, lk_ne x.w n, lk_ne x.f n, lk_ne x.l n, x.fl, fun i p hp => ?_, x.fd, x.fn⟩
  obtain ⟨a, h1, h2⟩ := x.fat i p hp
  exact ⟨a, h1, lk_ne h2 n⟩
theorem LX.keep (x : LX H0 H t wt fr lg tv wv lv fa frs) {H' : Hp} (k : Kx [] H H') : LX H0 H' t wt fr lg tv wv lv fa frs := by
  refine ⟨x.kx.trans k, k _ _ (by simp) x.tl, k _ _ (by simp) x.w, k _ _ (by simp) x.f, k _ _ (by simp) x.l, x.fl, fun i p hp => ?_, x.fd, x.fn⟩
  obtain ⟨a, h1, h2⟩ := x.fat i p hp
  exact ⟨a, h1, k _ _ (by simp) h2⟩
theorem LX.wT (x : LX H0 H t wt fr lg tv wv lv fa frs) (d : Four H0 t wt fr lg) (tv' : List V) : LX H0 (upd H t (.lst tv')) t wt fr lg tv' wv lv fa frs := by
  refine ⟨x.kx.wr (.inl (d.n _ (by simp))), upd_same, lk_ne2 d.tw.symm x.w, lk_ne2 d.tf.symm x.f, lk_ne2 d.tl.symm x.l, x.fl, fun i p hp => ?_, x.fd, x.fn⟩
  obtain ⟨a, h1, h2⟩ := x.fat i p hp
  exact ⟨a, h1, lk_ne2 (x.fn a (List.mem_of_getElem? h1)).1 h2⟩
theorem LX.wW (x : LX H0 H t wt fr lg tv wv lv fa frs) (d : Four H0 t wt fr lg) (wv' : List V) : LX H0 (upd H wt (.lst wv')) t wt fr lg tv wv' lv fa frs := by
  refine ⟨x.kx.wr (.inl (d.n _ (by simp))), lk_ne2 d.tw x.tl, upd_same, lk_ne2 d.wf.symm x.f, lk_ne2 d.wl.symm x.l, x.fl, fun i p hp => ?_, x.fd, x.fn⟩
  obtain ⟨a, h1, h2⟩ := x.fat i p hp
  exact ⟨a, h1, lk_ne2 (x.fn a (List.mem_of_getElem? h1)).2.1 h2⟩
theorem LX.wL (x : LX H0 H t wt fr lg tv wv lv fa frs) (d : Four H0 t wt fr lg) (lv' : List V) : LX H0 (upd H lg (.lst lv')) t wt fr lg tv wv lv' fa frs := by
  refine ⟨x.kx.wr (.inl (d.n _ (by simp))), lk_ne2 d.tl x.tl, lk_ne2 d.wl x.w, lk_ne2 d.fl x.f, upd_same, x.fl, fun i p hp => ?_, x.fd, x.fn⟩
  obtain ⟨a, h1, h2⟩ := x.fat i p hp
  exact ⟨a, h1, lk_ne2 (x.fn a (List.mem_of_getElem? h1)).2.2.2.1 h2⟩
/-- a new frame on top -/
theorem LX.push (x : LX H0 H t wt fr lg tv wv lv fa frs) (d : Four H0 t wt fr lg) {q : Addr} {h pl : Nat} (n : H q = none) : LX H0 (upd (upd H q (.lst [.int h, .int pl])) fr (.lst (fa.reverse.map V.ref ++ [V.ref q]))) t wt fr lg tv wv lv (q :: fa) ((h, pl) :: frs) := by
  have y := x.new (o := .lst [.int (h : Int), .int (pl : Int)]) n
  have nq : q ≠ t ∧ q ≠ wt ∧ q ≠ fr ∧ q ≠ lg := ⟨(ne_of_none x.tl n).symm, (ne_of_none x.w n).symm, (ne_of_none x.f n).symm, (ne_of_none x.l n).symm⟩
  have nf : q ∉ fa := fun z => by
    obtain ⟨i, hi⟩ := List.mem_iff_getElem?.mp z
    have hl := (List.getElem?_eq_some_iff.mp hi).1
    have hl2 : i < frs.length := by rw [← x.fl]; exact hl
    obtain ⟨a, h1, h2⟩ := x.fat i frs[i] (List.getElem?_eq_getElem hl2)
    rw [hi] at h1
    cases Option.some.inj h1
    rw [n] at h2
    cases h2
  refine ⟨y.kx.wr (.inl (d.n _ (by simp))), lk_ne2 d.tf y.tl, lk_ne2 d.wf y.w, by rw [upd_same, List.reverse_cons, List.map_append]; rfl, lk_ne2 d.fl.symm y.l, by rw [List.length_cons, List.length_cons, x.fl], fun i p hp => ?_, List.nodup_cons.mpr ⟨nf, x.fd⟩, fun a ha => ?_⟩
  · cases i with
    | zero =>
      cases Option.some.inj hp
      exact ⟨q, rfl, lk_ne2 nq.2.2.1 upd_same⟩
    | succ i =>
      obtain ⟨a, h1, h2⟩ := y.fat i p hp
      exact ⟨a, h1, lk_ne2 (x.fn a (List.mem_of_getElem? h1)).2.2.1 h2⟩
  · rcases List.mem_cons.mp ha with rfl | ha
    · refine ⟨nq.1, nq.2.1, nq.2.2.1, nq.2.2.2, x.kx.fresh (by simp) n⟩
    · exact x.fn a ha
/-- the top frame goes -/
theorem LX.pop {a : Addr} {q : Nat × Nat} (x : LX H0 H t wt fr lg tv wv lv (a :: fa) (q :: frs)) (d : Four H0 t wt fr lg) : LX H0 (upd H fr (.lst (fa.reverse.map V.ref))) t wt fr lg tv wv lv fa frs := by
  refine ⟨x.kx.wr (.inl (d.n _ (by simp))), lk_ne2 d.tf x.tl, lk_ne2 d.wf x.w, upd_same, lk_ne2 d.fl.symm x.l, Nat.succ.inj x.fl, fun i p hp => ?_, (List.nodup_cons.mp x.fd).2, fun b hb => x.fn b (List.mem_cons_of_mem _ hb)⟩
  obtain ⟨b, h1, h2⟩ := x.fat (i + 1) p hp
  exact ⟨b, h1, lk_ne2 (x.fn b (List.mem_of_getElem? h1)).2.2.1 h2⟩
/-- the top frame's place moves -/
theorem LX.move {a : Addr} {h pl pl' : Nat} (x : LX H0 H t wt fr lg tv wv lv (a :: fa) ((h, pl) :: frs)) (d : Four H0 t wt fr lg) : LX H0 (upd H a (.lst [.int h, .int pl'])) t wt fr lg tv wv lv (a :: fa) ((h, pl') :: frs) := by
  obtain ⟨n1, n2, n3, n4, n5⟩ := x.fn a List.mem_cons_self
  refine ⟨x.kx.wr (.inl n5), lk_ne2 n1.symm x.tl, lk_ne2 n2.symm x.w, lk_ne2 n3.symm x.f, lk_ne2 n4.symm x.l, x.fl, fun i p hp => ?_, x.fd, x.fn⟩
  cases i with
  | zero =>
    cases Option.some.inj hp
    exact ⟨a, rfl, upd_same⟩
  | succ i =>
    obtain ⟨b, h1, h2⟩ := x.fat (i + 1) p hp
    refine ⟨b, h1, lk_ne2 (fun z => ?_) h2⟩
    have h3 : fa[i]? = some b := h1
    exact (List.nodup_cons.mp x.fd).1 (by rw [← z]; exact List.mem_of_getElem? h3)
theorem LX.top {a : Addr} {q : Nat × Nat} (x : LX H0 H t wt fr lg tv wv lv (a :: fa) (q :: frs)) : H a = some (.lst [.int q.1, .int q.2]) ∧ H fr = some (.lst (fa.reverse.map V.ref ++ [V.ref a])) := by
  obtain ⟨b, h1, h2⟩ := x.fat 0 q rfl
  cases Option.some.inj h1
  refine ⟨h2, ?_⟩
  have := x.f
  rwa [List.reverse_cons, List.map_append] at this
theorem LX.data (x : LX H0 H t wt fr lg tv wv lv fa frs) (K : PySem.W.Frag) : DpAll K H (fa.reverse.map V.ref) (frs.reverse.map fun q => PyData.list [.int q.1, .int q.2]) := by
  refine dpAll_at (by rw [List.length_map, List.length_map, List.length_reverse, List.length_reverse, x.fl]) fun i d hd => ?_
  rw [List.getElem?_map] at hd
  cases e : frs.reverse[i]? with
  | none => rw [e] at hd; cases hd
  | some q =>
    rw [e] at hd
    cases Option.some.inj hd
    have hi := (List.getElem?_eq_some_iff.mp e).1
    rw [List.length_reverse] at hi
    rw [List.getElem?_reverse hi] at e
    obtain ⟨a, h1, h2⟩ := x.fat _ _ e
    refine ⟨.ref a, ?_, .lst (SqL.of h2) (.cons (.int _) (.cons (.int _) .nil))⟩
    rw [List.getElem?_map, List.getElem?_reverse (by rw [x.fl]; exact hi), x.fl, h1]
    rfl
end
def frD (frs : List (Nat × Nat)) : List PyData := frs.map fun q => PyData.list [.int q.1, .int q.2]
theorem lay_fr : ∀ frs : List (Nat × Nat), PyData.canLayAll0 (frD frs) = true
  | [] => by simp only [frD, List.map_nil, PyData.canLayAll0]
  | q :: r => by
    have := lay_fr r
    unfold frD at this ⊢
    simp only [List.map_cons, PyData.canLayAll0, PyData.canLay0, this, Bool.and_self]
theorem deep_fr : ∀ frs : List (Nat × Nat), PyData.depthAll (frD frs) ≤ 1
  | [] => by simp [frD, PyData.depthAll]
  | q :: r => by
    have := deep_fr r
    unfold frD at this ⊢
    simp only [List.map_cons, PyData.depthAll, PyData.depth]
    simp [this]
theorem shaped_fr (frs : List (Nat × Nat)) : SeqAt.shaped (.list (frD frs)) = true := by
  have h := deep_fr frs
  unfold SeqAt.shaped
  simp [PyData.canLay0, PyData.depth, lay_fr]
  omega
theorem nat_ints (l : List Nat) : (l.map fun n : Nat => V.int n) = (l.map fun n : Nat => (n : Int)).map V.int := by
  rw [List.map_map]
  rfl
theorem fr_isEmpty (frs : List (Nat × Nat)) : (frD frs.reverse).isEmpty = frs.isEmpty := by
  cases frs with
  | nil => rfl
  | cons q r =>
    unfold frD
    rw [List.reverse_cons, List.map_append]
    cases (List.map (fun q : Nat × Nat => PyData.list [.int q.1, .int q.2]) r.reverse) <;> rfl
section
variable {slots : List (Option Rw)} {outs : List Int} {lim : Int}
theorem IsPeak.snoc {ns : List Int} {k s : Int} (h : IsPeak ns k) (hn : ∀ b ∈ ns, 0 ≤ b) (hs : 0 ≤ s) : IsPeak (ns ++ [s]) (if k < s then s else k) := by
  rcases h with ⟨rfl, rfl⟩ | ⟨h1, h2⟩
  · right
    by_cases e : (0 : Int) < s
    · rw [if_pos e]
      exact ⟨by simp, fun b hb => by simp at hb; omega⟩
    · have : s = 0 := by omega
      subst this
      exact ⟨by simp, fun b hb => by simp at hb; rw [hb]; exact Int.le_refl _⟩
  · right
    by_cases e : k < s
    · rw [if_pos e]
      refine ⟨by simp, fun b hb => ?_⟩
      rcases List.mem_append.mp hb with hb | hb
      · have := h2 b hb
        omega
      · rw [List.mem_singleton.mp hb]
        exact Int.le_refl _
    · rw [if_neg e]
      refine ⟨List.mem_append_left _ h1, fun b hb => ?_⟩
      rcases List.mem_append.mp hb with hb | hb
      · exact h2 b hb
      · rw [List.mem_singleton.mp hb]
        omega
theorem IsPeak.uniq {ns : List Int} {a b : Int} (h : IsPeak ns a) (g : IsPeak ns b) : a = b := by
  rcases h with ⟨e1, rfl⟩ | ⟨h1, h2⟩
  · rcases g with ⟨_, rfl⟩ | ⟨g1, _⟩
    · rfl
    · rw [e1] at g1
      cases g1
  · rcases g with ⟨e1, _⟩ | ⟨g1, g2⟩
    · rw [e1] at h1
      cases h1
    · exact Int.le_antisymm (g2 a h1) (h2 b g1)
theorem pf_top {h pl : Nat} {below : List (Nat × Nat)} {o : Option Nat} (hl : (rowOf slots h)[pl]? = some o) : pf slots ((h, pl) :: below) = (match o with | none => [] | some m => [⟨some h, some pl, m, below.length + 1⟩]) ++ pf slots ((h, pl + 1) :: below) := by
  obtain ⟨h1, h2⟩ := List.getElem?_eq_some_iff.mp hl
  unfold pf
  simp only
  rw [List.drop_eq_getElem_cons h1, h2]
  cases o <;> rfl
theorem pf_end {h pl : Nat} {below : List (Nat × Nat)} (hl : (rowOf slots h).length ≤ pl) : pf slots ((h, pl) :: below) = pf slots below := by
  show kidsAt h _ pl ((rowOf slots h).drop pl) ++ pf slots below = _
  rw [List.drop_eq_nil_of_le hl]
  rfl
theorem pf_new (n : Nat) (below : List (Nat × Nat)) : pf slots ((n, 0) :: below) = kids slots n (below.length + 1) ++ pf slots below := rfl
theorem sizes_nn : ∀ evs : List Ev, ∀ b ∈ sizesOf evs, 0 ≤ b := by
  intro evs b hb
  unfold sizesOf at hb
  obtain ⟨e, _, he⟩ := List.mem_filterMap.mp hb
  cases e with
  | shelve n k =>
    rw [← Option.some.inj (he : some (k : Int) = some b)]
    omega
  | release _ _ _ _ => cases he
  | destroy _ _ => cases he
  | take _ _ => cases he
theorem sizes_app (a b : List Ev) : sizesOf (a ++ b) = sizesOf a ++ sizesOf b := List.filterMap_append
def s00 (n : Nat) : FS := ⟨[⟨none, none, n, 0⟩], [], []⟩
def talL (slots : List (Option Rw)) (outs : List Int) (log : List Nat) (pend : List Pd) : List V := (List.range slots.length).map fun m => V.int (tal slots outs log pend m)
/-- the law's lists tell a state that is reached -/
def BF (slots : List (Option Rw)) (outs : List Int) (lim : Int) (spot m : Nat) (frs : List (Nat × Nat)) (wv lv tv : List V) (hi : Int) : Prop :=
  ∃ s : FS, s.pend = pf slots frs ∧ (∀ q ∈ frs, isLive slots q.1 = true ∧ q.2 ≤ (rowOf slots q.1).length) ∧ wv = (s.shelf.map fun n : Nat => V.int n) ∧ lv = (s.log.map fun n : Nat => V.int n) ∧ tv = talL slots outs s.log s.pend ∧ IsPeak (sizesOf s.evs) hi ∧
    Steps slots outs lim (s00 spot) s ∧ Wk slots outs s ∧ left slots s.log + fw slots frs ≤ m
def ST (slots : List (Option Rw)) (outs : List Int) (lim : Int) (spot m : Nat) (frs : List (Nat × Nat)) (wv lv tv : List V) (hi : Int) : Prop :=
  (frs ≠ [] ∧ BF slots outs lim spot m frs wv lv tv hi) ∨ (frs = [] ∧ wv = [] ∧ BF slots outs lim spot m frs wv lv tv hi) ∨
    (frs = [] ∧ ∃ (ss : List Nat) (n m' : Nat), m' < m ∧ wv = (ss.map fun n : Nat => V.int n) ++ [V.int n] ∧ BF slots outs lim spot m' [(n, 0)] (ss.map fun n : Nat => V.int n) (lv ++ [V.int n]) tv hi)
theorem toST {spot m : Nat} {frs : List (Nat × Nat)} {wv lv tv : List V} {hi : Int} (h : BF slots outs lim spot m frs wv lv tv hi) : ST slots outs lim spot m frs wv lv tv hi := by
  by_cases hf : frs = []
  · subst hf
    obtain ⟨s, hp, ho, hw, hl, ht, hk, hs, wk, hm⟩ := h
    rcases List.eq_nil_or_concat s.shelf with he | ⟨ss, n, he⟩
    · exact .inr (.inl ⟨rfl, by rw [hw, he]; rfl, s, hp, ho, hw, hl, ht, hk, hs, wk, hm⟩)
    · rw [List.concat_eq_append] at he
      have hp0 : s.pend = [] := hp
      have hstep : stepF slots outs lim s = some ⟨kids slots n 1, ss, s.evs ++ [.take n ss.length, .destroy n 0]⟩ := by
        unfold stepF
        rw [hp0, he]
        simp
      have hlog : FS.log ⟨kids slots n 1, ss, s.evs ++ [.take n ss.length, .destroy n 0]⟩ = s.log ++ [n] := by
        unfold FS.log
        rw [List.filterMap_append]
        rfl
      have ham : n ∈ s.log ++ s.shelf := by rw [he]; simp
      have hla := wk.ok.lv n ham
      have hnd := wk.ok.nd
      rw [he] at hnd
      have hna : n ∉ s.log := fun h => (List.nodup_append.mp hnd).2.2 n h n (by simp) rfl
      obtain ⟨_, _, hlta⟩ := live_lt hla
      have hleft := left_dead (slots := slots) hlta hna
      have hfw : fw slots [(n, 0)] = (rowOf slots n).length + 1 := by
        rw [fw_cons]
        show (rowOf slots n).length - 0 + 1 + 0 = _
        omega
      have hfw0 : fw slots [] = 0 := rfl
      refine .inr (.inr ⟨rfl, ss, n, left slots (s.log ++ [n]) + fw slots [(n, 0)], by omega, by rw [hw, he, List.map_append]; rfl, _, ?_, ?_, rfl, ?_, ?_, ?_, hs.tail hstep, wk.step hstep, by rw [hlog]; exact Nat.le_refl _⟩)
      · show kids slots n 1 = kids slots n (0 + 1) ++ []
        rw [List.append_nil]
      · intro q hq
        rw [List.mem_singleton.mp hq]
        exact ⟨hla, Nat.zero_le _⟩
      · rw [hl, hlog, List.map_append]
        rfl
      · rw [ht, hlog, hp0]
        unfold talL
        refine List.map_congr_left fun m _ => ?_
        have := tal_dead (slots := slots) (outs := outs) hlta hna 1 [] m
        rw [List.append_nil] at this
        show V.int _ = V.int (tal slots outs (s.log ++ [n]) (kids slots n 1) m)
        rw [this]
      · rw [sizes_app]
        show IsPeak (sizesOf s.evs ++ []) hi
        rw [List.append_nil]
        exact hk
  · exact .inl ⟨hf, h⟩
theorem ST.mono {spot m m' : Nat} {frs : List (Nat × Nat)} {wv lv tv : List V} {hi : Int} (h : BF slots outs lim spot m frs wv lv tv hi) (l : m ≤ m') : BF slots outs lim spot m' frs wv lv tv hi := by
  obtain ⟨s, a, b, c, d, e, f, g, i, j⟩ := h
  exact ⟨s, a, b, c, d, e, f, g, i, Nat.le_trans j l⟩
end


section
variable {P : Program} {w : World} {K : PySem.W.Frag} {mg : Str → Option Value} {base : Heap}

theorem Wk.log {slots : List (Option Rw)} {outs : List Int} {s : FS} (k : Wk slots outs s) : s.log.length ≤ 40 := by
  have hn := (List.nodup_append.mp k.ok.nd).1
  have := hn.length_le_of_subset (l₂ := List.range slots.length) fun n hn => List.mem_range.mpr (live_lt (k.ok.lv n (List.mem_append_left _ hn))).choose_spec.2
  rw [List.length_range] at this
  exact Nat.le_trans this k.most
theorem tal_first {slots : List (Option Rw)} {outs : List Int} {n : Nat} {z : Int} (hlt : n < slots.length) (hz : outs[n]? = some z) :
    ((useAll slots outs (useC slots)).map V.int).set n (V.int ((outs[n]?).getD 0 + (useC slots n : Int) - 1)) = talL slots (outs.set n (z - 1)) [] [] := by
  unfold useAll talL
  rw [List.map_map]
  have hn := (List.getElem?_eq_some_iff.mp hz).1
  refine range_set hlt ?_ fun i hi => ?_
  · unfold tal
    rw [cntH_use, show pendC [] n = 0 from rfl, List.getElem?_set_self hn, hz]
    simp only [Option.getD_some]
    congr 1
    omega
  · show V.int _ = V.int _
    unfold tal
    rw [cntH_use, show pendC [] i = 0 from rfl, List.getElem?_set_ne (Ne.symm hi)]
    congr 1
    simp
theorem wk_first {slots : List (Option Rw)} {outs : List Int} {b : Int} (wf : WfB b slots outs) {n : Nat} {z : Int} (hz : outs[n]? = some z) (h1 : 1 ≤ z) (hl : isLive slots n = true) : Wk slots (outs.set n (z - 1)) (s00 n) := by
  have hmu : FS.mu slots ⟨[], [], []⟩ ≤ 40 * 42 := left_nil_le wf.most wf.row
  exact (wk_zero wf).start rfl rfl hz h1 hl (by show 0 + 2 * FS.mu slots ⟨[], [], []⟩ ≤ 89000; omega)
theorem st_first {slots : List (Option Rw)} {outs : List Int} {lim b : Int} (wf : WfB b slots outs) {n : Nat} {z : Int} (hz : outs[n]? = some z) (h1 : 1 ≤ z) (hl : isLive slots n = true) (hlim : 0 < lim) :
    ∃ m, m ≤ 5000 ∧ ST slots (outs.set n (z - 1)) lim n m [] (if tal slots (outs.set n (z - 1)) [] [] n = 0 then [V.int (n : Int)] else []) [] (talL slots (outs.set n (z - 1)) [] []) 0 := by
  have wk := wk_first wf hz h1 hl
  have hlog : FS.log (s00 n) = [] := rfl
  have hge : 0 ≤ tal slots (outs.set n (z - 1)) [] [] n := by
    have := tal_nonneg (slots := slots) wk.ho [] [] n
    omega
  have hln := left_nil_le wf.most wf.row
  obtain ⟨row, er, hlt⟩ := live_lt hl
  by_cases h0 : tal slots (outs.set n (z - 1)) [] [] n = 0
  · rw [if_pos h0]
    have hstep : stepF slots (outs.set n (z - 1)) lim (s00 n) = some ⟨kids slots n (0 + 1) ++ [], [], [] ++ [.release none none n (tal slots (outs.set n (z - 1)) [] [] n), .destroy n 0]⟩ := by
      unfold stepF
      show (if 0 < tal slots (outs.set n (z - 1)) [] [] n then _ else if ((0 : Nat) : Int) < lim then _ else _) = _
      rw [if_neg (by omega), if_pos (by simpa using hlim)]
      rfl
    have hleft := left_dead (slots := slots) (log := []) hlt (by simp)
    have hfw : fw slots [(n, 0)] = (rowOf slots n).length + 1 := by
      rw [fw_cons]
      show (rowOf slots n).length - 0 + 1 + 0 = _
      omega
    have hfl : FS.log ⟨kids slots n (0 + 1) ++ [], [], [] ++ [.release none none n (tal slots (outs.set n (z - 1)) [] [] n), .destroy n 0]⟩ = [n] := rfl
    refine ⟨left slots ([] ++ [n]) + fw slots [(n, 0)] + 1, by omega, .inr (.inr ⟨rfl, [], n, left slots ([] ++ [n]) + fw slots [(n, 0)], by omega, rfl, _, rfl, ?_, rfl, rfl, ?_, .inl ⟨rfl, rfl⟩, (Steps.refl _).tail hstep, wk.step hstep, Nat.le_refl _⟩)⟩
    · intro q hq
      rw [List.mem_singleton.mp hq]
      exact ⟨hl, Nat.zero_le _⟩
    · unfold talL
      refine List.map_congr_left fun m _ => ?_
      rw [hfl]
      have := tal_dead (slots := slots) (outs := outs.set n (z - 1)) (log := []) hlt (by simp) (0 + 1) [] m
      exact congrArg V.int this.symm
  · rw [if_neg h0]
    have hstep : stepF slots (outs.set n (z - 1)) lim (s00 n) = some ⟨[], [], [] ++ [.release none none n (tal slots (outs.set n (z - 1)) [] [] n)]⟩ := by
      unfold stepF
      show (if 0 < tal slots (outs.set n (z - 1)) [] [] n then _ else _) = _
      rw [if_pos (by omega)]
      rfl
    refine ⟨left slots [] + fw slots [], by rw [show fw slots [] = 0 from rfl]; omega, .inr (.inl ⟨rfl, rfl, _, rfl, fun q hq => absurd hq (by simp), rfl, rfl, rfl, .inl ⟨rfl, rfl⟩, (Steps.refl _).tail hstep, wk.step hstep, Nat.le_refl _⟩)⟩
theorem x_orG {σ : SS} {H : Hp} {tt tu : TT} {QB : Bool → Hp → Prop} (P : Hp → Prop) (q : ∀ G : Bool → Hp → Prop, (∀ H, P H → G true H) → tOr tt tu σ H G) (r : ∀ H, P H → QB true H) : tOr tt tu σ H QB := q QB r
theorem ST.fin {slots : List (Option Rw)} {outs : List Int} {lim : Int} {spot m : Nat} {lv tv : List V} {hi : Int} (h : ST slots outs lim spot m [] [] lv tv hi) : BF slots outs lim spot m [] [] lv tv hi := by
  rcases h with ⟨h, _⟩ | ⟨_, _, h⟩ | ⟨_, ss, n, m', _, e, _⟩
  · exact absurd rfl h
  · exact h
  · exact absurd (congrArg List.length e) (by simp)
theorem ST.took {slots : List (Option Rw)} {outs : List Int} {lim : Int} {spot m : Nat} {wv lv tv : List V} {hi : Int} (h : ST slots outs lim spot m [] wv lv tv hi) (hw : wv ≠ []) :
    ∃ (ss : List Nat) (n m' : Nat), m' < m ∧ wv = (ss.map fun n : Nat => V.int n) ++ [V.int n] ∧ BF slots outs lim spot m' [(n, 0)] (ss.map fun n : Nat => V.int n) (lv ++ [V.int n]) tv hi := by
  rcases h with ⟨h, _⟩ | ⟨_, h, _⟩ | ⟨_, h⟩
  · exact absurd rfl h
  · exact absurd h hw
  · exact h
theorem BF.lens {slots : List (Option Rw)} {outs : List Int} {lim : Int} {spot m : Nat} {frs : List (Nat × Nat)} {wv lv tv : List V} {hi : Int} (h : BF slots outs lim spot m frs wv lv tv hi) : wv.length ≤ 40 ∧ lv.length ≤ 40 ∧ frs.length ≤ m := by
  obtain ⟨s', hp, ho, rfl, rfl, htv, hpk, hs, wk, hle⟩ := h
  have h1 := wk.shelf
  have h2 := wk.most
  have h3 := fw_len slots frs
  exact ⟨by rw [List.length_map]; omega, by rw [List.length_map]; exact wk.log, by omega⟩
theorem BF.next {slots : List (Option Rw)} {outs : List Int} {lim : Int} {spot m : Nat} {frs : List (Nat × Nat)} {wv lv tv : List V} {hi : Int} {s s2 : FS} (hs : Steps slots outs lim (s00 spot) s) (wk : Wk slots outs s) (e : stepF slots outs lim s = some s2) (hp : s2.pend = pf slots frs)
    (ho : ∀ q ∈ frs, isLive slots q.1 = true ∧ q.2 ≤ (rowOf slots q.1).length) (hw : wv = (s2.shelf.map fun n : Nat => V.int n)) (hl : lv = (s2.log.map fun n : Nat => V.int n)) (ht : tv = talL slots outs s2.log s2.pend) (hk : IsPeak (sizesOf s2.evs) hi) (hle : left slots s2.log + fw slots frs ≤ m) :
    BF slots outs lim spot m frs wv lv tv hi := ⟨s2, hp, ho, hw, hl, ht, hk, hs.tail e, wk.step e, hle⟩
theorem hrep {n : Nat} (x : Int) : (List.replicate (if decide (V.int x = V.int 0) = true then (1 : Int) else 0).toNat [V.int (n : Int)]).flatten = if x = 0 then [V.int (n : Int)] else [] := by
  by_cases h : x = 0
  · subst h
    rfl
  · rw [if_neg h, if_neg (by simpa using h)]
    rfl
def spModel (K : PySem.W.Frag) : Sp := fun vs H Q _ => ∃ (D : Addr) (slots : List (Option Rw)) (outs : List Int) (n : Nat) (z lim : Int), vs = [.ref D, .int n, .int lim] ∧ HeapT K H D slots outs ∧ (∃ b, WfB b slots outs) ∧ isLive slots n = true ∧ outs[n]? = some z ∧ 1 ≤ z ∧ 0 < lim ∧
  ∀ B L k s' H', Kx [] H H' → SqT K H' B [.ref L, .int k] → SqT K H' L (s'.log.map fun n : Nat => V.int n) → Steps slots (outs.set n (z - 1)) lim (s00 n) s' → s'.pend = [] → s'.shelf = [] → Wk slots (outs.set n (z - 1)) s' → IsPeak (sizesOf s'.evs) k → Q (.ref B) H'
theorem ok_model {f : Addr} {fd : FuncData} (F : Fun K "_law_model" "_law_model" sQModel f fd) (T : Txt mg) (l_law_tallies : Lo P w K mg base "_law_tallies" 1 ["_law_base_here"] (spTallies K)) : FnOk P w K mg base CX0 2 f fd ["_law_base_here", "_law_spot", "_law_bound_here"] (spModel K) := by
  refine F.ok scQModel (fun vs H Q E h => ?_) (fun cdv A outer s H vs Q E hr h => ?_)
  · obtain ⟨D, slots, outs, n, z, lim, rfl, _⟩ := h
    rfl
  · obtain ⟨D, slots, outs, n, z, lim, rfl, hT, ⟨b0, wf⟩, hl, hz, h1, hlim, k⟩ := h
    obtain ⟨S, O, vs, hD, hS, hO, hvl, hv⟩ := id hT.ex
    refine ⟨_, (pss_cons (ps_set (i := 3) scQModel.nd rfl (Or.inl rfl) (pe_lo l_law_tallies (hr.mono (by decide)) (by rfl) (pa_cons (pv 0) pa_nil)))
      (pss_cons (ps_asg (pe_op op_sub (pe_ix ix_list (pv 3) (pv 1) (fun _ _ => rfl)) pe_int) (pg_sub (pv 3) (pv 1) set_list))
      (pss_cons (ps_set (i := 4) scQModel.nd rfl (Or.inl rfl) (pe_op op_rep (pe_lst (pa_cons (pv 1) pa_nil)) (pe_callTy call_int1 (by rfl) T.b_int boot'_int (pa_cons (pe_cmpR op_eq (pe_ix ix_list (pv 3) (pv 1) (fun _ _ => rfl)) pe_int (nomark _)) pa_nil))))
      (pss_cons (ps_par3 (i := 5) (j := 6) (l := 7) rfl scQModel.nd rfl rfl rfl (by decide) (by decide) (by decide) rfl rfl rfl (pa_cons (pe_lst pa_nil) (pa_cons (pe_lst pa_nil) (pa_cons pe_int pa_nil))) (by rfl))
      (pss_cons (ps_while PassesOwn.never (PW.pt (pw_or (pt_cmpR (op_neD hr.units) (pv 5) (pe_lst pa_nil) (nomark _)) (pw_or1 (pt_cmpR (op_neD hr.units) (pv 4) (pe_lst pa_nil) (nomark _)))))
      (pss_cons (ps_if (pt_cmpR (op_eqD hr.units) (pv 5) (pe_lst pa_nil) (nomark _)) (pss_cons (ps_expr (pe_bm PySem.F.plainAttrs_list PySem.F.slot_list_append PySem.F.type_list_append mt_append (pv 5) (pa_cons (pe_lst (pa_cons (pe_bm0 PySem.F.plainAttrs_list PySem.F.slot_list_pop PySem.F.type_list_pop mt_pop (pv 4)) (pa_cons pe_int pa_nil))) pa_nil)))
      (pss_one (ps_expr (pe_bm PySem.F.plainAttrs_list PySem.F.slot_list_append PySem.F.type_list_append mt_append (pv 6) (pa_cons (pe_ix ix_list (pe_ix ix_list (pv 5) pe_int (fun _ _ => rfl)) pe_int (fun _ _ => rfl)) pa_nil))))) pss_nil)
      (pss_cons (ps_asg (pe_ix ix_list (pv 5) (pe_un un_neg pe_int) (fun _ _ => rfl)) (pg_lst rfl (pgs_cons (pg_name (i := 8) scQModel.nd rfl (Or.inl rfl)) (pgs_cons (pg_name (i := 9) scQModel.nd rfl (Or.inl rfl)) pgs_nil))))
      (pss_one (ps_if (pt_cmpR op_eq (pv 9) (pe_callB call_len_seq (by rfl) T.b_len boot'_len (pa_cons (pe_ix ix_tup (pe_ix ix_tup (pv 0) pe_int (fun _ _ => rfl)) (pv 8) (fun _ _ => rfl)) pa_nil)) (nomark _)) (pss_one (ps_expr (pe_bm0 PySem.F.plainAttrs_list PySem.F.slot_list_pop PySem.F.type_list_pop mt_pop (pv 5)))) (pss_cons (ps_asg (pe_op op_add (pv 9) pe_int) (pg_sub (pe_ix ix_list (pv 5) (pe_un un_neg pe_int) (fun _ _ => rfl)) pe_int set_list))
      (pss_cons (ps_set (i := 10) scQModel.nd rfl (Or.inl rfl) (pe_ix ix_tup (pe_ix ix_tup (pe_ix ix_tup (pv 0) pe_int (fun _ _ => rfl)) (pv 8) (fun _ _ => rfl)) (pv 9) (fun _ _ => rfl)))
      (pss_one (ps_if (pt_cmpR op_notN1 (pv 10) pe_non (nomark _)) (pss_cons (ps_asg (pe_op op_sub (pe_ix ix_list (pv 3) (pv 10) (fun _ _ => rfl)) pe_int) (pg_sub (pv 3) (pv 10) set_list))
      (pss_one (ps_if (PW.pt (pw_and (pt_cmpR op_eq (pe_ix ix_list (pv 3) (pv 10) (fun _ _ => rfl)) pe_int (nomark _)) (pw_and1 (pt_cmpR op_lt (pe_callB call_len_seq (by rfl) T.b_len boot'_len (pa_cons (pv 5) pa_nil)) (pv 2) (nomark _))))) (pss_cons (ps_expr (pe_bm PySem.F.plainAttrs_list PySem.F.slot_list_append PySem.F.type_list_append mt_append (pv 6) (pa_cons (pv 10) pa_nil)))
      (pss_one (ps_expr (pe_bm PySem.F.plainAttrs_list PySem.F.slot_list_append PySem.F.type_list_append mt_append (pv 5) (pa_cons (pe_lst (pa_cons (pv 10) (pa_cons pe_int pa_nil))) pa_nil))))) (pss_one (ps_if (pt_cmpR op_eq (pe_ix ix_list (pv 3) (pv 10) (fun _ _ => rfl)) pe_int (nomark _)) (pss_cons (ps_expr (pe_bm PySem.F.plainAttrs_list PySem.F.slot_list_append PySem.F.type_list_append mt_append (pv 4) (pa_cons (pv 10) pa_nil)))
      (pss_one (ps_set (i := 7) scQModel.nd rfl (Or.inl rfl) (pe_callB (call_max2 rfl) (by rfl) T.b_max boot'_max (pa_cons (pv 7) (pa_cons (pe_callB call_len_seq (by rfl) T.b_len boot'_len (pa_cons (pv 4) pa_nil)) pa_nil)))))) pss_nil))))) pss_nil)))))))))
      (pss_one (ps_ret (pe_tup (pa_cons (pe_callTy call_tuple_of (by rfl) T.b_tuple boot'_tuple (pa_cons (pv 6) pa_nil)) (pa_cons (pv 7) pa_nil)))))))))), ?_⟩
    refine x_start (σ' := [some (.ref D), some (.int n), some (.int lim), none, none, none, none, none, none, none, none]) rfl ?_
    try dsimp only [cxOf]
    repeat walk_at "rd"
    refine ⟨D, slots, outs, rfl, hT, ⟨_, wf⟩, fun t H1 nt k1 e1 => ?_⟩
    obtain ⟨row0, er0, hlt⟩ := live_lt hl
    have a1 := useAll_at (outs := outs) (f := useC slots) hlt
    have i1 := useAll_ix (outs := outs) (f := useC slots) hlt
    have a2 : atI (talL slots (outs.set n (z - 1)) [] []) (n : Int) = some (.int (tal slots (outs.set n (z - 1)) [] [] n)) := range_at hlt
    repeat walk_at "rd"
    rename_i q nq
    rw [tal_first hlt hz] at nq ⊢
    have e2 : upd H1 t (.lst (talL slots (outs.set n (z - 1)) [] [])) t = some (.lst (talL slots (outs.set n (z - 1)) [] [])) := upd_same
    have k2 : Kx [] H (upd H1 t (.lst (talL slots (outs.set n (z - 1)) [] []))) := k1.wr (.inl nt)
    generalize upd H1 t (.lst (talL slots (outs.set n (z - 1)) [] [])) = H2 at *
    repeat walk_at "rd"
    refine x_rep (xs := [V.int (n : Int)]) (by walk_at "lk") (by split <;> decide) (by split <;> decide) (by rw [show [V.int (n : Int)].length = 1 from rfl, sizeLine_eq]; split <;> decide) fun wt nwt => ?_
    rw [hrep (tal slots (outs.set n (z - 1)) [] [] n)]
    obtain ⟨m0, hm0, hst0⟩ := st_first wf hz h1 hl hlim
    generalize (if tal slots (outs.set n (z - 1)) [] [] n = 0 then [V.int (n : Int)] else []) = wv0 at *
    repeat walk_at "rd"
    rename_i fr nfr lg nlg
    have kq : Kx [] H (upd H2 q (.lst [.int n])) := k2.new nq
    have kw : Kx [] H (upd (upd H2 q (.lst [.int n])) wt (.lst wv0)) := kq.new nwt
    have kf : Kx [] H (upd (upd (upd H2 q (.lst [.int n])) wt (.lst wv0)) fr (.lst [])) := kw.new nfr
    have kl : Kx [] H (upd (upd (upd (upd H2 q (.lst [.int n])) wt (.lst wv0)) fr (.lst [])) lg (.lst [])) := kf.new nlg
    have ew : (upd (upd H2 q (.lst [.int n])) wt (.lst wv0)) wt = some (.lst wv0) := upd_same
    have ef : (upd (upd (upd H2 q (.lst [.int n])) wt (.lst wv0)) fr (.lst [])) fr = some (.lst []) := upd_same
    have et : (upd H2 q (.lst [.int n])) t = some _ := lk_ne e2 nq
    have d : Four H t wt fr lg := by
      refine ⟨ne_of_none et nwt, ne_of_none (lk_ne et nwt) nfr, ne_of_none (lk_ne (lk_ne et nwt) nfr) nlg, ne_of_none ew nfr, ne_of_none (lk_ne ew nfr) nlg, ne_of_none ef nlg, fun b hb => ?_⟩
      simp only [List.mem_cons, List.not_mem_nil, or_false] at hb
      rcases hb with rfl | rfl | rfl | rfl
      · exact nt
      · exact kq.fresh (by simp) nwt
      · exact kw.fresh (by simp) nfr
      · exact kf.fresh (by simp) nlg
    have lx0 : LX H (upd (upd (upd (upd H2 q (.lst [.int n])) wt (.lst wv0)) fr (.lst [])) lg (.lst [])) t wt fr lg (talL slots (outs.set n (z - 1)) [] []) wv0 [] [] [] :=
      ⟨kl, lk_ne (lk_ne (lk_ne et nwt) nfr) nlg, lk_ne (lk_ne ew nfr) nlg, lk_ne ef nlg, upd_same, rfl, fun i q h => by simp at h, List.nodup_nil, fun a h => by simp at h⟩
    refine ⟨fun m σ H3 => ∃ (frs : List (Nat × Nat)) (fa : List Addr) (wv lv tv : List V) (hi : Int) (y8 y9 y10 : Option V), m ≤ 5000 ∧ σ = [some (.ref D), some (.int n), some (.int lim), some (.ref t), some (.ref wt), some (.ref fr), some (.ref lg), some (.int hi), y8, y9, y10] ∧
      LX H H3 t wt fr lg tv wv lv fa frs ∧ ST slots (outs.set n (z - 1)) lim n m frs wv lv tv hi, ⟨m0, [], [], _, _, _, 0, none, none, none, hm0, rfl, lx0, hst0⟩, ?_⟩
    rintro m σ H3 ⟨frs, fa, wv, lv, tv, hi, y8, y9, y10, hm, rfl, lx, hst⟩
    have hfl := fr_isEmpty frs
    by_cases hend : frs = [] ∧ wv = []
    · obtain ⟨rfl, rfl⟩ := hend
      have bf := hst.fin
      repeat walk_at "rd"
      rename_i q1 nq1
      have lx1 := lx.new (o := .lst []) nq1
      refine x_neNilD (SqL.of lx1.f) (show DpAll K _ _ (frD [].reverse) from lx1.data K) (shaped_fr [].reverse) (SqL.of upd_same) ?_
      repeat walk_at "rd"
      refine iteN rfl ?_
      generalize upd H3 q1 (.lst []) = H4 at *
      repeat walk_at "rd"
      rename_i q2 nq2
      have lx2 := lx1.new (o := .lst []) nq2
      refine x_neNil (cs := []) (SqL.of lx2.w) (SqL.of upd_same) ?_
      generalize upd H4 q2 (.lst []) = H5 at *
      repeat walk_at "rd"
      refine iteN rfl ?_
      obtain ⟨s', hp, ho, hw, hlv, htv, hpk, hs, wk, hle⟩ := bf
      have eL := lx2.l
      subst hlv
      repeat walk_at "rd"
      intro L nL
      repeat walk_at "rd"
      rename_i B nB
      refine k B L hi s' _ ((lx2.kx.new nL).new nB) (SqT.of upd_same) (SqT.of (lk_ne upd_same nB)) hs hp ?_ wk hpk
      cases e : s'.shelf with
      | nil => rfl
      | cons a b => rw [e] at hw; cases hw
    · refine x_orG (fun H4 => LX H H4 t wt fr lg tv wv lv fa frs) (fun G hG => ?_) (fun H4 lx4 => ?_)
      · repeat walk_at "rd"
        rename_i q1 nq1
        have lx1 := lx.new (o := .lst []) nq1
        refine x_neNilD (SqL.of lx1.f) (show DpAll K _ _ (frD frs.reverse) from lx1.data K) (shaped_fr frs.reverse) (SqL.of upd_same) ?_
        rw [hfl]
        generalize upd H3 q1 (.lst []) = H4 at *
        repeat walk_at "rd"
        by_cases hf : frs = []
        · subst hf
          obtain ⟨ss, a, m', hm', rfl, bf⟩ := hst.took (fun z => hend ⟨rfl, z⟩)
          refine iteN rfl ?_
          repeat walk_at "rd"
          rename_i q2 nq2
          have lx2 := lx1.new (o := .lst []) nq2
          refine x_neNil (cs := (ss ++ [a]).map fun n : Nat => (n : Int)) (by rw [← nat_ints, List.map_append]; exact SqL.of lx2.w) (SqL.of upd_same) ?_
          repeat walk_at "rd"
          rw [show (!((ss ++ [a]).map fun n : Nat => (n : Int)).isEmpty) = true by simp]
          exact hG _ lx2
        · refine iteP (by simpa using hf) ?_
          exact hG _ lx1
      · refine iteT (x_turn ?_)
        refine x_seqG (fun σ H5 => ∃ (h pl : Nat) (below : List (Nat × Nat)) (a : Addr) (fa : List Addr) (wv lv tv : List V) (hi : Int) (y8 y9 y10 : Option V) (m1 : Nat), m1 ≤ m ∧ σ = [some (.ref D), some (.int n), some (.int lim), some (.ref t), some (.ref wt), some (.ref fr), some (.ref lg), some (.int hi), y8, y9, y10] ∧
          LX H H5 t wt fr lg tv wv lv (a :: fa) ((h, pl) :: below) ∧ BF slots (outs.set n (z - 1)) lim n m1 ((h, pl) :: below) wv lv tv hi) (fun G hG => ?_) ?_
        · repeat walk_at "rd"
          rename_i q1 nq1
          have lx1 := lx4.new (o := .lst []) nq1
          refine x_eqNilD (SqL.of lx1.f) (show DpAll K _ _ (frD frs.reverse) from lx1.data K) (shaped_fr frs.reverse) (SqL.of upd_same) ?_
          rw [hfl]
          generalize upd H4 q1 (.lst []) = H5 at *
          repeat walk_at "rd"
          by_cases hf : frs = []
          · subst hf
            obtain ⟨ss, a, m', hm', rfl, bf⟩ := hst.took (fun z => hend ⟨rfl, z⟩)
            have hfa : fa = [] := List.eq_nil_of_length_eq_zero lx1.fl
            subst hfa
            refine iteP rfl ?_
            have ef1 : H5 fr = some (.lst []) := lx1.f
            have ew1 := lx1.w
            have eat : ((ss.map fun n : Nat => V.int n) ++ [V.int (a : Int)])[((ss.map fun n : Nat => V.int n) ++ [V.int (a : Int)]).length - 1]? = some (V.int (a : Int)) := by simp
            have hlen := bf.lens
            repeat walk_at "rd"
            refine ⟨ty_list (SqL.of ef1), ?_⟩
            repeat walk_at "rd"
            refine ⟨ty_list (SqL.of ew1), ?_⟩
            repeat walk_at "rd"
            rename_i q2 nq2
            rw [List.dropLast_concat] at nq2 ⊢
            have lx2 := lx1.wW d (ss.map fun n : Nat => V.int n)
            generalize upd H5 wt (.lst (ss.map fun n : Nat => V.int n)) = H6 at *
            have lx3 := lx2.push d (h := a) (pl := 0) nq2
            have ef2 : upd H6 q2 (.lst [.int a, .int 0]) fr = some (.lst []) := lk_ne lx2.f nq2
            repeat walk_at "rd"
            replace lx3 : LX H (upd (upd H6 q2 (.lst [.int (a : Int), .int 0])) fr (.lst ([] ++ [V.ref q2]))) t wt fr lg tv (ss.map fun n : Nat => V.int n) lv [q2] [(a, 0)] := lx3
            generalize upd (upd H6 q2 (.lst [.int (a : Int), .int 0])) fr (.lst ([] ++ [V.ref q2])) = H7 at *
            have eq3 : H7 q2 = some (.lst [.int (a : Int), .int 0]) := lx3.top.1
            have ef3 : H7 fr = some (.lst [V.ref q2]) := lx3.top.2
            have eL3 := lx3.l
            have hz3 : lv.length < sizeLine := big_line (by have := hlen.2.1; rw [List.length_append] at this; omega)
            refine ⟨ty_list (SqL.of eL3), ?_⟩
            repeat walk_at "rd"
            exact hG _ _ ⟨a, 0, [], q2, [], _, _, _, _, _, _, _, m', Nat.le_of_lt hm', rfl, lx3.wL d _, bf⟩
          · refine iteN (by simpa using hf) ?_
            rcases hst with ⟨_, bf⟩ | ⟨e, _⟩ | ⟨e, _⟩
            · obtain ⟨⟨h, pl⟩, below, rfl⟩ := List.exists_cons_of_ne_nil hf
              obtain ⟨a, fa', rfl⟩ := List.exists_cons_of_ne_nil (l := fa) (fun e => by have := lx1.fl; rw [e] at this; cases this)
              repeat walk_at "rd"
              exact hG _ _ ⟨h, pl, below, a, fa', wv, lv, tv, hi, y8, y9, y10, m, Nat.le_refl _, rfl, lx1, bf⟩
            · exact absurd e hf
            · exact absurd e hf
        · rintro σ H5 ⟨h, pl, below, a, fa', wv', lv', tv', hi', y8', y9', y10', m1, hm1, rfl, lx5, bf⟩
          have hlen := bf.lens
          obtain ⟨s', hp, ho, hw, hlv, htv, hpk, hs, wk', hle⟩ := bf
          obtain ⟨hlh, hplr⟩ := ho (h, pl) List.mem_cons_self
          obtain ⟨row, er, hlth⟩ := live_lt hlh
          have hro : rowOf slots h = row := rowOf_some er
          rcases hv h _ er with ⟨e', _⟩ | ⟨r, row', e', zr, hR⟩
          · cases e'
          cases Option.some.inj e'
          obtain ⟨ea, ef⟩ := lx5.top
          replace ea : H5 a = some (.lst [.int (h : Int), .int (pl : Int)]) := ea
          have kx := lx5.kx
          have hfal : fa'.length = below.length := Nat.succ.inj lx5.fl
          have hat1 : atI (fa'.reverse.map V.ref ++ [V.ref a]) (-1) = some (V.ref a) := atI_last _ _
          have hatS : atI vs (h : Int) = some (V.ref r) := atI_nat zr
          have hrl : (rowV row).length = row.length := by unfold rowV; exact List.length_map _
          repeat walk_at "rd"
          have hplr2 : pl ≤ row.length := by rw [← hro]; exact hplr
          by_cases hpe : pl = row.length
          · refine iteP (decide_eq_true (by rw [hrl, hpe])) ?_
            have eat : (fa'.reverse.map V.ref ++ [V.ref a])[(fa'.reverse.map V.ref ++ [V.ref a]).length - 1]? = some (V.ref a) := by simp
            repeat walk_at "rd"
            refine ⟨ty_list (SqL.of ef), ?_⟩
            repeat walk_at "rd"
            rw [List.dropLast_concat]
            have hfw : fw slots ((h, pl) :: below) = 1 + fw slots below := by
              rw [fw_cons]
              show (rowOf slots h).length - pl + 1 + _ = _
              rw [hro, hpe]
              omega
            exact ⟨m1 - 1, by omega, below, fa', wv', lv', tv', hi', _, _, _, by omega, rfl, lx5.pop d, toST ⟨s', by rw [hp, pf_end (by rw [hro, hpe]; exact Nat.le_refl _)], fun q hq => ho q (List.mem_cons_of_mem _ hq), hw, hlv, htv, hpk, hs, wk', by omega⟩⟩
          · have hpl : pl < row.length := by omega
            refine iteN (decide_eq_false (fun e => hpe (by have := V.int.inj e; omega))) ?_
            repeat walk_at "rd"
            have lx6 := lx5.move d (pl' := pl + 1)
            replace lx6 : LX H (upd H5 a (.lst [.int (h : Int), .int ((pl : Int) + 1)])) t wt fr lg tv' wv' lv' (a :: fa') ((h, pl + 1) :: below) := lx6
            generalize upd H5 a (.lst [.int (h : Int), .int ((pl : Int) + 1)]) = H6 at *
            have kx6 := lx6.kx
            have ef6 := lx6.top.2
            have hatr : atI (rowV row) (pl : Int) = some (slotV row[pl]) := atI_nat (by unfold rowV; rw [List.getElem?_map, List.getElem?_eq_getElem hpl]; rfl)
            have hfw : fw slots ((h, pl) :: below) = 1 + fw slots ((h, pl + 1) :: below) := by
              rw [fw_cons, fw_cons]
              show (rowOf slots h).length - pl + 1 + _ = 1 + ((rowOf slots h).length - (pl + 1) + 1 + _)
              rw [hro]
              omega
            have ho6 : ∀ q ∈ (h, pl + 1) :: below, isLive slots q.1 = true ∧ q.2 ≤ (rowOf slots q.1).length := by
              intro q hq
              rcases List.mem_cons.mp hq with rfl | hq
              · exact ⟨hlh, by rw [hro]; exact hpl⟩
              · exact ho q (List.mem_cons_of_mem _ hq)
            cases hc : row[pl] with
            | none =>
              have hpt := pf_top (slots := slots) (h := h) (pl := pl) (below := below) (o := none) (by rw [hro, List.getElem?_eq_getElem hpl, hc])
              rw [hc] at hatr
              replace hatr : atI (rowV row) (pl : Int) = some V.non := hatr
              repeat walk_at "rd"
              refine iteF ?_
              repeat walk_at "rd"
              exact ⟨m1 - 1, by omega, _, _, _, _, _, _, _, _, _, by omega, rfl, lx6, toST ⟨s', by rw [hp, hpt]; rfl, ho6, hw, hlv, htv, hpk, hs, wk', by omega⟩⟩
            | some k' =>
              have hpt := pf_top (slots := slots) (h := h) (pl := pl) (below := below) (o := some k') (by rw [hro, List.getElem?_eq_getElem hpl, hc])
              rw [hc] at hatr
              replace hatr : atI (rowV row) (pl : Int) = some (V.int (k' : Int)) := hatr
              obtain ⟨rk, erk⟩ := wf.live row (List.mem_of_getElem? er) k' (by rw [← hc]; exact List.getElem_mem hpl)
              have hkl := (List.getElem?_eq_some_iff.mp erk).1
              have hlk : isLive slots k' = true := by simp [isLive, erk]
              obtain ⟨pd, hpd⟩ : ∃ pd : Pd, pd = ⟨some h, some pl, k', below.length + 1⟩ := ⟨_, rfl⟩
              have hnode : pd.node = k' := by rw [hpd]
              have hdep : pd.depth = below.length + 1 := by rw [hpd]
              obtain ⟨rest, hre⟩ : ∃ rest, rest = pf slots ((h, pl + 1) :: below) := ⟨_, rfl⟩
              have hpend : s'.pend = pd :: rest := by rw [hp, hpt, hpd, hre]; rfl
              have hnew := wk'.ok.new wk'.ho hpend
              rw [hnode] at hnew
              have hnl : k' ∉ s'.log := fun h => hnew (List.mem_append_left _ h)
              have hat2 : atI (talL slots (outs.set n (z - 1)) s'.log s'.pend) (k' : Int) = some (.int (tal slots (outs.set n (z - 1)) s'.log s'.pend k')) := range_at hkl
              have hix : ixN (talL slots (outs.set n (z - 1)) s'.log s'.pend).length (k' : Int) = some k' := range_ix hkl
              have hset : (talL slots (outs.set n (z - 1)) s'.log s'.pend).set k' (V.int (tal slots (outs.set n (z - 1)) s'.log s'.pend k' - 1)) = talL slots (outs.set n (z - 1)) s'.log rest :=
                range_set hkl (by rw [hpend, ← hnode, tal_pop_self]) (fun i hi => by rw [hpend, tal_pop_other _ _ _ _ _ (by rw [hnode]; exact hi)])
              rw [htv] at lx6
              have etl := lx6.tl
              refine' id ?_
              repeat walk_at "rd"
              refine iteT ?_
              repeat walk_at "rd"
              rw [hset]
              have lx7 := lx6.wT d (talL slots (outs.set n (z - 1)) s'.log rest)
              generalize upd H6 t (.lst (talL slots (outs.set n (z - 1)) s'.log rest)) = H7 at *
              have hat3 : atI (talL slots (outs.set n (z - 1)) s'.log rest) (k' : Int) = some (.int (tal slots (outs.set n (z - 1)) s'.log rest k')) := range_at hkl
              have etl7 := lx7.tl
              have ef7 := lx7.top.2
              have eL7 := lx7.l
              have eW7 := lx7.w
              have hge : 0 ≤ tal slots (outs.set n (z - 1)) s'.log rest k' := by
                have := tal_nonneg (slots := slots) wk'.ho s'.log rest k'
                omega
              repeat walk_at "rd"
              by_cases h0 : tal slots (outs.set n (z - 1)) s'.log rest k' = 0
              · refine iteP (decide_eq_true (by rw [h0])) ?_
                repeat walk_at "rd"
                have hfl2 : (fa'.reverse.map V.ref ++ [V.ref a]).length = below.length + 1 := by simp [hfal]
                by_cases hd : (((below.length + 1 : Nat)) : Int) < lim
                · have hstep : stepF slots (outs.set n (z - 1)) lim s' = some ⟨kids slots k' (below.length + 1 + 1) ++ rest, s'.shelf, s'.evs ++ [.release pd.holder pd.slot k' (tal slots (outs.set n (z - 1)) s'.log rest k'), .destroy k' (below.length + 1)]⟩ := by
                    unfold stepF
                    rw [hpend]
                    simp only
                    rw [hnode, hdep, if_neg (by omega), if_pos hd]
                  have hlog : FS.log ⟨kids slots k' (below.length + 1 + 1) ++ rest, s'.shelf, s'.evs ++ [.release pd.holder pd.slot k' (tal slots (outs.set n (z - 1)) s'.log rest k'), .destroy k' (below.length + 1)]⟩ = s'.log ++ [k'] := by
                    unfold FS.log
                    rw [List.filterMap_append]
                    rfl
                  refine iteP (decide_eq_true (by rw [hfl2]; exact hd)) ?_
                  repeat walk_at "rd"
                  refine ⟨ty_list (SqL.of eL7), ?_⟩
                  repeat walk_at "rd"
                  have lx8 := lx7.wL d (lv' ++ [V.int (k' : Int)])
                  generalize upd H7 lg (.lst (lv' ++ [V.int (k' : Int)])) = H8 at *
                  have ef8 := lx8.top.2
                  refine ⟨ty_list (SqL.of ef8), ?_⟩
                  have hz8 : (fa'.reverse.map V.ref ++ [V.ref a]).length < sizeLine := big_line (by rw [hfl2]; have := hlen.2.2; rw [List.length_cons] at this; omega)
                  repeat walk_at "rd"
                  rename_i q8 nq8
                  have lx9 := lx8.push d (h := k') (pl := 0) nq8
                  have hleft := left_dead (slots := slots) hkl hnl
                  have hfw2 : fw slots ((k', 0) :: (h, pl + 1) :: below) = (rowOf slots k').length + 1 + fw slots ((h, pl + 1) :: below) := by
                    rw [fw_cons]
                    rfl
                  rw [List.reverse_cons, List.map_append] at lx9
                  refine ⟨left slots (s'.log ++ [k']) + fw slots ((k', 0) :: (h, pl + 1) :: below), by omega, (k', 0) :: (h, pl + 1) :: below, q8 :: a :: fa', _, _, _, _, _, _, _, by omega, rfl, lx9, toST (BF.next hs wk' hstep ?_ ?_ hw ?_ ?_ ?_ (by rw [hlog]; exact Nat.le_refl _))⟩
                  · rw [pf_new, ← hre]
                    rfl
                  · intro q hq
                    rcases List.mem_cons.mp hq with rfl | hq
                    · exact ⟨hlk, Nat.zero_le _⟩
                    · exact ho6 q hq
                  · rw [hlog, hlv, List.map_append]
                    rfl
                  · rw [hlog]
                    unfold talL
                    refine List.map_congr_left fun m _ => congrArg V.int ?_
                    exact (tal_dead hkl hnl _ _ m).symm
                  · rw [sizes_app]
                    show IsPeak (sizesOf s'.evs ++ []) hi'
                    rw [List.append_nil]
                    exact hpk
                · have hstep : stepF slots (outs.set n (z - 1)) lim s' = some ⟨rest, s'.shelf ++ [k'], s'.evs ++ [.release pd.holder pd.slot k' (tal slots (outs.set n (z - 1)) s'.log rest k'), .shelve k' (s'.shelf.length + 1)]⟩ := by
                    unfold stepF
                    rw [hpend]
                    simp only
                    rw [hnode, hdep, if_neg (by omega), if_neg hd]
                  have hlog : FS.log ⟨rest, s'.shelf ++ [k'], s'.evs ++ [.release pd.holder pd.slot k' (tal slots (outs.set n (z - 1)) s'.log rest k'), .shelve k' (s'.shelf.length + 1)]⟩ = s'.log := by
                    unfold FS.log
                    rw [List.filterMap_append]
                    exact List.append_nil _
                  refine iteN (decide_eq_false (by rw [hfl2]; exact hd)) ?_
                  repeat walk_at "rd"
                  refine iteP (decide_eq_true (by rw [h0])) ?_
                  repeat walk_at "rd"
                  refine ⟨ty_list (SqL.of eW7), ?_⟩
                  repeat walk_at "rd"
                  have lx8 := lx7.wW d (wv' ++ [V.int (k' : Int)])
                  generalize upd H7 wt (.lst (wv' ++ [V.int (k' : Int)])) = H8 at *
                  have eW8 := lx8.w
                  repeat walk_at "rd"
                  have hwl : ((wv' ++ [V.int (k' : Int)]).length : Int) = (s'.shelf.length : Int) + 1 := by
                    rw [List.length_append, hw, List.length_map]
                    rfl
                  refine ⟨m1 - 1, by omega, (h, pl + 1) :: below, a :: fa', _, _, _, _, _, _, _, by omega, rfl, lx8, toST (BF.next hs wk' hstep hre ho6 ?_ ?_ ?_ ?_ (by rw [hlog]; omega))⟩
                  · rw [hw, List.map_append]
                    rfl
                  · rw [hlog]
                    exact hlv
                  · rw [hlog]
                  · rw [sizes_app, hwl]
                    exact hpk.snoc (sizes_nn _) (by omega)
              · have hstep : stepF slots (outs.set n (z - 1)) lim s' = some ⟨rest, s'.shelf, s'.evs ++ [.release pd.holder pd.slot k' (tal slots (outs.set n (z - 1)) s'.log rest k')]⟩ := by
                  unfold stepF
                  rw [hpend]
                  simp only
                  rw [hnode, if_pos (by omega)]
                have hlog : FS.log ⟨rest, s'.shelf, s'.evs ++ [.release pd.holder pd.slot k' (tal slots (outs.set n (z - 1)) s'.log rest k')]⟩ = s'.log := by
                  unfold FS.log
                  rw [List.filterMap_append]
                  exact List.append_nil _
                refine iteN (decide_eq_false (fun e => h0 (V.int.inj e))) ?_
                repeat walk_at "rd"
                refine iteN (decide_eq_false (fun e => h0 (V.int.inj e))) ?_
                repeat walk_at "rd"
                refine ⟨m1 - 1, by omega, (h, pl + 1) :: below, a :: fa', _, _, _, _, _, _, _, by omega, rfl, lx7, toST (BF.next hs wk' hstep hre ho6 hw ?_ ?_ ?_ (by rw [hlog]; omega))⟩
                · rw [hlog]
                  exact hlv
                · rw [hlog]
                · rw [sizes_app]
                  show IsPeak (sizesOf s'.evs ++ []) hi'
                  rw [List.append_nil]
                  exact hpk
end


section
variable {P : Program} {w : World} {K : PySem.W.Frag} {mg : Str → Option Value} {base : Heap}

def afterV (vs : List V) (log : List Nat) (i : Nat) : V := if i ∈ log then .non else (vs[i]?).getD .non
theorem in_log {i : Nat} {log : List Nat} : decide ((i : Int) ∈ log.map fun n : Nat => (n : Int)) = decide (i ∈ log) := by
  refine decide_eq_decide.mpr ⟨fun h => ?_, fun h => List.mem_map.mpr ⟨i, h, rfl⟩⟩
  obtain ⟨j, hj, e⟩ := List.mem_map.mp h
  have e2 : j = i := by omega
  rwa [← e2]
theorem afterH {H : Hp} {X S O : Addr} {slots : List (Option Rw)} {vs : List V} {log : List Nat} {outs : List Int} (hX : SqT K H X [.ref S, .ref O]) (hS : SqT K H S ((List.range slots.length).map (afterV vs log))) (hO : SqT K H O (outs.map V.int))
    (hv : ∀ (i : Nat) (o : Option Rw), slots[i]? = some o → (o = none ∧ vs[i]? = some V.non) ∨ ∃ r row, o = some row ∧ vs[i]? = some (.ref r) ∧ SqT K H r (rowV row)) : HeapT K H X (afterS slots log) outs := by
  refine ⟨S, O, _, hX, hS, hO, by rw [afterS_len, List.length_map, List.length_range], fun i o ho => ?_⟩
  have hi : i < slots.length := by
    have := (List.getElem?_eq_some_iff.mp ho).1
    rwa [afterS_len] at this
  unfold afterS at ho
  rw [List.getElem?_map, List.getElem?_range hi] at ho
  cases Option.some.inj ho
  rw [List.getElem?_map, List.getElem?_range hi]
  simp only [Option.map_some]
  rw [List.getElem?_eq_getElem hi]
  simp only [Option.getD_some]
  unfold afterV
  by_cases hl : i ∈ log
  · rw [if_pos hl, if_pos hl]
    exact .inl ⟨rfl, rfl⟩
  · rw [if_neg hl, if_neg hl]
    rcases hv i _ (List.getElem?_eq_getElem hi) with ⟨e, z⟩ | ⟨r, row, e, z, hR⟩
    · exact .inl ⟨e, by rw [z]; rfl⟩
    · exact .inr ⟨r, row, e, by rw [z]; rfl, hR⟩
def spAfter (K : PySem.W.Frag) : Sp := fun vs H Q _ => ∃ (D L : Addr) (slots : List (Option Rw)) (outs : List Int) (n : Nat) (z : Int) (log : List Nat), vs = [.ref D, .int n, .ref L] ∧ HeapT K H D slots outs ∧ slots.length ≤ 40 ∧ outs.length = slots.length ∧ outs[n]? = some z ∧ SqT K H L (log.map fun n : Nat => V.int n) ∧
  ∀ X H', Kx [] H H' → HeapT K H' X (afterS slots log) (outs.set n (z - 1)) → Q (.ref X) H'
theorem ok_after {f : Addr} {fd : FuncData} (F : Fun K "_law_after" "_law_after" sQAfter f fd) (T : Txt mg) : FnOk P w K mg base CX0 1 f fd ["_law_base_here", "_law_spot", "_law_log"] (spAfter K) := by
  refine F.ok scQAfter (fun vs H Q E h => ?_) (fun cdv A outer s H vs Q E hr h => ?_)
  · obtain ⟨D, L, slots, outs, n, z, log, rfl, _⟩ := h
    rfl
  · obtain ⟨D, L, slots, outs, n, z, log, rfl, hT, h40, hol, hz, hL, k⟩ := h
    obtain ⟨S, O, vs, hD, hS, hO, hvl, hv⟩ := id hT.ex
    refine ⟨_, (pss_cons (ps_setLc (i := 3) (own := [("_law_place", 5), ("_law_row", 6)]) rfl scQAfter.nd rfl rfl (sw_true rfl rfl rfl (by decide +kernel)) (pi_enumT (by rfl) T.b_enumerate (pa_cons (pe_ix ix_tup (pv 0) pe_int (fun _ _ => rfl)) pa_nil)) (blkOk_by (N := ["_law_base_here", "_law_spot", "_law_log", "_law_rows", "_law_handles", "_law_place", "_law_row", "_law_number"]) (sc := defScope sQAfter) (by decide +kernel)) (fun _ _ _ _ _ => (pg_tupK (K := K) (n := 2) rfl rfl (pgs_cons (pg_name (i := 5) scQAfter.nd rfl (Or.inl rfl)) (pgs_cons (pg_name (i := 6) scQAfter.nd rfl (Or.inl rfl)) pgs_nil)))) (fun _ _ _ _ _ => pts_nil) (fun _ _ _ _ _ => (pe_ifExp (pt_cmpR (op_in_seqK (K := K)) (pv 5) (pv 2) (by with_unfolding_all rfl)) pe_non (pv 6))))
      (pss_cons (ps_setLc (i := 4) (own := [("_law_place", 5), ("_law_number", 7)]) rfl scQAfter.nd rfl rfl (sw_true rfl rfl rfl (by decide +kernel)) (pi_enumT (by rfl) T.b_enumerate (pa_cons (pe_ix ix_tup (pv 0) pe_int (fun _ _ => rfl)) pa_nil)) (blkOk_by (N := ["_law_base_here", "_law_spot", "_law_log", "_law_rows", "_law_handles", "_law_place", "_law_row", "_law_number"]) (sc := defScope sQAfter) (by decide +kernel)) (fun _ _ _ _ _ => (pg_tupK (K := K) (n := 2) rfl rfl (pgs_cons (pg_name (i := 5) scQAfter.nd rfl (Or.inl rfl)) (pgs_cons (pg_name (i := 7) scQAfter.nd rfl (Or.inl rfl)) pgs_nil)))) (fun _ _ _ _ _ => pts_nil) (fun _ _ _ _ _ => (pe_op op_sub (pv 7) (pe_callTy call_int1 (by rfl) T.b_int boot'_int (pa_cons (pe_cmpR op_eq (pv 5) (pv 1) (nomark _)) pa_nil)))))
      (pss_one (ps_ret (pe_tup (pa_cons (pe_callTy call_tuple_of (by rfl) T.b_tuple boot'_tuple (pa_cons (pv 3) pa_nil)) (pa_cons (pe_callTy call_tuple_of (by rfl) T.b_tuple boot'_tuple (pa_cons (pv 4) pa_nil)) pa_nil))))))), ?_⟩
    refine x_start (σ' := [some (.ref D), some (.int n), some (.ref L), none, none, none, none, none]) rfl ?_
    try dsimp only [cxOf]
    rw [nat_ints] at hL
    repeat walk_at "rd"
    refine y_lcET (xs := vs) hS (fun Z nZ => ⟨fun i H1 => Kx [] H H1 ∧ H1 Z = some (.lst ((List.range i).map (afterV vs log))), ⟨(Kx.refl _ _).new nZ, upd_same⟩, ?_, ?_, ?_⟩)
    · rintro i H1 hi ⟨k1, _⟩
      exact k1.sqT (by simp) hS
    · rintro i x H1 H1' hi ⟨k1, e1⟩ ⟨U, x1, x2, rfl, nU, rfl, f1, f2⟩
      cases f1
      have hz0 : ((List.range i).map (afterV vs log)).length < sizeLine := big_line (by rw [List.length_map, List.length_range]; omega)
      have hL1 := (k1.new (o := .tup [.int i, x2]) nU).sqT (by simp) hL
      repeat walk_at "rd"
      refine ⟨rfl, ?_⟩
      repeat walk_at "rd"
      refine x_inT hL1 rfl (flat_ints _) ?_
      rw [in_int, in_log]
      repeat walk_at "rd"
      have grow : (List.range (i + 1)).map (afterV vs log) = (List.range i).map (afterV vs log) ++ [if i ∈ log then V.non else x2] := by
        rw [List.range_succ, List.map_append]
        show _ ++ [if i ∈ log then V.non else (vs[i]?).getD .non] = _
        rw [show vs[i]? = some x2 from f2]
        rfl
      by_cases hil : i ∈ log
      · refine iteP (decide_eq_true hil) ?_
        repeat walk_at "rd"
        refine ⟨_, lk_ne e1 nU, hz0, (k1.new nU).wr (.inl nZ), ?_⟩
        rw [upd_same, grow, if_pos hil]
      · refine iteN (decide_eq_false hil) ?_
        repeat walk_at "rd"
        refine ⟨_, lk_ne e1 nU, hz0, (k1.new nU).wr (.inl nZ), ?_⟩
        rw [upd_same, grow, if_neg hil]
    rintro H1 ⟨k1, eZ⟩
    rw [hvl] at eZ
    have hD1 := k1.sqT (by simp) hD
    have hO1 := k1.sqT (by simp) hO
    repeat walk_at "rd"
    refine y_lcET (xs := outs.map V.int) hO1 (fun Y nY => ⟨fun i H2 => Kx [] H1 H2 ∧ H2 Y = some (.lst (((outs.set n (z - 1)).take i).map V.int)), ⟨(Kx.refl _ _).new nY, upd_same⟩, ?_, ?_, ?_⟩)
    · rintro i H2 hi ⟨k2, _⟩
      exact k2.sqT (by simp) hO1
    · rintro i x H2 H2' hi ⟨k2, e2⟩ ⟨U, x1, x2, rfl, nU, rfl, f1, f2⟩
      cases f1
      rw [List.length_map] at hi
      have hz0 : (((outs.set n (z - 1)).take i).map V.int).length < sizeLine := big_line (by rw [List.length_map, List.length_take]; omega)
      replace f2 : (outs.map V.int)[i]? = some x2 := f2
      rw [List.getElem?_map, List.getElem?_eq_getElem hi] at f2
      cases Option.some.inj f2
      repeat walk_at "rd"
      refine ⟨rfl, ?_⟩
      repeat walk_at "rd"
      refine ⟨_, lk_ne e2 nU, hz0, (k2.new nU).wr (.inl nY), ?_⟩
      rw [upd_same, List.take_add_one, List.map_append]
      congr 3
      by_cases hin : n = i
      · subst hin
        have hoz : outs[n] = z := by
          rw [List.getElem?_eq_getElem hi] at hz
          exact Option.some.inj hz
        rw [List.getElem?_set_self hi, hoz]
        simp
      · rw [List.getElem?_set_ne hin, List.getElem?_eq_getElem hi]
        have : decide (V.int (i : Int) = V.int (n : Int)) = false := decide_eq_false fun e => by have := V.int.inj e; omega
        rw [this]
        simp
    rintro H2 ⟨k2, eY⟩
    rw [List.length_map, show outs.length = (outs.set n (z - 1)).length by rw [List.length_set], List.take_length] at eY
    have eZ2 := k2 _ _ (by simp) eZ
    repeat walk_at "rd"
    intro R nR
    repeat walk_at "rd"
    intro O' nO'
    repeat walk_at "rd"
    rename_i X nX
    have k02 := k1.trans k2
    have kk : Kx [] H (upd (upd (upd H2 R (.tup ((List.range slots.length).map (afterV vs log)))) O' (.tup ((outs.set n (z - 1)).map V.int))) X (.tup [.ref R, .ref O'])) := ((k02.new nR).new nO').new nX
    refine k X _ kk (afterH (SqT.of upd_same) (SqT.of (by walk_at "lk")) (SqT.of (by walk_at "lk")) fun i o ho => ?_)
    rcases hv i o ho with z | ⟨r, row, e, z, hR⟩
    · exact .inl z
    · exact .inr ⟨r, row, e, z, kk.sqT (by simp) hR⟩
def spDropped (K : PySem.W.Frag) : Sp := fun vs H Q _ => ∃ (D : Addr) (slots : List (Option Rw)) (outs : List Int) (n : Nat) (z lim : Int), vs = [.ref D, .int n, .int lim] ∧ HeapT K H D slots outs ∧ (∃ b, WfB b slots outs) ∧ isLive slots n = true ∧ outs[n]? = some z ∧ 1 ≤ z ∧ 0 < lim ∧
  ∀ B L X k s' H', Kx [] H H' → SqT K H' B [.ref L, .int k, .ref X] → SqT K H' L (s'.log.map fun n : Nat => V.int n) → Steps slots (outs.set n (z - 1)) lim (s00 n) s' → s'.pend = [] → s'.shelf = [] → Wk slots (outs.set n (z - 1)) s' → IsPeak (sizesOf s'.evs) k → HeapT K H' X (afterS slots s'.log) (outs.set n (z - 1)) → Q (.ref B) H'
theorem ok_dropped {f : Addr} {fd : FuncData} (F : Fun K "_law_dropped" "_law_dropped" sQDropped f fd) (T : Txt mg) (l_law_model : Lo P w K mg base "_law_model" 2 ["_law_base_here", "_law_spot", "_law_bound_here"] (spModel K))
    (l_law_after : Lo P w K mg base "_law_after" 1 ["_law_base_here", "_law_spot", "_law_log"] (spAfter K)) : FnOk P w K mg base CX0 3 f fd ["_law_base_here", "_law_spot", "_law_bound_here"] (spDropped K) := by
  refine F.ok scQDropped (fun vs H Q E h => ?_) (fun cdv A outer s H vs Q E hr h => ?_)
  · obtain ⟨D, slots, outs, n, z, lim, rfl, _⟩ := h
    rfl
  · obtain ⟨D, slots, outs, n, z, lim, rfl, hT, ⟨b0, wf⟩, hl, hz, h1, hlim, k⟩ := h
    refine ⟨_, (pss_cons (ps_asg (pe_lo l_law_model (hr.mono (by decide)) (by rfl) (pa_cons (pv 0) (pa_cons (pv 1) (pa_cons (pv 2) pa_nil)))) (pg_tup rfl (pgs_cons (pg_name (i := 3) scQDropped.nd rfl (Or.inl rfl)) (pgs_cons (pg_name (i := 4) scQDropped.nd rfl (Or.inl rfl)) pgs_nil))))
      (pss_one (ps_ret (pe_tup (pa_cons (pv 3) (pa_cons (pv 4) (pa_cons (pe_lo l_law_after (hr.mono (by decide)) (by rfl) (pa_cons (pv 0) (pa_cons (pv 1) (pa_cons (pv 3) pa_nil)))) pa_nil))))))), ?_⟩
    refine x_start (σ' := [some (.ref D), some (.int n), some (.int lim), none, none]) rfl ?_
    try dsimp only [cxOf]
    repeat walk_at "rd"
    refine ⟨D, slots, outs, n, z, lim, rfl, hT, ⟨_, wf⟩, hl, hz, h1, hlim, fun B L pk s' H1 k1 hB hL hs hp he wk hpk => ?_⟩
    repeat walk_at "rd"
    refine ⟨D, L, slots, outs, n, z, s'.log, rfl, hT.keep k1, wf.most, wf.len, hz, hL, fun X H2 k2 hX => ?_⟩
    repeat walk_at "rd"
    rename_i B2 nB2
    have k3 : Kx [] H2 (upd H2 B2 (.tup [.ref L, .int pk, .ref X])) := (Kx.refl _ _).new nB2
    exact k B2 L X pk s' _ ((k1.trans k2).trans k3) (SqT.of upd_same) ((k2.trans k3).sqT (by simp) hL) hs hp he wk hpk (hX.keep k3)
def spBound : Sp := fun vs H Q _ => ∃ (p c : Addr) (m N : Nat), vs = [.ref p, .int N] ∧ PenAt H p c m ∧ m ≤ 900000 ∧ 1 ≤ N ∧ N ≤ 40 ∧ ∀ lim H', 0 < lim → Kx [p] H H' → PenAt H' p c (m + 4) → Q (.int lim) H'
theorem pos8 {d a b c e : Int} (h0 : 0 ≤ d) (h8 : d < 8) (ha : 0 < a) (hb : 0 < b) (hc : 0 < c) (he : 0 < e) {g : Int} (hg : 0 < g) : ∃ lim, atI [V.int 1, .int 2, .int 3, .int a, .int b, .int c, .int e, .int g] d = some (.int lim) ∧ 0 < lim := by
  have : d = 0 ∨ d = 1 ∨ d = 2 ∨ d = 3 ∨ d = 4 ∨ d = 5 ∨ d = 6 ∨ d = 7 := by omega
  rcases this with rfl | rfl | rfl | rfl | rfl | rfl | rfl | rfl
  · exact ⟨1, rfl, by decide⟩
  · exact ⟨2, rfl, by decide⟩
  · exact ⟨3, rfl, by decide⟩
  · exact ⟨a, rfl, ha⟩
  · exact ⟨b, rfl, hb⟩
  · exact ⟨c, rfl, hc⟩
  · exact ⟨e, rfl, he⟩
  · exact ⟨g, rfl, hg⟩
theorem ok_bound {f : Addr} {fd : FuncData} (F : Fun K "_law_bound" "_law_bound" sQBound f fd) (T : Txt mg) (l_law_draw : Lo P w K mg base "_law_draw" 1 ["_law_pen_here", "_law_most_one"] spDraw) : FnOk P w K mg base CX0 2 f fd ["_law_pen_here", "_law_size"] spBound := by
  refine F.ok scQBound (fun vs H Q E h => ?_) (fun cdv A outer s H vs Q E hr h => ?_)
  · obtain ⟨p, c, m, N, rfl, _⟩ := h
    rfl
  · obtain ⟨p, c, m, N, rfl, P0, hm, hN1, hN40, k⟩ := h
    refine ⟨_, (pss_cons (ps_set (i := 2) scQBound.nd rfl (Or.inl rfl) (pe_lst (pa_cons pe_int (pa_cons pe_int (pa_cons pe_int (pa_cons (pe_op op_add pe_int (pe_lo l_law_draw (hr.mono (by decide)) (by rfl) (pa_cons (pv 0) (pa_cons (pv 1) pa_nil)))) (pa_cons (pv 1) (pa_cons (pe_op op_add (pv 1) pe_int) (pa_cons (pe_op op_add pe_int (pe_lo l_law_draw (hr.mono (by decide)) (by rfl) (pa_cons (pv 0) (pa_cons (pe_op op_pow pe_int pe_int) pa_nil)))) pa_nil)))))))))
      (pss_one (ps_ret (pe_ix ix_list (pe_op op_cat (pv 2) (pe_lst (pa_cons (pe_op op_sub (pe_op op_pow pe_int pe_int) (pe_lo l_law_draw (hr.mono (by decide)) (by rfl) (pa_cons (pv 0) (pa_cons pe_int pa_nil)))) pa_nil))) (pe_lo l_law_draw (hr.mono (by decide)) (by rfl) (pa_cons (pv 0) (pa_cons pe_int pa_nil))) (fun _ _ => rfl))))), ?_⟩
    refine x_start (σ' := [some (.ref p), some (.int N), none]) rfl ?_
    try dsimp only [cxOf]
    repeat walk_at "rd"
    refine x_draw P0 (by omega) (by omega) (by omega) fun d1 H1 d1l d1h k1 P1 => ?_
    repeat walk_at "rd"
    refine x_draw P1 (by omega) (by decide) (by decide) fun d2 H2 d2l d2h k2 P2 => ?_
    repeat walk_at "rd"
    rename_i A nA
    obtain ⟨⟨op, hp⟩, oc, hc⟩ := P2.some
    have P3 := P2.keep ((Kx.refl [] H2).new (o := .lst [.int 1, .int 2, .int 3, .int (1 + d1), .int N, .int (N + 1), .int (1 + d2)]) nA) (by simp) (by simp) (Nat.le_refl _)
    refine x_draw P3 (by omega) (by decide) (by decide) fun d3 H3 d3l d3h k3 P4 => ?_
    have nAp : A ≠ p := (ne_of_none hp nA).symm
    have eA : H3 A = some (.lst [.int 1, .int 2, .int 3, .int (1 + d1), .int N, .int (N + 1), .int (1 + d2)]) := k3 _ _ (by simpa using nAp) upd_same
    repeat walk_at "rd"
    rename_i Bq nB
    refine x_catL (lk_ne eA nB) upd_same (by show 7 + 1 ≤ sizeLine; decide) fun C nC => ?_
    have kB : Kx [] H3 (upd H3 Bq (.lst [.int ((10 : Int) ^ (30 : Int).toNat - d3)])) := (Kx.refl [] H3).new nB
    have P5 := P4.keep (kB.new (o := .lst ([.int 1, .int 2, .int 3, .int (1 + d1), .int N, .int (N + 1), .int (1 + d2)] ++ [.int ((10 : Int) ^ (30 : Int).toNat - d3)])) nC) (by simp) (by simp) (Nat.le_refl _)
    have hCp : C ≠ p := by
      obtain ⟨⟨op', hp'⟩, _⟩ := P4.some
      exact (ne_of_none (lk_ne hp' nB) nC).symm

    repeat walk_at "rd"
    refine x_draw P5 (by omega) (by decide) (by decide) fun d4 H4 d4l d4h k4 P6 => ?_
    have eC : H4 C = some (.lst ([.int 1, .int 2, .int 3, .int (1 + d1), .int N, .int (N + 1), .int (1 + d2)] ++ [.int ((10 : Int) ^ (30 : Int).toNat - d3)])) := k4 _ _ (by simpa using hCp) upd_same
    have h30 : (10 : Int) ^ (30 : Int).toNat = 1000000000000000000000000000000 := by decide +kernel
    obtain ⟨lim, hat, hpos⟩ := pos8 (a := 1 + d1) (b := N) (c := N + 1) (e := 1 + d2) (g := (10 : Int) ^ (30 : Int).toNat - d3) d4l d4h (by omega) (by omega) (by omega) (by omega) (by rw [h30]; omega)
    replace hat : atI ([V.int 1, .int 2, .int 3, .int (1 + d1), .int N, .int (N + 1), .int (1 + d2)] ++ [.int ((10 : Int) ^ (30 : Int).toNat - d3)]) d4 = some (.int lim) := hat
    repeat walk_at "rd"
    have kk : Kx [p] H H4 := ((((k1.trans k2).new nA).trans k3).trans ((kB.new nC).mono (by simp))).trans k4
    exact k lim H4 hpos kk P6
end


theorem sqT_kx {S : List Addr} {K : PySem.W.Frag} {H H' : Hp} {a : Addr} {xs : List V} (h : SqT K H a xs) (k : Kx S H H') (l : ∀ b ∈ S, ∃ ys : List V, H b = some (.lst ys)) : SqT K H' a xs := by
  rcases h with h | h
  · refine .inl ?_
    rcases h with h | ⟨o, h⟩
    · exact .inl (k _ _ (fun z => by obtain ⟨ys, e⟩ := l _ z; rw [h] at e; cases e) h)
    · exact .inr ⟨o, k _ _ (fun z => by obtain ⟨ys, e⟩ := l _ z; rw [h] at e; cases e) h⟩
  · exact .inr h
theorem sqT_wr {K : PySem.W.Frag} {H : Hp} {a p : Addr} {xs ys : List V} {o : HO} (h : SqT K H a xs) (l : H p = some (.lst ys)) : SqT K (upd H p o) a xs :=
  sqT_kx (S := [p]) h (fun b u hb e => lk_ne2 (fun z => hb (by rw [z]; exact List.mem_cons_self)) e) (fun b hb => by rw [List.mem_singleton.mp hb]; exact ⟨ys, l⟩)
theorem pen_lst {H : Hp} {p c : Addr} {n : Nat} (h : PenAt H p c n) : ∀ b ∈ [p], ∃ ys : List V, H b = some (.lst ys) := by
  obtain ⟨cs, pl, r, hp, _⟩ := h
  intro b hb
  rw [List.mem_singleton.mp hb]
  exact ⟨_, hp⟩
/-- the rows of a heap, in a list of values -/
structure RowsT (K : PySem.W.Frag) (H : Hp) (vs : List V) (slots : List (Option Rw)) : Prop where
  len : vs.length = slots.length
  at_ : ∀ (i : Nat) (o : Option Rw), slots[i]? = some o → (o = none ∧ vs[i]? = some V.non) ∨ ∃ r row, o = some row ∧ vs[i]? = some (.ref r) ∧ SqT K H r (rowV row)
theorem RowsT.kx {S : List Addr} {K : PySem.W.Frag} {H H' : Hp} {vs : List V} {slots : List (Option Rw)} (h : RowsT K H vs slots) (k : Kx S H H') (l : ∀ b ∈ S, ∃ ys : List V, H b = some (.lst ys)) : RowsT K H' vs slots := by
  refine ⟨h.len, fun i o ho => ?_⟩
  rcases h.at_ i o ho with z | ⟨r, row, e1, e2, e3⟩
  · exact .inl z
  · exact .inr ⟨r, row, e1, e2, sqT_kx e3 k l⟩
theorem RowsT.keep {K : PySem.W.Frag} {H H' : Hp} {vs : List V} {slots : List (Option Rw)} (h : RowsT K H vs slots) (k : Kx [] H H') : RowsT K H' vs slots := h.kx k (by simp)
theorem RowsT.wr {K : PySem.W.Frag} {H : Hp} {p : Addr} {ys vs : List V} {o : HO} {slots : List (Option Rw)} (h : RowsT K H vs slots) (l : H p = some (.lst ys)) : RowsT K (upd H p o) vs slots :=
  h.kx (S := [p]) (fun b u hb e => lk_ne2 (fun z => hb (by rw [z]; exact List.mem_cons_self)) e) (fun b hb => by rw [List.mem_singleton.mp hb]; exact ⟨ys, l⟩)
theorem RowsT.set {K : PySem.W.Frag} {H : Hp} {vs : List V} {slots : List (Option Rw)} (h : RowsT K H vs slots) {n : Nat} {t : Addr} {row : Rw} (ht : SqT K H t (rowV row)) (hn : n < slots.length) : RowsT K H (vs.set n (.ref t)) (slots.set n (some row)) := by
  refine ⟨by rw [List.length_set, List.length_set]; exact h.len, fun i o ho => ?_⟩
  by_cases e : i = n
  · subst e
    rw [List.getElem?_set_self hn] at ho
    cases Option.some.inj ho
    exact .inr ⟨t, row, rfl, List.getElem?_set_self (by rw [h.len]; exact hn), ht⟩
  · rw [List.getElem?_set_ne (Ne.symm e)] at ho
    rw [List.getElem?_set_ne (Ne.symm e)]
    exact h.at_ i o ho
theorem rowV_len (a : Rw) : (rowV a).length = a.length := List.length_map _
theorem rowV_app (a b : Rw) : rowV (a ++ b) = rowV a ++ rowV b := List.map_append
/-- a row more in two rows -/
theorem WfB.put {b : Int} {slots : List (Option Rw)} {outs : List Int} (wf : WfB b slots outs) {n : Nat} {row row' : Rw} (h : slots[n]? = some (some row)) (hl : row'.length ≤ 40) (hm : ∀ k : Nat, some k ∈ row' → some k ∈ row ∨ ∃ r, slots[k]? = some (some r)) :
    WfB b (slots.set n (some row')) outs := by
  have hn := (List.getElem?_eq_some_iff.mp h).1
  have key : ∀ (k : Nat) (r : Rw), slots[k]? = some (some r) → ∃ r, (slots.set n (some row'))[k]? = some (some r) := by
    intro k r hk
    by_cases e : n = k
    · subst e
      exact ⟨row', List.getElem?_set_self hn⟩
    · exact ⟨r, by rw [List.getElem?_set_ne e]; exact hk⟩
  refine ⟨by rw [List.length_set]; exact wf.len, by rw [List.length_set]; exact wf.most, fun m hm2 => ?_, wf.outs, fun r hr => ?_, fun r hr k hk => ?_⟩
  · by_cases e : n = m
    · subst e
      rw [List.getElem?_set_self hn] at hm2
      cases hm2
    · rw [List.getElem?_set_ne e] at hm2
      exact wf.free m hm2
  · rcases List.mem_or_eq_of_mem_set hr with hr | hr
    · exact wf.row r hr
    · cases hr
      exact hl
  · rcases List.mem_or_eq_of_mem_set hr with hr | hr
    · obtain ⟨q, hq⟩ := wf.live r hr k hk
      exact key k q hq
    · cases hr
      rcases hm k hk with h1 | ⟨q, hq⟩
      · obtain ⟨q, hq⟩ := wf.live row (List.mem_of_getElem? h) k h1
        exact key k q hq
      · exact key k q hq
theorem WfB.zero {slots : List (Option Rw)} {outs : List Int} (wf : WfB 9 slots outs) (n : Nat) : WfB 9 slots (outs.set n 0) := by
  refine ⟨by rw [List.length_set]; exact wf.len, wf.most, fun m hm => ?_, fun z hz => ?_, wf.row, wf.live⟩
  · have := wf.free m hm
    by_cases e : n = m
    · subst e
      exact List.getElem?_set_self (List.getElem?_eq_some_iff.mp this).1
    · rw [List.getElem?_set_ne e]
      exact this
  · rcases List.mem_or_eq_of_mem_set hz with hz | rfl
    · exact wf.outs z hz
    · omega
theorem live_set {slots : List (Option Rw)} {n : Nat} {row row' : Rw} (h : slots[n]? = some (some row)) (m : Nat) : isLive (slots.set n (some row')) m = isLive slots m := by
  have hn := (List.getElem?_eq_some_iff.mp h).1
  unfold isLive
  by_cases e : n = m
  · subst e
    rw [List.getElem?_set_self hn, h]
    rfl
  · rw [List.getElem?_set_ne e]
theorem liveUp_mem {slots : List (Option Rw)} {n : Nat} {z : Int} : z ∈ liveUp slots n ↔ ∃ m : Nat, z = m ∧ m < n ∧ isLive slots m = true := by
  unfold liveUp
  rw [List.mem_map]
  constructor
  · rintro ⟨m, hm, rfl⟩
    have := List.mem_filter.mp hm
    exact ⟨m, rfl, List.mem_range.mp this.1, this.2⟩
  · rintro ⟨m, rfl, h1, h2⟩
    exact ⟨m, List.mem_filter.mpr ⟨List.mem_range.mpr h1, h2⟩, rfl⟩

theorem cut_to (xs : List V) (k : Nat) : cutV xs none (some (k : Int)) = xs.take k := by
  unfold cutV
  rw [HT.sIx_none, show HT.sIx xs.length xs.length (some (k : Int)) = min k xs.length from HT.sIx_nat xs.length xs.length k]
  show List.take (min k xs.length - 0) (List.drop 0 xs) = _
  rw [Nat.sub_zero, List.drop_zero]
  rcases Nat.le_total k xs.length with h | h
  · rw [Nat.min_eq_left h]
  · rw [Nat.min_eq_right h, List.take_of_length_le (Nat.le_refl _), List.take_of_length_le h]
theorem x_slA {K : PySem.W.Frag} {H : Hp} {Q : VK} {p : Addr} {xs : List V} {lo hi : Option Int} (h : SqT K H p xs) (hw : HT.sIx xs.length 0 lo = 0 ∧ HT.sIx xs.length xs.length hi = xs.length → cutV xs lo hi = xs)
    (q : ∀ a H', SqT K H' a (cutV xs lo hi) → Kx [] H H' → Q (.ref a) H') : rSlA K (.ref p) lo hi H Q := by
  refine ⟨p, xs, rfl, h, fun w => q p H (by rw [hw w]; exact h) (Kx.refl _ _), fun _ a na => q a _ (SqT.of upd_same) ((Kx.refl _ _).new na)⟩
theorem x_slTo {K : PySem.W.Frag} {H : Hp} {Q : VK} {p : Addr} {xs : List V} {k : Nat} (h : SqT K H p xs) (q : ∀ a H', SqT K H' a (xs.take k) → Kx [] H H' → Q (.ref a) H') : rSlA K (.ref p) none (some (k : Int)) H Q := by
  refine x_slA h (fun w => ?_) (fun a H' ha => q a H' (by rwa [cut_to] at ha))
  have h2 := w.2
  rw [show HT.sIx xs.length xs.length (some (k : Int)) = min k xs.length from HT.sIx_nat xs.length xs.length k] at h2
  rw [cut_to, List.take_of_length_le (by omega)]
theorem x_slFrom {K : PySem.W.Frag} {H : Hp} {Q : VK} {p : Addr} {xs : List V} {k : Nat} (h : SqT K H p xs) (q : ∀ a H', SqT K H' a (xs.drop k) → Kx [] H H' → Q (.ref a) H') : rSlA K (.ref p) (some (k : Int)) none H Q := by
  refine x_slA h (fun w => ?_) (fun a H' ha => q a H' (by rwa [cut_from] at ha))
  have h2 := w.1
  rw [show HT.sIx xs.length 0 (some (k : Int)) = min k xs.length from HT.sIx_nat xs.length 0 k] at h2
  rw [cut_from]
  rcases Nat.eq_zero_or_pos k with rfl | hk
  · rfl
  · have : xs = [] := List.eq_nil_of_length_eq_zero (by omega)
    subst this
    rw [List.drop_nil]
theorem set_cut {r : Rw} {j : Nat} (hj : j < r.length) (o : Option Nat) : (rowV r).take j ++ [slotV o] ++ (rowV r).drop (j + 1) = rowV (r.set j o) := by
  unfold rowV
  rw [List.map_set, List.set_eq_take_append_cons_drop, if_pos (by rw [List.length_map]; exact hj), List.append_assoc]
  rfl
theorem afterS_nil (slots : List (Option Rw)) : afterS slots [] = slots := by
  unfold afterS
  refine List.ext_getElem? fun i => ?_
  rw [List.getElem?_map]
  by_cases hi : i < slots.length
  · rw [List.getElem?_range hi]
    simp [List.getElem?_eq_getElem hi]
  · rw [List.getElem?_eq_none (by rw [List.length_range]; omega), List.getElem?_eq_none (by omega)]
    rfl
theorem wf_put {b : Int} {slots : List (Option Rw)} {outs : List Int} (wf : WfB b slots outs) {node j : Nat} {row : Rw} {tgt : Option Nat} (er : slots[node]? = some (some row)) (hj : j < row.length) (ht : ∀ t, tgt = some t → isLive slots t = true) : WfB b (putS slots node j tgt) outs := by
  unfold putS
  rw [rowOf_some er]
  refine wf.put er (by rw [List.length_set]; exact wf.row row (List.mem_of_getElem? er)) fun k hk => ?_
  rcases List.mem_or_eq_of_mem_set hk with hk | e
  · exact .inl hk
  · obtain ⟨r, h, _⟩ := live_lt (ht k e.symm)
    exact .inr ⟨r, h⟩
theorem wf_bump {b : Int} {slots : List (Option Rw)} {outs : List Int} (wf : WfB b slots outs) {k : Nat} (hl : isLive slots k = true) : WfB (b + 1) slots (bump outs (some k)) := by
  have hklt : k < outs.length := by rw [wf.len]; exact (live_lt hl).choose_spec.2
  have hb : ∀ m, m ≠ k → (bump outs (some k))[m]? = outs[m]? := fun m h => List.getElem?_set_ne (Ne.symm h)
  refine ⟨by show (outs.set k _).length = _; rw [List.length_set]; exact wf.len, wf.most, fun m hm => ?_, fun z hz => ?_, wf.row, wf.live⟩
  · have hne : m ≠ k := fun e => by
      subst e
      simp [isLive, hm] at hl
    rw [hb m hne]
    exact wf.free m hm
  · rcases List.mem_or_eq_of_mem_set hz with hz | rfl
    · have := wf.outs z hz
      omega
    · cases e : outs[k]? with
      | none =>
        rw [List.getElem?_eq_getElem hklt] at e
        cases e
      | some z =>
        have := wf.outs z (List.mem_of_getElem? e)
        show 0 ≤ z + 1 ∧ z + 1 ≤ b + 1
        omega
section
variable {P : Program} {w : World} {K : PySem.W.Frag} {mg : Str → Option Value} {base : Heap}
def spLoose (K : PySem.W.Frag) : Sp := fun vs H Q _ => ∃ (p c D : Addr) (n : Nat) (slots : List (Option Rw)) (outs : List Int), vs = [.ref p, .ref D] ∧ PenAt H p c n ∧ n ≤ 900000 ∧ HeapT K H D slots outs ∧ Wf slots outs ∧ (∃ m, isLive slots m = true) ∧
  ∀ D' slots' outs' H', HeapT K H' D' slots' outs' → Wf slots' outs' → (∀ m, isLive slots' m = isLive slots m) → Kx [p] H H' → PenAt H' p c (n + 100) → Q (.ref D') H'
theorem ok_loose {f : Addr} {fd : FuncData} (F : Fun K "_law_loose" "_law_loose" sQLoose f fd) (T : Txt mg) (l_law_draw : Lo P w K mg base "_law_draw" 1 ["_law_pen_here", "_law_most_one"] spDraw) :
    FnOk P w K mg base CX0 2 f fd ["_law_pen_here", "_law_base_here"] (spLoose K) := by
  refine F.ok scQLoose (fun vs H Q E h => ?_) (fun cdv A outer s H vs Q E hr h => ?_)
  · obtain ⟨p, c, D, n, slots, outs, rfl, _⟩ := h
    rfl
  · obtain ⟨p, c, D, n, slots, outs, rfl, hpen, hn, hT, wf, ⟨m0, hm0⟩, k⟩ := h
    obtain ⟨S, O, vs, hD, hS, hO, hl, hv⟩ := id hT.ex
    refine ⟨_, (pss_cons (ps_par (i := 2) (j := 3) rfl scQLoose.nd rfl rfl (by decide) rfl rfl (pa_cons (pe_callTy call_list_of (by rfl) T.b_list boot'_list (pa_cons (pe_ix ix_tup (pv 1) pe_int (fun _ _ => rfl)) pa_nil)) (pa_cons (pe_callTy call_list_of (by rfl) T.b_list boot'_list (pa_cons (pe_ix ix_tup (pv 1) pe_int (fun _ _ => rfl)) pa_nil)) pa_nil)) (by rfl))
      (pss_cons (ps_setLc (i := 4) (own := [("_law_spot", 8), ("_law_row", 9)]) rfl scQLoose.nd rfl rfl (sw_true rfl rfl rfl (by decide +kernel)) (pi_enum (by rfl) T.b_enumerate (pa_cons (pv 2) pa_nil)) (blkOk_by (N := ["_law_pen_here", "_law_base_here", "_law_rows", "_law_handles", "_law_alive", "_law_turn", "_law_one", "_law_other", "_law_spot", "_law_row"]) (sc := defScope sQLoose) (by decide +kernel)) (fun _ _ _ _ _ => (pg_tupK (K := K) (n := 2) rfl rfl (pgs_cons (pg_name (i := 8) scQLoose.nd rfl (Or.inl rfl)) (pgs_cons (pg_name (i := 9) scQLoose.nd rfl (Or.inl rfl)) pgs_nil)))) (fun _ _ _ _ _ => (pts_one (pt_cmpR op_notN1 (pv 9) pe_non (nomark _)))) (fun _ _ _ _ _ => (pv 8)))
      (pss_cons (ps_for PassesOwn.never rfl (pi_range1 (by rfl) T.b_range (pa_cons (pe_ix ix_list (pe_lst (pa_cons pe_int (pa_cons pe_int (pa_cons pe_int (pa_cons pe_int pa_nil))))) (pe_lo l_law_draw (hr.mono (by decide)) (by rfl) (pa_cons (pv 0) (pa_cons pe_int pa_nil))) (fun _ _ => rfl)) pa_nil)) (pg_name (i := 5) scQLoose.nd rfl (Or.inl rfl))
      (pss_cons (ps_set (i := 6) scQLoose.nd rfl (Or.inl rfl) (pe_ix ix_list (pv 4) (pe_lo l_law_draw (hr.mono (by decide)) (by rfl) (pa_cons (pv 0) (pa_cons (pe_callB call_len_seq (by rfl) T.b_len boot'_len (pa_cons (pv 4) pa_nil)) pa_nil))) (fun _ _ => rfl)))
      (pss_cons (ps_set (i := 7) scQLoose.nd rfl (Or.inl rfl) (pe_ix ix_list (pv 4) (pe_lo l_law_draw (hr.mono (by decide)) (by rfl) (pa_cons (pv 0) (pa_cons (pe_callB call_len_seq (by rfl) T.b_len boot'_len (pa_cons (pv 4) pa_nil)) pa_nil))) (fun _ _ => rfl)))
      (pss_one (ps_if (PW.pt (pw_and (pt_cmpR op_lt (pe_callB call_len_seq (by rfl) T.b_len boot'_len (pa_cons (pe_ix ix_list (pv 2) (pv 6) (fun _ _ => rfl)) pa_nil)) (pe_op op_sub pe_int (pe_callTy call_int1 (by rfl) T.b_int boot'_int (pa_cons (pe_cmpR op_eq (pv 6) (pv 7) (nomark _)) pa_nil))) (nomark _)) (pw_and1 (pt_cmpR op_lt (pe_callB call_len_seq (by rfl) T.b_len boot'_len (pa_cons (pe_ix ix_list (pv 2) (pv 7) (fun _ _ => rfl)) pa_nil)) pe_int (nomark _))))) (pss_cons (ps_asg (pe_op op_catA (pe_ix ix_list (pv 2) (pv 6) (fun _ _ => rfl)) (pe_tup (pa_cons (pv 7) pa_nil))) (pg_sub (pv 2) (pv 6) set_list))
      (pss_cons (ps_asg (pe_op op_catA (pe_tup (pa_cons (pv 6) pa_nil)) (pe_ix ix_list (pv 2) (pv 7) (fun _ _ => rfl))) (pg_sub (pv 2) (pv 7) set_list))
      (pss_one (ps_if (pt_cmpR op_gt (pe_lo l_law_draw (hr.mono (by decide)) (by rfl) (pa_cons (pv 0) (pa_cons pe_int pa_nil))) pe_int (nomark _)) (pss_cons (ps_asg pe_int (pg_sub (pv 3) (pv 6) set_list))
      (pss_one (ps_asg pe_int (pg_sub (pv 3) (pv 7) set_list)))) pss_nil)))) pss_nil)))))
      (pss_one (ps_ret (pe_tup (pa_cons (pe_callTy call_tuple_of (by rfl) T.b_tuple boot'_tuple (pa_cons (pv 2) pa_nil)) (pa_cons (pe_callTy call_tuple_of (by rfl) T.b_tuple boot'_tuple (pa_cons (pv 3) pa_nil)) pa_nil)))))))), ?_⟩
    refine x_start (σ' := [some (.ref p), some (.ref D), none, none, none, none, none, none, none, none]) rfl ?_
    dsimp only [cxOf]
    have h40 := wf.most
    repeat walk_at "rd"
    intro R nR
    have hO1 : SqT K (upd H R (.lst vs)) O (outs.map V.int) := ((Kx.refl [] H).new nR).sqT (by simp) hO
    have hD1 : SqT K (upd H R (.lst vs)) D [.ref S, .ref O] := ((Kx.refl [] H).new nR).sqT (by simp) hD
    repeat walk_at "rd"
    intro G nG
    have nRG : R ≠ G := ne_of_none (show (upd H R (.lst vs)) R = some (.lst vs) from upd_same) nG
    have nG0 : H G = none := ((Kx.refl [] H).new nR).fresh (by simp) nG
    have hrt : RowsT K H vs slots := ⟨hl, hv⟩
    repeat walk_at "rd"
    generalize hG0 : upd (upd H R (.lst vs)) G (.lst (outs.map V.int)) = HG
    have k0 : Kx [] H HG := hG0 ▸ ((Kx.refl [] H).new nR).new nG
    have eR0 : HG R = some (.lst vs) := by rw [← hG0]; exact lk_ne2 nRG upd_same
    have eG0 : HG G = some (.lst (outs.map V.int)) := by rw [← hG0]; exact upd_same
    have rt0 := hrt.keep k0
    have hp0 := hpen.keep k0 (by simp) (by simp) (Nat.le_refl _)
    clear hG0
    refine y_lcE (xs := vs) (SqL.of eR0) (fun Z nZ => ⟨fun i H1 => Kx [] HG H1 ∧ H1 Z = some (.lst ((liveUp slots i).map V.int)), ⟨(Kx.refl _ _).new nZ, upd_same⟩, ?_, ?_, ?_⟩)
    · rintro i H1 hi ⟨k1, _⟩
      exact k1.sqL (by simp) (SqL.of eR0)
    · rintro i x H1 H1' hi ⟨k1, e1⟩ ⟨U, x1, x2, rfl, nU, rfl, f1, f2⟩
      cases f1
      have nUZ : Z ≠ U := ne_of_none e1 nU
      repeat walk_at "rd"
      refine ⟨rfl, ?_⟩
      have hs : i < slots.length := by omega
      repeat walk_at "rd"
      have es := List.getElem?_eq_getElem hs
      have hlen := liveUp_len slots i
      rcases hv i _ es with ⟨e, z⟩ | ⟨r, row, e, z, _⟩
      · cases Option.some.inj (z.symm.trans f2)
        refine iteF ⟨(k1.new nU), ?_⟩
        rw [liveUp_succ, if_neg (by simp [isLive, es, e])]
        exact lk_ne e1 nU
      · cases Option.some.inj (z.symm.trans f2)
        refine iteT ?_
        repeat walk_at "rd"
        refine ⟨_, lk_ne e1 nU, small1000 (by rw [List.length_map]; omega), (k1.new nU).wr (.inl nZ), ?_⟩
        rw [upd_same, liveUp_succ, if_pos (by simp [isLive, es, e]), List.map_append]
        rfl
    rintro H1 ⟨k1, eZ⟩
    rw [hl] at eZ
    have nRZ : R ≠ Z := ne_of_none eR0 nZ
    have nGZ : G ≠ Z := ne_of_none eG0 nZ
    have nZ0 : H Z = none := k0.fresh (by simp) nZ
    have k01 := k0.trans k1
    have eR1 := k1 R _ (by simp) eR0
    have eG1 := k1 G _ (by simp) eG0
    have rt1 := rt0.keep k1
    have hp1 := hp0.keep k1 (by simp) (by simp) (Nat.le_refl _)
    have hpn : ∀ {q : Addr}, H q = none → q ≠ p := fun hq e => by
      obtain ⟨⟨o, ho⟩, _⟩ := hpen.some
      rw [e, ho] at hq
      cases hq
    have hcn : ∀ {q : Addr}, H q = none → q ≠ c := fun hq e => by
      obtain ⟨_, o, ho⟩ := hpen.some
      rw [e, ho] at hq
      cases hq
    have nRp := hpn nR
    have nGp := hpn nG0
    have nZp := hpn nZ0
    have nRc := hcn nR
    have nGc := hcn nG0
    clear hrt rt0 hp0 k0 k1
    repeat walk_at "rd"
    rename_i q4 nq4
    refine x_draw (hp1.keep ((Kx.refl [] H1).new nq4) (by simp) (by simp) (Nat.le_refl _)) (by omega) (by omega) (by omega) fun s3 H2 s3l s3h k2 P2 => ?_
    have k02 := ((k01.new nq4).mono (by simp)).trans k2
    have nq4p : q4 ≠ p := fun e => by
      obtain ⟨⟨o, ho⟩, _⟩ := hp1.some
      rw [← e, nq4] at ho
      cases ho
    have hq2 : H2 q4 = some (.lst [V.int 1, V.int 1, V.int 3, V.int 8]) := k2 q4 _ (by simpa using nq4p) upd_same
    have rt2 := (rt1.keep ((Kx.refl [] H1).new nq4)).kx k2 (pen_lst (hp1.keep ((Kx.refl [] H1).new nq4) (by simp) (by simp) (Nat.le_refl _)))
    have eR2 := k2 R _ (by simpa using nRp) (lk_ne eR1 nq4)
    have eG2 := k2 G _ (by simpa using nGp) (lk_ne eG1 nq4)
    have eZ2 := k2 Z _ (by simpa using nZp) (lk_ne eZ nq4)
    obtain ⟨cnt, hat, hc0, hc1⟩ : ∃ cnt, atI [V.int 1, V.int 1, V.int 3, V.int 8] s3 = some (.int cnt) ∧ 0 ≤ cnt ∧ cnt ≤ 8 := by
      obtain ⟨z, hz, _, hz2⟩ := at_ints (zs := [1, 1, 3, 8]) s3l (by simpa using s3h)
      refine ⟨z, hz2, ?_⟩
      simp only [List.mem_cons, List.not_mem_nil, or_false] at hz
      omega
    clear k2 rt1 hp1 eR1 eG1 eZ k01
    repeat walk_at "rd"
    have hlpos : 0 < (liveUp slots slots.length).length := by
      obtain ⟨_, _, hl0⟩ := live_lt hm0
      exact List.length_pos_of_mem (liveUp_mem.mpr ⟨m0, rfl, hl0, hm0⟩)
    have hlle := liveUp_len slots slots.length
    have hpick : ∀ {d : Int}, 0 ≤ d → d < (liveUp slots slots.length).length → ∃ m : Nat, atI ((liveUp slots slots.length).map V.int) d = some (.int (m : Int)) ∧ isLive slots m = true := by
      intro d h0 h1
      obtain ⟨z, hz, _, hz2⟩ := at_ints h0 h1
      obtain ⟨m, rfl, _, hm⟩ := liveUp_mem.mp hz
      exact ⟨m, hz2, hm⟩
    refine y_forR1 hc0 (by omega) ⟨fun i σ H3 => ∃ (slots' : List (Option Rw)) (outs' : List Int) (vs' : List V) (y5 y6 y7 : Option V), σ = [some (.ref p), some (.ref D), some (.ref R), some (.ref G), some (.ref Z), y5, y6, y7, none, none] ∧
      H3 R = some (.lst vs') ∧ RowsT K H3 vs' slots' ∧ H3 G = some (.lst (outs'.map V.int)) ∧ Wf slots' outs' ∧ (∀ m, isLive slots' m = isLive slots m) ∧ H3 Z = some (.lst ((liveUp slots slots.length).map V.int)) ∧ Kx [p] H H3 ∧ PenAt H3 p c (n + 1 + 3 * i),
      ⟨slots, outs, vs, none, none, none, rfl, eR2, rt2, eG2, wf, fun _ => rfl, eZ2, k02, P2.keep (Kx.refl [] _) (by simp) (by simp) (by omega)⟩, fun _ _ _ _ _ => trivial, ?_, ?_⟩
    · rintro i x σ H3 H3' hi ⟨slots', outs', vs', y5, y6, y7, rfl, eR3, rt3, eG3, wf3, lv3, eZ3, k3, P3⟩ ⟨rfl, rfl⟩
      have hi8 : i < 8 := by omega
      repeat walk_at "rd"
      refine x_draw P3 (by omega) (by rw [List.length_map]; omega) (by rw [List.length_map]; omega) fun d1 H4 d1l d1h k4 P4 => ?_
      rw [List.length_map] at d1h
      obtain ⟨m1, hat1, hm1⟩ := hpick d1l d1h
      have k04 := k3.trans k4
      have rt4 := rt3.kx k4 (pen_lst P3)
      have eR4 := k4 R _ (by simpa using nRp) eR3
      have eG4 := k4 G _ (by simpa using nGp) eG3
      have eZ4 := k4 Z _ (by simpa using nZp) eZ3
      clear k4 rt3 eR3 eG3 eZ3 k3 P3
      repeat walk_at "rd"
      refine x_draw P4 (by omega) (by rw [List.length_map]; omega) (by rw [List.length_map]; omega) fun d2 H5 d2l d2h k5 P5 => ?_
      rw [List.length_map] at d2h
      obtain ⟨m2, hat2, hm2⟩ := hpick d2l d2h
      have k05 := k04.trans k5
      have rt5 := rt4.kx k5 (pen_lst P4)
      have eR5 := k5 R _ (by simpa using nRp) eR4
      have eG5 := k5 G _ (by simpa using nGp) eG4
      have eZ5 := k5 Z _ (by simpa using nZp) eZ4
      clear k5 rt4 eR4 eG4 eZ4 k04 P4
      rw [← lv3] at hm1 hm2
      obtain ⟨row1, e1, hl1⟩ := live_lt hm1
      obtain ⟨row2, e2, hl2⟩ := live_lt hm2
      rcases rt5.at_ m1 _ e1 with ⟨e', _⟩ | ⟨r1, _, e', z1, t1⟩
      · cases e'
      cases Option.some.inj e'
      rcases rt5.at_ m2 _ e2 with ⟨e', _⟩ | ⟨r2, _, e', z2, t2⟩
      · cases e'
      cases Option.some.inj e'
      have a1 : atI vs' (m1 : Int) = some (.ref r1) := atI_nat z1
      have a2 : atI vs' (m2 : Int) = some (.ref r2) := atI_nat z2
      have g1 := wf3.row row1 (List.mem_of_getElem? e1)
      have g2 := wf3.row row2 (List.mem_of_getElem? e2)
      repeat walk_at "rd"
      have hsame : ∃ (slots' : List (Option Rw)) (outs' : List Int) (vs' : List V) (y5 y6 y7 : Option V), [some (V.ref p), some (V.ref D), some (V.ref R), some (V.ref G), some (V.ref Z), some (V.int (0 + (i : Int))), some (V.int (m1 : Int)), some (V.int (m2 : Int)), none, none] = [some (.ref p), some (.ref D), some (.ref R), some (.ref G), some (.ref Z), y5, y6, y7, none, none] ∧
          H5 R = some (.lst vs') ∧ RowsT K H5 vs' slots' ∧ H5 G = some (.lst (outs'.map V.int)) ∧ Wf slots' outs' ∧ (∀ m, isLive slots' m = isLive slots m) ∧ H5 Z = some (.lst ((liveUp slots slots.length).map V.int)) ∧ Kx [p] H H5 ∧ PenAt H5 p c (n + 1 + 3 * (i + 1)) :=
        ⟨slots', outs', vs', _, _, _, rfl, eR5, rt5, eG5, wf3, lv3, eZ5, k05, P5.keep (Kx.refl [] _) (by simp) (by simp) (by omega)⟩
      by_cases hc1 : ((rowV row1).length : Int) < 40 - if decide (V.int (m1 : Int) = V.int (m2 : Int)) = true then 1 else 0
      · refine iteP (decide_eq_true hc1) ?_
        repeat walk_at "rd"
        by_cases hc2 : ((rowV row2).length : Int) < 40
        · refine iteP (decide_eq_true hc2) ?_
          clear hsame
          repeat walk_at "rd"
          rename_i t nt
          rw [rowV_len] at hc1 hc2
          have b1 : row1.length < 40 := by split at hc1 <;> omega
          have kt := (Kx.refl [] H5).new (o := .tup [V.int (m2 : Int)]) nt
          refine x_cat (kt.sqT (by simp) t1) (SqT.of upd_same) (Nat.le_of_lt (small1000 (by rw [rowV_len]; show row1.length + 1 ≤ 1000; omega))) fun q H6 hq k6 => ?_
          replace k6 := kt.trans k6
          have hq6 : SqT K H6 q (rowV (row1 ++ [some m2])) := by rw [rowV_app]; exact hq
          have rt6 := (rt5.keep k6).set hq6 hl1
          have eR6 := k6 R _ (by simp) eR5
          have eG6 := k6 G _ (by simp) eG5
          have eZ6 := k6 Z _ (by simp) eZ5
          have P6 := P5.keep k6 (by simp) (by simp) (Nat.le_refl _)
          have k06 := k05.trans (k6.mono (by simp))
          have hix1 : ixN vs'.length (m1 : Int) = some m1 := ix_nat (by rw [rt5.len]; exact hl1)
          have wf6 := wf3.put e1 (row' := row1 ++ [some m2]) (by rw [List.length_append]; show row1.length + 1 ≤ 40; omega) (fun k hk => by
            rcases List.mem_append.mp hk with h | h
            · exact .inl h
            · cases Option.some.inj (List.mem_singleton.mp h)
              exact .inr ⟨row2, e2⟩)
          have lv6 : ∀ m, isLive (slots'.set m1 (some (row1 ++ [some m2]))) m = isLive slots m := fun m => (live_set e1 m).trans (lv3 m)
          obtain ⟨row3, e3, hl3⟩ := live_lt (m := m2) (by rw [lv6, ← lv3]; exact hm2)
          have b3 : row3.length < 40 := by
            by_cases e : m1 = m2
            · subst e
              rw [List.getElem?_set_self hl1] at e3
              cases Option.some.inj (Option.some.inj e3)
              rw [if_pos (by simp)] at hc1
              rw [List.length_append]
              show row1.length + 1 < 40
              omega
            · rw [List.getElem?_set_ne e, e2] at e3
              cases Option.some.inj (Option.some.inj e3)
              omega
          have hl13 : m1 < (slots'.set m1 (some (row1 ++ [some m2]))).length := by rw [List.length_set]; exact hl1
          have hl23 : m2 < (slots'.set m1 (some (row1 ++ [some m2]))).length := by rw [List.length_set]; exact hl2
          have e13 : ∃ r, (slots'.set m1 (some (row1 ++ [some m2])))[m1]? = some (some r) := ⟨_, List.getElem?_set_self hl1⟩
          clear hq kt t1 t2 rt5 eR5 eG5 eZ5 P5 k05 k6 a1 a2 hc1 hc2
          repeat walk_at "rd"
          rename_i t' nt'
          have rt7 := rt6.wr (o := .lst (vs'.set m1 (.ref q))) eR6
          have eR7 : upd H6 R (.lst (vs'.set m1 (.ref q))) R = _ := upd_same
          have eG7 := lk_ne2 (o := .lst (vs'.set m1 (.ref q))) nRG.symm eG6
          have eZ7 := lk_ne2 (o := .lst (vs'.set m1 (.ref q))) nRZ.symm eZ6
          have P7 := P6.up (upd_ne (o := .lst (vs'.set m1 (.ref q))) nRp.symm) (upd_ne nRc.symm) (Nat.le_refl _)
          have k07 := k06.wr (p := R) (o := .lst (vs'.set m1 (.ref q))) (.inl nR)
          generalize upd H6 R (.lst (vs'.set m1 (.ref q))) = H7 at *
          clear rt6 eR6 eG6 eZ6 P6 k06 hq6
          generalize hS1 : slots'.set m1 (some (row1 ++ [some m2])) = S1 at *
          generalize hvs1 : vs'.set m1 (.ref q) = vs1 at *
          rcases rt7.at_ m2 _ e3 with ⟨e', _⟩ | ⟨r3, _, e', z3, t3⟩
          · cases e'
          cases Option.some.inj e'
          have a3 : atI vs1 (m2 : Int) = some (.ref r3) := atI_nat z3
          have hix2 : ixN vs1.length (m2 : Int) = some m2 := ix_nat (by rw [rt7.len]; exact hl23)
          repeat walk_at "rd"
          have kt := (Kx.refl [] H7).new (o := .tup [V.int (m1 : Int)]) nt'
          refine x_cat (SqT.of upd_same) (kt.sqT (by simp) t3) (Nat.le_of_lt (small1000 (by rw [rowV_len]; show 1 + row3.length ≤ 1000; omega))) fun q2 H8 hq k8 => ?_
          replace k8 := kt.trans k8
          have hq8 : SqT K H8 q2 (rowV (some m1 :: row3)) := hq
          have rt8 := (rt7.keep k8).set hq8 hl23
          have eR8 := k8 R _ (by simp) eR7
          have eG8 := k8 G _ (by simp) eG7
          have eZ8 := k8 Z _ (by simp) eZ7
          have P8 := P7.keep k8 (by simp) (by simp) (Nat.le_refl _)
          have k08 := k07.trans (k8.mono (by simp))
          have wf8 := wf6.put e3 (row' := some m1 :: row3) (by show row3.length + 1 ≤ 40; omega) (fun k hk => by
            rcases List.mem_cons.mp hk with h | h
            · cases Option.some.inj h
              exact .inr e13
            · exact .inl h)
          have lv8 : ∀ m, isLive (S1.set m2 (some (some m1 :: row3))) m = isLive slots m := fun m => (live_set e3 m).trans (lv6 m)
          have hlo1 : m1 < outs'.length := by rw [wf3.len]; exact hl1
          have hlo2 : m2 < outs'.length := by rw [wf3.len]; exact hl2
          clear hq kt t3 rt7 eR7 eG7 eZ7 P7 k07 k8 a3 hq8
          repeat walk_at "rd"
          have rt9 := rt8.wr (o := .lst (vs1.set m2 (.ref q2))) eR8
          have eR9 : upd H8 R (.lst (vs1.set m2 (.ref q2))) R = _ := upd_same
          have eG9 := lk_ne2 (o := .lst (vs1.set m2 (.ref q2))) nRG.symm eG8
          have eZ9 := lk_ne2 (o := .lst (vs1.set m2 (.ref q2))) nRZ.symm eZ8
          have P9 := P8.up (upd_ne (o := .lst (vs1.set m2 (.ref q2))) nRp.symm) (upd_ne nRc.symm) (Nat.le_refl _)
          have k09 := k08.wr (p := R) (o := .lst (vs1.set m2 (.ref q2))) (.inl nR)
          generalize upd H8 R (.lst (vs1.set m2 (.ref q2))) = H9 at *
          clear rt8 eR8 eG8 eZ8 P8 k08
          generalize hS2 : S1.set m2 (some (some m1 :: row3)) = S2 at *
          generalize hvs2 : vs1.set m2 (.ref q2) = vs2 at *
          refine x_draw P9 (by omega) (by omega) (by omega) fun d3 HA d3l d3h kA PA => ?_
          have k0A := k09.trans kA
          have rtA := rt9.kx kA (pen_lst P9)
          have eRA := kA R _ (by simpa using nRp) eR9
          have eGA := kA G _ (by simpa using nGp) eG9
          have eZA := kA Z _ (by simpa using nZp) eZ9
          clear kA rt9 eR9 eG9 eZ9 k09 P9
          have hj1 : ixN (outs'.map V.int).length (m1 : Int) = some m1 := ix_nat (by rw [List.length_map]; exact hlo1)
          have hj2 : ixN ((outs'.map V.int).set m1 (.int 0)).length (m2 : Int) = some m2 := ix_nat (by rw [List.length_set, List.length_map]; exact hlo2)
          repeat walk_at "rd"
          by_cases hd : 0 < d3
          · refine iteP (decide_eq_true hd) ?_
            repeat walk_at "rd"
            refine ⟨S2, (outs'.set m1 0).set m2 0, vs2, _, _, _, rfl, lk_ne2 nRG (lk_ne2 nRG eRA), (rtA.wr eGA).wr upd_same, by rw [upd_same, List.map_set, List.map_set], (wf8.zero m1).zero m2, lv8, lk_ne2 nGZ.symm (lk_ne2 nGZ.symm eZA), (k0A.wr (.inl nG0)).wr (.inl nG0), ?_⟩
            exact (PA.up (upd_ne nGp.symm) (upd_ne nGc.symm) (Nat.le_refl _)).up (upd_ne nGp.symm) (upd_ne nGc.symm) (by omega)
          · refine iteN (decide_eq_false hd) ?_
            repeat walk_at "rd"
            exact ⟨S2, outs', vs2, _, _, _, rfl, eRA, rtA, eGA, wf8, lv8, eZA, k0A, PA.keep (Kx.refl [] _) (by simp) (by simp) (by omega)⟩
        · refine iteN (decide_eq_false hc2) ?_
          repeat walk_at "rd"
          exact hsame
      · refine iteN (decide_eq_false hc1) ?_
        refine iteF ?_
        repeat walk_at "rd"
        exact hsame
    · rintro σ H3 ⟨slots', outs', vs', y5, y6, y7, rfl, eR3, rt3, eG3, wf3, lv3, eZ3, k3, P3⟩
      repeat walk_at "rd"
      intro S' nS
      repeat walk_at "rd"
      intro O' nO
      repeat walk_at "rd"
      rename_i D' nD
      have kf : Kx [] H3 (upd (upd (upd H3 S' (.tup vs')) O' (.tup (outs'.map V.int))) D' (.tup [.ref S', .ref O'])) := (((Kx.refl [] H3).new nS).new nO).new nD
      have rtf := rt3.keep kf
      exact k D' slots' outs' _ ⟨S', O', vs', SqT.of upd_same, SqT.of (by walk_at "lk"), SqT.of (by walk_at "lk"), rtf.len, rtf.at_⟩ wf3 lv3 (k3.trans (kf.mono (by simp))) (P3.keep kf (by simp) (by simp) (by omega))
def spFilled (K : PySem.W.Frag) : Sp := fun vs H Q _ => ∃ (D : Addr) (slots : List (Option Rw)) (outs : List Int) (node j : Nat) (row : Rw) (tgt : Option Nat) (lim : Int) (hj : j < row.length), vs = [.ref D, .int node, .int j, slotV tgt, .int lim] ∧ HeapT K H D slots outs ∧ (∃ b, WfB b slots outs) ∧ slots[node]? = some (some row) ∧ (∀ t, tgt = some t → isLive slots t = true) ∧ 0 < lim ∧
  ∀ B L X k s' H', Kx [] H H' → SqT K H' B [.ref L, .int k, .ref X] → SqT K H' L (s'.log.map fun n : Nat => V.int n) → (match row[j] with | none => s' = ⟨[], [], []⟩ | some q => Steps (putS slots node j tgt) outs lim ⟨[⟨none, none, q, 0⟩], [], []⟩ s') → s'.pend = [] → s'.shelf = [] → Wk (putS slots node j tgt) outs s' → IsPeak (sizesOf s'.evs) k → HeapT K H' X (afterS (putS slots node j tgt) s'.log) outs → Q (.ref B) H'
theorem ok_filled {f : Addr} {fd : FuncData} (F : Fun K "_law_filled" "_law_filled" sQFilled f fd) (T : Txt mg) (l_law_dropped : Lo P w K mg base "_law_dropped" 3 ["_law_base_here", "_law_spot", "_law_bound_here"] (spDropped K)) :
    FnOk P w K mg base CX0 4 f fd ["_law_base_here", "_law_spot", "_law_place", "_law_goal", "_law_bound_here"] (spFilled K) := by
  refine F.ok scQFilled (fun vs H Q E h => ?_) (fun cdv A outer s H vs Q E hr h => ?_)
  · obtain ⟨D, slots, outs, node, j, row, tgt, lim, hj, rfl, _⟩ := h
    rfl
  · obtain ⟨D, slots, outs, node, j, row, tgt, lim, hj, rfl, hT, ⟨b0, wf⟩, er, ht, hlim, k⟩ := h
    obtain ⟨S, O, vs, hD, hS, hO, hvl, hv⟩ := id hT.ex
    have h40 := wf.row row (List.mem_of_getElem? er)
    have hlt := (List.getElem?_eq_some_iff.mp er).1
    have wfP := wf_put wf (j := j) er hj ht
    rcases hv node _ er with ⟨e', _⟩ | ⟨r, row', e', zr, hR⟩
    · cases e'
    cases Option.some.inj e'
    have hatS : atI vs (node : Int) = some (V.ref r) := atI_nat zr
    have hrl : (rowV row).length = row.length := rowV_len row
    have hatr : atI (rowV row) (j : Int) = some (slotV row[j]) := atI_nat (by unfold rowV; rw [List.getElem?_map, List.getElem?_eq_getElem hj]; rfl)
    refine ⟨_, (pss_cons (ps_par (i := 5) (j := 6) rfl scQFilled.nd rfl rfl (by decide) rfl rfl (pa_cons (pe_callTy call_list_of (by rfl) T.b_list boot'_list (pa_cons (pe_ix ix_tup (pv 0) pe_int (fun _ _ => rfl)) pa_nil)) (pa_cons (pe_callTy call_list_of (by rfl) T.b_list boot'_list (pa_cons (pe_ix ix_tup (pv 0) pe_int (fun _ _ => rfl)) pa_nil)) pa_nil)) (by rfl))
      (pss_cons (ps_set (i := 7) scQFilled.nd rfl (Or.inl rfl) (pe_ix ix_tup (pe_ix ix_list (pv 5) (pv 1) (fun _ _ => rfl)) (pv 2) (fun _ _ => rfl)))
      (pss_cons (ps_asg (pe_op op_catA (pe_op op_catA (pe_slice sl_tupA (pe_ix ix_list (pv 5) (pv 1) (fun _ _ => rfl)) po_none (po_some (pv 2))) (pe_tup (pa_cons (pv 3) pa_nil))) (pe_slice sl_tupA (pe_ix ix_list (pv 5) (pv 1) (fun _ _ => rfl)) (po_some (pe_op op_add (pv 2) pe_int)) po_none)) (pg_sub (pv 5) (pv 1) set_list))
      (pss_cons (ps_if (pt_cmpR op_isN1 (pv 7) pe_non (nomark _)) (pss_one (ps_ret (pe_tup (pa_cons (pe_tup pa_nil) (pa_cons pe_int (pa_cons (pe_tup (pa_cons (pe_callTy call_tuple_of (by rfl) T.b_tuple boot'_tuple (pa_cons (pv 5) pa_nil)) (pa_cons (pe_callTy call_tuple_of (by rfl) T.b_tuple boot'_tuple (pa_cons (pv 6) pa_nil)) pa_nil))) pa_nil)))))) pss_nil)
      (pss_cons (ps_asg (pe_op op_add (pe_ix ix_list (pv 6) (pv 7) (fun _ _ => rfl)) pe_int) (pg_sub (pv 6) (pv 7) set_list))
      (pss_one (ps_ret (pe_lo l_law_dropped (hr.mono (by decide)) (by rfl) (pa_cons (pe_tup (pa_cons (pe_callTy call_tuple_of (by rfl) T.b_tuple boot'_tuple (pa_cons (pv 5) pa_nil)) (pa_cons (pe_callTy call_tuple_of (by rfl) T.b_tuple boot'_tuple (pa_cons (pv 6) pa_nil)) pa_nil))) (pa_cons (pv 7) (pa_cons (pv 4) pa_nil))))))))))), ?_⟩
    refine x_start (σ' := [some (.ref D), some (.int node), some (.int j), some (slotV tgt), some (.int lim), none, none, none]) rfl ?_
    try dsimp only [cxOf]
    repeat walk_at "rd"
    intro R nR
    have kR : Kx [] H (upd H R (.lst vs)) := (Kx.refl [] H).new nR
    have hO1 := kR.sqT (by simp) hO
    have hD1 := kR.sqT (by simp) hD
    repeat walk_at "rd"
    intro G nG
    have nRG : R ≠ G := ne_of_none upd_same nG
    have nG0 : H G = none := kR.fresh (by simp) nG
    repeat walk_at "rd"
    have k0 : Kx [] H (upd (upd H R (.lst vs)) G (.lst (outs.map V.int))) := kR.new nG
    have eR0 : upd (upd H R (.lst vs)) G (.lst (outs.map V.int)) R = some (.lst vs) := lk_ne2 nRG upd_same
    have eG0 : upd (upd H R (.lst vs)) G (.lst (outs.map V.int)) G = some (.lst (outs.map V.int)) := upd_same
    generalize upd (upd H R (.lst vs)) G (.lst (outs.map V.int)) = HG at *
    have hR0 := k0.sqT (by simp) hR
    repeat walk_at "rd"
    refine x_slTo hR0 fun a1 H1 ha1 k1 => ?_
    have eR1 := k1 _ _ (by simp) eR0
    have eG1 := k1 _ _ (by simp) eG0
    have hR1 := k1.sqT (by simp) hR0
    repeat walk_at "rd"
    rename_i g ng
    have kg : Kx [] H1 (upd H1 g (.tup [slotV tgt])) := (Kx.refl _ _).new ng
    refine x_cat (kg.sqT (by simp) ha1) (SqT.of upd_same) (Nat.le_of_lt (big_line (by rw [List.length_take, hrl]; show min j row.length + 1 ≤ 1000000; omega))) fun b1 H2 hb1 k2 => ?_
    have k12 := kg.trans k2
    have eR2 := k12 _ _ (by simp) eR1
    have eG2 := k12 _ _ (by simp) eG1
    have hR2 := k12.sqT (by simp) hR1
    repeat walk_at "rd"
    refine x_slFrom (k := j + 1) hR2 fun a3 H3 ha3 k3 => ?_
    repeat walk_at "rd"
    refine x_cat (k3.sqT (by simp) hb1) ha3 (Nat.le_of_lt (big_line (by rw [List.length_append, List.length_take, List.length_drop, hrl]; show min j row.length + 1 + (row.length - (j + 1)) ≤ 1000000; omega))) fun b4 H4 hb4 k4 => ?_
    rw [set_cut hj] at hb4
    have k34 := k3.trans k4
    have eR4 := k34 _ _ (by simp) eR2
    have eG4 := k34 _ _ (by simp) eG2
    have k04 : Kx [] H H4 := ((k0.trans k1).trans k12).trans k34
    have ixS : ixN vs.length (node : Int) = some node := ix_nat (by omega)
    have rt : RowsT K H4 vs slots := RowsT.keep ⟨hvl, hv⟩ k04
    have rt2 : RowsT K H4 (vs.set node (.ref b4)) (putS slots node j tgt) := by
      unfold putS
      rw [rowOf_some er]
      exact rt.set hb4 hlt
    repeat walk_at "rd"
    have fin0 : ∀ {H' : Hp} {L X B S' O' : Addr}, row[j] = none → Kx [] H H' → SqT K H' L [] → SqT K H' S' (vs.set node (.ref b4)) → SqT K H' O' (outs.map V.int) → SqT K H' X [.ref S', .ref O'] → SqT K H' B [.ref L, .int 0, .ref X] → RowsT K H' (vs.set node (.ref b4)) (putS slots node j tgt) → Q (.ref B) H' := by
      intro H' L X B S' O' hc kx hL hS' hO' hX hB rt'
      refine k B L X 0 ⟨[], [], []⟩ H' kx hB hL (by rw [hc]) rfl rfl (wk_zero wfP) (.inl ⟨rfl, rfl⟩) ?_
      show HeapT K H' X (afterS _ []) outs
      rw [afterS_nil]
      exact ⟨S', O', _, hX, hS', hO', rt'.len, rt'.at_⟩
    have nR0 : H R = none := nR
    have kR4 : Kx [] H (upd H4 R (.lst (vs.set node (.ref b4)))) := k04.wr (.inl nR0)
    have eRf : upd H4 R (.lst (vs.set node (.ref b4))) R = some (.lst (vs.set node (.ref b4))) := upd_same
    have eGf : upd H4 R (.lst (vs.set node (.ref b4))) G = some (.lst (outs.map V.int)) := lk_ne2 nRG.symm eG4
    have rtf := rt2.wr (o := .lst (vs.set node (.ref b4))) eR4
    generalize upd H4 R (.lst (vs.set node (.ref b4))) = H5 at *
    cases hc : row[j] with
    | none =>
      refine iteT ?_
      repeat walk_at "rd"
      rename_i L nL
      intro S' nS
      repeat walk_at "rd"
      intro O' nO
      repeat walk_at "rd"
      rename_i X nX B nB
      have kf : Kx [] H5 (upd (upd (upd (upd (upd H5 L (.tup [])) S' (.tup (vs.set node (.ref b4)))) O' (.tup (outs.map V.int))) X (.tup [.ref S', .ref O'])) B (.tup [.ref L, .int 0, .ref X])) := (((((Kx.refl [] H5).new nL).new nS).new nO).new nX).new nB
      exact fin0 hc (kR4.trans kf) (SqT.of (by walk_at "lk")) (SqT.of (by walk_at "lk")) (SqT.of (by walk_at "lk")) (SqT.of (by walk_at "lk")) (SqT.of upd_same) (rtf.keep kf)
    | some q =>
      obtain ⟨rq, erq⟩ := wf.live row (List.mem_of_getElem? er) q (by rw [← hc]; exact List.getElem_mem hj)
      have hqlt : q < outs.length := by rw [wf.len]; exact (List.getElem?_eq_some_iff.mp erq).1
      have hqz : outs[q]? = some outs[q] := List.getElem?_eq_getElem hqlt
      have hlq : isLive (putS slots node j tgt) q = true := by
        rw [putS_live er]
        simp [isLive, erq]
      have atO : atI (outs.map V.int) (q : Int) = some (.int outs[q]) := atI_nat (by rw [List.getElem?_map, hqz]; rfl)
      have ixO : ixN (outs.map V.int).length (q : Int) = some q := ix_nat (by rw [List.length_map]; exact hqlt)
      have bE : bump outs (some q) = outs.set q (outs[q] + 1) := by
        show outs.set q ((outs[q]?).getD 0 + 1) = _
        rw [hqz]
        rfl
      have hbk : (bump outs (some q))[q]? = some (outs[q] + 1) := by rw [bE, List.getElem?_set_self hqlt]
      have hz0 : 0 ≤ outs[q] := (wf.outs _ (List.getElem_mem hqlt)).1
      have hback : (bump outs (some q)).set q (outs[q] + 1 - 1) = outs := by
        rw [bE, List.set_set]
        refine List.ext_getElem? fun i => ?_
        by_cases e : q = i
        · subst e
          rw [List.getElem?_set_self hqlt, hqz]
          congr 1
          omega
        · rw [List.getElem?_set_ne e]
      have hEx : (outs.map V.int).set q (V.int (outs[q] + 1)) = (bump outs (some q)).map V.int := by rw [bE, List.map_set]
      rw [show slotV (some q) = V.int (q : Int) from rfl]
      refine iteF ?_
      repeat walk_at "rd"
      rw [hEx]
      have k6 : Kx [] H (upd H5 G (.lst ((bump outs (some q)).map V.int))) := kR4.wr (.inl nG0)
      have eR6 : upd H5 G (.lst ((bump outs (some q)).map V.int)) R = some (.lst (vs.set node (.ref b4))) := lk_ne2 nRG eRf
      have eG6 : upd H5 G (.lst ((bump outs (some q)).map V.int)) G = some (.lst ((bump outs (some q)).map V.int)) := upd_same
      have rt6 := rtf.wr (o := .lst ((bump outs (some q)).map V.int)) eGf
      generalize upd H5 G (.lst ((bump outs (some q)).map V.int)) = H6 at *
      repeat walk_at "rd"
      intro S' nS
      repeat walk_at "rd"
      intro O' nO
      repeat walk_at "rd"
      rename_i X nX
      have kf : Kx [] H6 (upd (upd (upd H6 S' (.tup (vs.set node (.ref b4)))) O' (.tup ((bump outs (some q)).map V.int))) X (.tup [.ref S', .ref O'])) := (((Kx.refl [] H6).new nS).new nO).new nX
      have rtX := rt6.keep kf
      refine ⟨X, putS slots node j tgt, bump outs (some q), q, outs[q] + 1, lim, rfl, ⟨S', O', _, SqT.of upd_same, SqT.of (by walk_at "lk"), SqT.of (by walk_at "lk"), rtX.len, rtX.at_⟩, ⟨_, wf_bump wfP hlq⟩, hlq, hbk, by omega, hlim, fun B L X2 pk s' H7 k7 hB hL hs hp he wk hpk hX => ?_⟩
      rw [hback] at hs wk hX
      exact k B L X2 pk s' H7 ((k6.trans kf).trans k7) hB hL (by rw [hc]; exact hs) hp he wk hpk hX
end

section
variable {slots : List (Option Rw)} {outs : List Int} {lim : Int}
theorem step_sizes {s s' : FS} (wk : Wk slots outs s) (e : stepF slots outs lim s = some s') (h : ∀ b ∈ sizesOf s.evs, b ≤ 40) : ∀ b ∈ sizesOf s'.evs, b ≤ 40 := by
  have wk' := wk.step e
  have hs := wk'.shelf
  have hm := wk'.most
  unfold stepF at e
  cases hp : s.pend with
  | nil =>
    rw [hp] at e
    simp only at e
    cases hsh : s.shelf.getLast? with
    | none => rw [hsh] at e; cases e
    | some n =>
      rw [hsh] at e
      cases Option.some.inj e
      intro b hb
      rw [sizes_app] at hb
      exact h b (by simpa [sizesOf, Ev.size] using hb)
  | cons p rest =>
    rw [hp] at e
    simp only at e
    by_cases h0 : 0 < tal slots outs s.log rest p.node
    · rw [if_pos h0] at e
      cases Option.some.inj e
      intro b hb
      rw [sizes_app] at hb
      exact h b (by simpa [sizesOf, Ev.size] using hb)
    · rw [if_neg h0] at e
      by_cases hd : (p.depth : Int) < lim
      · rw [if_pos hd] at e
        cases Option.some.inj e
        intro b hb
        rw [sizes_app] at hb
        exact h b (by simpa [sizesOf, Ev.size] using hb)
      · rw [if_neg hd] at e
        cases Option.some.inj e
        intro b hb
        have hs2 : s.shelf.length + 1 ≤ slots.length := by
          have : (s.shelf ++ [p.node]).length ≤ slots.length := hs
          rwa [List.length_append] at this
        rw [sizes_app] at hb
        rcases List.mem_append.mp hb with hb | hb
        · exact h b hb
        · have : ((s.shelf.length : Int) + 1) = b := by simpa [sizesOf, Ev.size] using hb
          omega
theorem run_sizes {s : FS} (wk : Wk slots outs s) (h : ∀ b ∈ sizesOf s.evs, b ≤ 40) : ∀ (n : Nat) (s' : FS), run slots outs lim n s = some s' → Wk slots outs s' ∧ ∀ b ∈ sizesOf s'.evs, b ≤ 40
  | 0, s', e => by cases Option.some.inj (e : some s = some s'); exact ⟨wk, h⟩
  | n + 1, s', e => by
    have e : (run slots outs lim n s).bind (stepF slots outs lim) = some s' := e
    cases er : run slots outs lim n s with
    | none => rw [er] at e; cases e
    | some v =>
      rw [er] at e
      obtain ⟨w1, w2⟩ := run_sizes wk h n v er
      exact ⟨w1.step e, step_sizes w1 e w2⟩
theorem peak_le {s s' : FS} (wk : Wk slots outs s) (h : ∀ b ∈ sizesOf s.evs, b ≤ 40) (hs : Steps slots outs lim s s') {k : Int} (hk : IsPeak (sizesOf s'.evs) k) : 0 ≤ k ∧ k ≤ 40 := by
  obtain ⟨n, hn⟩ := hs
  have := (run_sizes wk h n s' hn).2
  rcases hk with ⟨_, rfl⟩ | ⟨h1, _⟩
  · omega
  · exact ⟨sizes_nn _ k h1, this k h1⟩
theorem good_heapB (h40 : slots.length ≤ 40) (ho : outs.length ≤ 40) (hz : ∀ z ∈ outs, z.natAbs < 10 ^ 9) (hr : ∀ row, some row ∈ slots → row.length ≤ 40 ∧ ∀ k, some k ∈ row → k < 40) : Good (heapD slots outs) 3 (2 * (40 * (40 * 32 + 1) + 1)) := by
  have hrow : ∀ row, some row ∈ slots → Good (rowD (some row)) 1 (40 * 32) := by
    intro row hrw
    refine Good.tuple (n := 40) ?_ (by rw [List.length_map]; exact (hr row hrw).1)
    intro d hd
    obtain ⟨s, hs, rfl⟩ := List.mem_map.mp hd
    cases s with
    | none => exact Good.none.mono (Nat.le_refl _) (by decide)
    | some k =>
      have hk := (hr row hrw).2 k hs
      exact Good.int (by show ((k : Int)).natAbs < _; omega)
  refine Good.tuple (n := 2) (k := 2) (w := 40 * (40 * 32 + 1)) ?_ (by simp)
  intro d hd
  simp only [List.mem_cons, List.not_mem_nil, or_false] at hd
  rcases hd with rfl | rfl
  · refine Good.tuple ?_ (by rw [List.length_map]; exact h40)
    intro d hd
    obtain ⟨o, ho, rfl⟩ := List.mem_map.mp hd
    cases o with
    | none => exact Good.none.mono (by decide) (by decide)
    | some row => exact hrow row ho
  · refine (Good.tuple (k := 0) (w := 31) (n := 40) ?_ (by rw [List.length_map]; exact ho)).mono (by decide) (by decide)
    intro d hd
    obtain ⟨z, hz', rfl⟩ := List.mem_map.mp hd
    exact Good.int (hz z hz')
/-- what a drop returns, as data -/
def resD (slots : List (Option Rw)) (outs : List Int) (log : List Nat) (k : Int) : PyData := .tuple [.tuple ((log.map fun n : Nat => (n : Int)).map PyData.int), .int k, heapD (afterS slots log) outs]
theorem dp_res {K : PySem.W.Frag} {H : Hp} {B L X : Addr} {log : List Nat} {k : Int} (hB : SqT K H B [.ref L, .int k, .ref X]) (hL : SqT K H L (log.map fun n : Nat => V.int n)) (hX : HeapT K H X (afterS slots log) outs) : Dp K H (.ref B) (resD slots outs log k) := by
  rw [nat_ints] at hL
  exact .tup hB (.cons (.tup hL (dp_intsT _)) (.cons (.int k) (.cons hX.dp .nil)))
theorem good_res0 {b : Int} (wf : WfB b slots outs) (hb9 : b ≤ 10) {lg : List Nat} (hll : lg.length ≤ 40) (hlm : ∀ n ∈ lg, n < 40) {k : Int} (hk : 0 ≤ k ∧ k ≤ 40) : Good (resD slots outs lg k) 4 (3 * (2 * (40 * (40 * 32 + 1) + 1) + 1)) := by
  have h40 := wf.most
  refine Good.tuple (n := 3) (k := 3) (w := 2 * (40 * (40 * 32 + 1) + 1)) ?_ (by simp)
  intro d hd
  simp only [List.mem_cons, List.not_mem_nil, or_false] at hd
  rcases hd with rfl | rfl | rfl
  · refine (Good.tuple (k := 0) (w := 31) (n := 40) ?_ (by rw [List.length_map, List.length_map]; exact hll)).mono (by decide) (by decide)
    intro d hd
    obtain ⟨i, hi, rfl⟩ := List.mem_map.mp hd
    obtain ⟨m, hm, rfl⟩ := List.mem_map.mp hi
    have hlt := hlm m hm
    exact Good.int (by omega)
  · exact (Good.int (by omega)).mono (by decide) (by decide)
  · refine good_heapB (by rw [afterS_len]; exact h40) (by rw [wf.len]; exact h40) (fun y hy => by have := wf.outs y hy; omega) fun row hrow => ?_
    have hin : some row ∈ slots := by
      unfold afterS at hrow
      obtain ⟨i, hi, e⟩ := List.mem_map.mp hrow
      have hi2 := List.mem_range.mp hi
      by_cases hl : i ∈ lg
      · rw [if_pos hl] at e
        cases e
      · rw [if_neg hl, List.getElem?_eq_getElem hi2] at e
        rw [← e]
        exact List.getElem_mem hi2
    refine ⟨wf.row row hin, fun k hk => ?_⟩
    obtain ⟨r, e⟩ := wf.live row hin k hk
    have := (List.getElem?_eq_some_iff.mp e).1
    omega
theorem IsPeak.app {a b : List Int} {x y : Int} (h : IsPeak a x) (g : IsPeak b y) (ha : ∀ z ∈ a, 0 ≤ z) (hb : ∀ z ∈ b, 0 ≤ z) : IsPeak (a ++ b) (if y > x then y else x) := by
  rcases h with ⟨rfl, rfl⟩ | ⟨h1, h2⟩
  · rw [List.nil_append]
    rcases g with ⟨rfl, rfl⟩ | ⟨g1, g2⟩
    · exact .inl ⟨rfl, rfl⟩
    · have := hb y g1
      by_cases e : y > 0
      · rw [if_pos e]
        exact .inr ⟨g1, g2⟩
      · rw [if_neg e]
        have : y = 0 := by omega
        subst this
        exact .inr ⟨g1, g2⟩
  · have hx := ha x h1
    rcases g with ⟨rfl, rfl⟩ | ⟨g1, g2⟩
    · rw [if_neg (by omega), List.append_nil]
      exact .inr ⟨h1, h2⟩
    · by_cases e : y > x
      · rw [if_pos e]
        refine .inr ⟨List.mem_append_right _ g1, fun z hz => ?_⟩
        rcases List.mem_append.mp hz with hz | hz
        · have := h2 z hz; omega
        · exact g2 z hz
      · rw [if_neg e]
        refine .inr ⟨List.mem_append_left _ h1, fun z hz => ?_⟩
        rcases List.mem_append.mp hz with hz | hz
        · exact h2 z hz
        · have := g2 z hz; omega
theorem afterS_afterS (slots : List (Option Rw)) (a b : List Nat) : afterS (afterS slots a) b = afterS slots (a ++ b) := by
  unfold afterS
  rw [List.length_map, List.length_range]
  refine List.map_congr_left fun i hi => ?_
  rw [List.getElem?_map, List.getElem?_range (List.mem_range.mp hi)]
  simp only [Option.map_some, Option.getD_some, List.mem_append]
  by_cases h1 : i ∈ a
  · simp [h1]
  · by_cases h2 : i ∈ b
    · simp [h2]
    · simp [h1, h2]
theorem after_at {L : List Nat} {n : Nat} {r : Rw} (h : slots[n]? = some (some r)) (hn : n ∉ L) : (afterS slots L)[n]? = some (some r) := by
  unfold afterS
  rw [List.getElem?_map, List.getElem?_range (List.getElem?_eq_some_iff.mp h).1]
  simp only [Option.map_some]
  rw [if_neg hn, h]
  rfl
theorem putS_after {L : List Nat} {node i : Nat} {row : Rw} (er : slots[node]? = some (some row)) (hi : i < row.length) (hn : node ∉ L) : putS (afterS (slotN slots node row i) L) node i none = afterS (slotN slots node row (i + 1)) L := by
  have h1 := after_at (L := L) (slotN_at er i) hn
  have hlt := (List.getElem?_eq_some_iff.mp er).1
  unfold putS
  rw [rowOf_some h1, rowN_set hi]
  refine List.ext_getElem? fun m => ?_
  by_cases e : node = m
  · subst e
    rw [List.getElem?_set_self (by rw [afterS_len, slotN_len]; exact hlt), after_at (slotN_at er (i + 1)) hn]
  · rw [List.getElem?_set_ne e]
    unfold afterS
    rw [slotN_len, slotN_len, List.getElem?_map, List.getElem?_map]
    by_cases hm : m < slots.length
    · rw [List.getElem?_range hm]
      simp only [Option.map_some]
      unfold slotN
      rw [List.getElem?_set_ne e, List.getElem?_set_ne e]
    · rw [List.getElem?_eq_none (by rw [List.length_range]; omega)]
      rfl
theorem log_of (a b : List Ev) : FS.log ⟨[], [], a ++ b⟩ = FS.log ⟨[], [], a⟩ ++ FS.log ⟨[], [], b⟩ := List.filterMap_append
theorem nd_len {l : List Nat} {N : Nat} (h : l.Nodup) (hm : ∀ n ∈ l, n < N) : l.length ≤ N := by
  have := h.length_le_of_subset (l₂ := List.range N) fun n hn => List.mem_range.mpr (hm n hn)
  rwa [List.length_range] at this
theorem nd_app {S : List (Option Rw)} {L : List Nat} {outs' : List Int} {s' : FS} (wk : Wk (afterS S L) outs' s') (h : L.Nodup) (hm : ∀ n ∈ L, n < S.length) : (L ++ s'.log).Nodup ∧ ∀ n ∈ L ++ s'.log, n < S.length := by
  have key : ∀ n ∈ s'.log, n < S.length ∧ n ∉ L := fun n hn => by
    obtain ⟨row, e, hlt⟩ := live_lt (wk.ok.lv n (List.mem_append_left _ hn))
    rw [afterS_len] at hlt
    refine ⟨hlt, fun hL => ?_⟩
    unfold afterS at e
    rw [List.getElem?_map, List.getElem?_range hlt] at e
    simp only [Option.map_some] at e
    rw [if_pos hL] at e
    cases e
  refine ⟨List.nodup_append.mpr ⟨h, (List.nodup_append.mp wk.ok.nd).1, fun a ha b hb e => (key b hb).2 (e ▸ ha)⟩, fun n hn => ?_⟩
  rcases List.mem_append.mp hn with hn | hn
  · exact hm n hn
  · exact (key n hn).1
theorem wk_hold {b : Int} (wf : WfB b slots outs) {q : Nat} (hl : isLive slots q = true) : Wk slots outs (s00 q) := by
  have hlt : q < outs.length := by
    rw [wf.len]
    exact (live_lt hl).choose_spec.2
  have hz : outs[q]? = some outs[q] := List.getElem?_eq_getElem hlt
  have hb : bump outs (some q) = outs.set q (outs[q] + 1) := by
    show outs.set q ((outs[q]?).getD 0 + 1) = _
    rw [hz]
    rfl
  have h0 := (wf.outs _ (List.getElem_mem hlt)).1
  have := wk_first (wf_bump wf hl) (n := q) (z := outs[q] + 1) (by rw [hb, List.getElem?_set_self hlt]) (by omega) hl
  rwa [hb, List.set_set, show outs[q] + 1 - 1 = outs[q] by omega, show outs.set q outs[q] = outs from by
    refine List.ext_getElem? fun i => ?_
    by_cases e : q = i
    · subst e
      rw [List.getElem?_set_self hlt, hz]
    · rw [List.getElem?_set_ne e]] at this
theorem endsA_peak {b : Int} (wf : WfB b slots outs) {o : Option Nat} (ho : ∀ q, o = some q → isLive slots q = true) {e : List Ev} (h : EndsA slots outs lim o e) {k : Int} (hk : IsPeak (sizesOf e) k) : 0 ≤ k ∧ k ≤ 40 := by
  cases o with
  | none =>
    rw [show e = [] from h] at hk
    rcases hk with ⟨_, rfl⟩ | ⟨h1, _⟩
    · omega
    · cases h1
  | some q => exact peak_le (wk_hold wf (ho q rfl)) (fun b hb => absurd hb (by simp [sizesOf, s00])) (show Steps _ _ _ _ ⟨[], [], e⟩ from h) hk
end
section
variable {P : Program} {w : World} {K : PySem.W.Frag} {mg : Str → Option Value} {base : Heap}
def spStripped (K : PySem.W.Frag) : Sp := fun vs H Q _ => ∃ (D : Addr) (slots : List (Option Rw)) (outs : List Int) (node : Nat) (row : Rw) (z lim : Int), vs = [.ref D, .int node, .int lim] ∧ HeapT K H D slots outs ∧ Wf slots outs ∧ slots[node]? = some (some row) ∧ outs[node]? = some z ∧ 0 < lim ∧
  ∀ B L X k E H', Kx [] H H' → SqT K H' B [.ref L, .int k, .ref X] → SqT K H' L ((FS.log ⟨[], [], E⟩).map fun n : Nat => V.int n) → FinA slots outs (outs.set node (z + 1)) lim node row E → IsPeak (sizesOf E) k → 0 ≤ k → k ≤ 40 → (FS.log ⟨[], [], E⟩).length ≤ 40 → (∀ n ∈ FS.log ⟨[], [], E⟩, n < 40) → HeapT K H' X (afterS (slotN slots node row row.length) (FS.log ⟨[], [], E⟩)) outs → Q (.ref B) H'
theorem ok_stripped {f : Addr} {fd : FuncData} (F : Fun K "_law_stripped" "_law_stripped" sQStripped f fd) (T : Txt mg) (l_law_filled : Lo P w K mg base "_law_filled" 4 ["_law_base_here", "_law_spot", "_law_place", "_law_goal", "_law_bound_here"] (spFilled K)) (l_law_dropped : Lo P w K mg base "_law_dropped" 3 ["_law_base_here", "_law_spot", "_law_bound_here"] (spDropped K)) :
    FnOk P w K mg base CX0 5 f fd ["_law_base_here", "_law_spot", "_law_bound_here"] (spStripped K) := by
  refine F.ok scQStripped (fun vs H Q E h => ?_) (fun cdv A outer s H vs Q E hr h => ?_)
  · obtain ⟨D, slots, outs, node, row, z, lim, rfl, _⟩ := h
    rfl
  · obtain ⟨D, slots, outs, node, row, z, lim, rfl, hT, wf, er, hz, hlim, k⟩ := h
    obtain ⟨S, O, vs, hD, hS, hO, hvl, hv⟩ := id hT.ex
    have h40 := wf.row row (List.mem_of_getElem? er)
    have hm40 := wf.most
    have hol := wf.len
    have hlt := (List.getElem?_eq_some_iff.mp er).1
    have hnl := (List.getElem?_eq_some_iff.mp hz).1
    have hz0 := wf.outs z (List.mem_of_getElem? hz)
    rcases hv node _ er with ⟨e', _⟩ | ⟨r, row', e', zr, hR⟩
    · cases e'
    cases Option.some.inj e'
    have hatS : atI vs (node : Int) = some (V.ref r) := atI_nat zr
    have hrl : (rowV row).length = row.length := rowV_len row
    have hz1 : (outs.set node (z + 1))[node]? = some (z + 1) := List.getElem?_set_self hnl
    refine ⟨_, (pss_cons (ps_setLc (i := 4) (own := [("_law_place", 3), ("_law_number", 10)]) rfl scQStripped.nd rfl rfl (sw_true rfl rfl rfl (by decide +kernel)) (pi_enumT (by rfl) T.b_enumerate (pa_cons (pe_ix ix_tup (pv 0) pe_int (fun _ _ => rfl)) pa_nil)) (blkOk_by (N := ["_law_base_here", "_law_spot", "_law_bound_here", "_law_place", "_law_handles", "_law_now", "_law_whole", "_law_high", "_law_log", "_law_more", "_law_number"]) (sc := defScope sQStripped) (by decide +kernel)) (fun _ _ _ _ _ => (pg_tupK (K := K) (n := 2) rfl rfl (pgs_cons (pg_name (i := 3) scQStripped.nd rfl (Or.inl rfl)) (pgs_cons (pg_name (i := 10) scQStripped.nd rfl (Or.inl rfl)) pgs_nil)))) (fun _ _ _ _ _ => pts_nil) (fun _ _ _ _ _ => (pe_op op_add (pv 10) (pe_callTy call_int1 (by rfl) T.b_int boot'_int (pa_cons (pe_cmpR op_eq (pv 3) (pv 1) (nomark _)) pa_nil)))))
      (pss_cons (ps_set (i := 5) scQStripped.nd rfl (Or.inl rfl) (pe_tup (pa_cons (pe_ix ix_tup (pv 0) pe_int (fun _ _ => rfl)) (pa_cons (pe_callTy call_tuple_of (by rfl) T.b_tuple boot'_tuple (pa_cons (pv 4) pa_nil)) pa_nil))))
      (pss_cons (ps_asg (pe_tup (pa_cons (pe_tup pa_nil) (pa_cons pe_int pa_nil))) (pg_tup rfl (pgs_cons (pg_name (i := 6) scQStripped.nd rfl (Or.inl rfl)) (pgs_cons (pg_name (i := 7) scQStripped.nd rfl (Or.inl rfl)) pgs_nil))))
      (pss_cons (ps_for PassesOwn.never rfl (pi_range1 (by rfl) T.b_range (pa_cons (pe_callB call_len_seq (by rfl) T.b_len boot'_len (pa_cons (pe_ix ix_tup (pe_ix ix_tup (pv 0) pe_int (fun _ _ => rfl)) (pv 1) (fun _ _ => rfl)) pa_nil)) pa_nil)) (pg_name (i := 3) scQStripped.nd rfl (Or.inl rfl))
      (pss_cons (ps_asg (pe_lo l_law_filled (hr.mono (by decide)) (by rfl) (pa_cons (pv 5) (pa_cons (pv 1) (pa_cons (pv 3) (pa_cons pe_non (pa_cons (pv 2) pa_nil)))))) (pg_tup rfl (pgs_cons (pg_name (i := 8) scQStripped.nd rfl (Or.inl rfl)) (pgs_cons (pg_name (i := 9) scQStripped.nd rfl (Or.inl rfl)) (pgs_cons (pg_name (i := 5) scQStripped.nd rfl (Or.inl rfl)) pgs_nil)))))
      (pss_one (ps_par (i := 6) (j := 7) rfl scQStripped.nd rfl rfl (by decide) rfl rfl (pa_cons (pe_op op_catA (pv 6) (pv 8)) (pa_cons (pe_callB (call_max2 rfl) (by rfl) T.b_max boot'_max (pa_cons (pv 7) (pa_cons (pv 9) pa_nil))) pa_nil)) (by rfl)))))
      (pss_cons (ps_asg (pe_lo l_law_dropped (hr.mono (by decide)) (by rfl) (pa_cons (pv 5) (pa_cons (pv 1) (pa_cons (pv 2) pa_nil)))) (pg_tup rfl (pgs_cons (pg_name (i := 8) scQStripped.nd rfl (Or.inl rfl)) (pgs_cons (pg_name (i := 9) scQStripped.nd rfl (Or.inl rfl)) (pgs_cons (pg_name (i := 5) scQStripped.nd rfl (Or.inl rfl)) pgs_nil)))))
      (pss_one (ps_ret (pe_tup (pa_cons (pe_op op_catA (pv 6) (pv 8)) (pa_cons (pe_callB (call_max2 rfl) (by rfl) T.b_max boot'_max (pa_cons (pv 7) (pa_cons (pv 9) pa_nil))) (pa_cons (pv 5) pa_nil))))))))))), ?_⟩
    refine x_start (σ' := [some (.ref D), some (.int node), some (.int lim), none, none, none, none, none, none, none, none]) rfl ?_
    try dsimp only [cxOf]
    repeat walk_at "rd"
    refine y_lcET (xs := outs.map V.int) hO (fun Y nY => ⟨fun i H2 => Kx [] H H2 ∧ H2 Y = some (.lst (((outs.set node (z + 1)).take i).map V.int)), ⟨(Kx.refl _ _).new nY, upd_same⟩, ?_, ?_, ?_⟩)
    · rintro i H2 hi ⟨k2, _⟩
      exact k2.sqT (by simp) hO
    · rintro i x H2 H2' hi ⟨k2, e2⟩ ⟨U, x1, x2, rfl, nU, rfl, f1, f2⟩
      cases f1
      rw [List.length_map] at hi
      have hz0 : (((outs.set node (z + 1)).take i).map V.int).length < sizeLine := big_line (by rw [List.length_map, List.length_take]; omega)
      replace f2 : (outs.map V.int)[i]? = some x2 := f2
      rw [List.getElem?_map, List.getElem?_eq_getElem hi] at f2
      cases Option.some.inj f2
      repeat walk_at "rd"
      refine ⟨rfl, ?_⟩
      repeat walk_at "rd"
      refine ⟨_, lk_ne e2 nU, hz0, (k2.new nU).wr (.inl nY), ?_⟩
      rw [upd_same, List.take_add_one, List.map_append]
      congr 3
      by_cases hin : node = i
      · subst hin
        have hoz : outs[node] = z := by
          rw [List.getElem?_eq_getElem hi] at hz
          exact Option.some.inj hz
        rw [List.getElem?_set_self hi, hoz]
        simp
      · rw [List.getElem?_set_ne hin, List.getElem?_eq_getElem hi]
        have : decide (V.int (i : Int) = V.int (node : Int)) = false := decide_eq_false fun e => by have := V.int.inj e; omega
        rw [this]
        simp
    rintro H2 ⟨k2, eY⟩
    rw [List.length_map, show outs.length = (outs.set node (z + 1)).length by rw [List.length_set], List.take_length] at eY
    have hD2 := k2.sqT (by simp) hD
    have hS2 := k2.sqT (by simp) hS
    have hR2 := k2.sqT (by simp) hR
    repeat walk_at "rd"
    intro O1 nO1
    repeat walk_at "rd"
    rename_i X0 nX0 W0 nW0 T0 nT0
    have bE : bump outs (some node) = outs.set node (z + 1) := by
      show outs.set node ((outs[node]?).getD 0 + 1) = _
      rw [hz]
      rfl
    have hlive : isLive slots node = true := by simp [isLive, er]
    have wf0 : WfB 10 slots (outs.set node (z + 1)) := by
      rw [← bE]
      exact wf_bump wf hlive
    have hback : (outs.set node (z + 1)).set node (z + 1 - 1) = outs := by
      rw [List.set_set]
      refine List.ext_getElem? fun i => ?_
      by_cases e : node = i
      · subst e
        rw [List.getElem?_set_self hnl, hz]
        congr 1
        omega
      · rw [List.getElem?_set_ne e]
    have kf : Kx [] H2 (upd (upd (upd (upd H2 O1 (.tup ((outs.set node (z + 1)).map V.int))) X0 (.tup [.ref S, .ref O1])) W0 (.tup [])) T0 (.tup [.ref W0, .int 0])) := ((((Kx.refl [] H2).new nO1).new nX0).new nW0).new nT0
    have k3 := k2.trans kf
    have hX0 : HeapT K (upd (upd (upd (upd H2 O1 (.tup ((outs.set node (z + 1)).map V.int))) X0 (.tup [.ref S, .ref O1])) W0 (.tup [])) T0 (.tup [.ref W0, .int 0])) X0 slots (outs.set node (z + 1)) := by
      refine ⟨S, O1, vs, SqT.of (by walk_at "lk"), k3.sqT (by simp) hS, SqT.of (by walk_at "lk"), hvl, fun i o ho => ?_⟩
      rcases hv i o ho with z | ⟨r, row, e, z, hR⟩
      · exact .inl z
      · exact .inr ⟨r, row, e, z, k3.sqT (by simp) hR⟩
    have hW0 : SqT K (upd (upd (upd (upd H2 O1 (.tup ((outs.set node (z + 1)).map V.int))) X0 (.tup [.ref S, .ref O1])) W0 (.tup [])) T0 (.tup [.ref W0, .int 0])) W0 [] := SqT.of (lk_ne upd_same nT0)
    generalize upd (upd (upd (upd H2 O1 (.tup ((outs.set node (z + 1)).map V.int))) X0 (.tup [.ref S, .ref O1])) W0 (.tup [])) T0 (.tup [.ref W0, .int 0]) = H3 at *
    have hD3 := k3.sqT (by simp) hD
    have hS3 := k3.sqT (by simp) hS
    have hR3 := k3.sqT (by simp) hR
    repeat walk_at "rd"
    rw [hrl]
    refine y_forR1 (by omega) (by omega) ⟨fun i σ Hi => ∃ (X W : Addr) (hh : Int) (E : List Ev) (y3 y8 y9 : Option V), σ = [some (.ref D), some (.int node), some (.int lim), y3, some (.ref Y), some (.ref X), some (.ref W), some (.int hh), y8, y9, none] ∧ Kx [] H Hi ∧
      HeapT K Hi X (afterS (slotN slots node row i) (FS.log ⟨[], [], E⟩)) (outs.set node (z + 1)) ∧ SqT K Hi W ((FS.log ⟨[], [], E⟩).map fun n : Nat => V.int n) ∧ ChainA slots (outs.set node (z + 1)) lim node row i E ∧ IsPeak (sizesOf E) hh ∧ 0 ≤ hh ∧ hh ≤ 40 ∧ WfB 10 (afterS (slotN slots node row i) (FS.log ⟨[], [], E⟩)) (outs.set node (z + 1)) ∧ node ∉ FS.log ⟨[], [], E⟩ ∧ (FS.log ⟨[], [], E⟩).Nodup ∧ (∀ n ∈ FS.log ⟨[], [], E⟩, n < slots.length), ?_, fun _ _ _ _ _ => trivial, ?_, ?_⟩
    · have hn0 : afterS (slotN slots node row 0) (FS.log ⟨[], [], []⟩) = slots := by
        rw [slotN_zero er]
        exact afterS_nil slots
      exact ⟨X0, W0, 0, [], none, none, none, rfl, k3, by rw [hn0]; exact hX0, hW0, rfl, .inl ⟨rfl, rfl⟩, by decide, by decide, by rw [hn0]; exact wf0, by simp [FS.log], by simp [FS.log], by simp [FS.log]⟩
    · rintro i x σ Hi Hi' hi ⟨X, W, hh, E, y3, y8, y9, rfl, ki, hX, hW, ch, hpk, h0, h41, wfi, hnd, hdup, hin⟩ ⟨rfl, rfl⟩
      have hlen := nd_len hdup hin
      have hir : i < row.length := by omega
      have hri : i < (rowN row i).length := by rw [rowN_len (Nat.le_of_lt hir)]; exact hir
      have heq : (rowN row i)[i] = row[i] := by
        have := rowN_at hir
        rw [List.getElem?_eq_getElem hri] at this
        exact Option.some.inj this
      have hat := after_at (slotN_at er i) hnd
      repeat walk_at "rd"
      rw [Int.zero_add]
      refine ⟨X, _, _, node, i, rowN row i, none, lim, hri, rfl, hX, ⟨_, wfi⟩, hat, fun t e => (by cases e), hlim, fun B L2 X2 pk s' Hj kj hB hL hst hp he wk hpk2 hX2 => ?_⟩
      have wfp := wf_put (tgt := none) wfi hat hri (fun t e => (by cases e))
      have hq : ∀ q, row[i] = some q → isLive (putS (afterS (slotN slots node row i) (FS.log ⟨[], [], E⟩)) node i none) q = true := fun q e => by
        rw [putS_live hat]
        obtain ⟨r, h⟩ := wfi.live _ (List.mem_of_getElem? hat) q (by rw [← e, ← heq]; exact List.getElem_mem hri)
        simp [isLive, h]
      rw [putS_after er hir hnd] at hst wk hX2 wfp hq
      rw [afterS_afterS] at hX2
      have hs' : s' = ⟨[], [], s'.evs⟩ := by
        cases s'
        simp only at hp he
        rw [hp, he]
      have hend : EndsA (afterS (slotN slots node row (i + 1)) (FS.log ⟨[], [], E⟩)) (outs.set node (z + 1)) lim row[i] s'.evs := by
        rw [heq] at hst
        cases hc : row[i] with
        | none =>
          rw [hc] at hst
          have hst : s' = ⟨[], [], []⟩ := hst
          rw [hst]
          rfl
        | some q =>
          rw [hc] at hst
          have hst : Steps _ _ _ _ s' := hst
          rw [hs'] at hst
          exact hst
      have hpk0 := endsA_peak wfp hq hend hpk2
      have hll : FS.log ⟨[], [], E ++ s'.evs⟩ = FS.log ⟨[], [], E⟩ ++ s'.log := log_of _ _
      have hl40 := wk.log
      have hWj := kj.sqT (by simp) hW
      repeat walk_at "rd"
      refine x_cat hWj hL (Nat.le_of_lt (big_line (by rw [List.length_map, List.length_map]; omega))) fun W2 Hk hW2 kk2 => ?_
      repeat walk_at "rd"
      refine ⟨X2, W2, _, E ++ s'.evs, _, _, _, rfl, (ki.trans kj).trans kk2, ?_, ?_, ⟨E, s'.evs, ch, rfl, by rw [List.getElem?_eq_getElem hir]; exact hend⟩, ?_, ?_, ?_, ?_, ?_, ?_⟩
      · rw [hll]
        exact hX2.keep kk2
      · rw [hll, List.map_append]
        exact hW2
      · unfold sizesOf
        rw [List.filterMap_append]
        exact hpk.app hpk2 (sizes_nn _) (sizes_nn _)
      · split <;> omega
      · split <;> omega
      · rw [hll, ← afterS_afterS]
        exact wf_after wfp wk hp (by rw [afterS_len, slotN_len, List.length_set]; exact hol) (fun y hy => (wfi.outs y hy).2) (fun m hm => wfp.free m hm)
      · rw [hll]
        intro h
        rcases List.mem_append.mp h with h | h
        · exact hnd h
        · exact not_dead wk hz1 (by omega) h
      · have hnd2 := nd_app wk hdup (by rw [slotN_len]; exact hin)
        rw [slotN_len] at hnd2
        rw [hll]
        exact hnd2
    · rintro σ Hi ⟨X, W, hh, E, y3, y8, y9, rfl, ki, hX, hW, ch, hpk, h0, h41, wfi, hnd, hdup, hin⟩
      have hlen := nd_len hdup hin
      rw [Int.toNat_natCast] at hX ch wfi
      have hat := after_at (slotN_at er row.length) hnd
      have hlN : isLive (afterS (slotN slots node row row.length) (FS.log ⟨[], [], E⟩)) node = true := by simp [isLive, hat]
      repeat walk_at "rd"
      refine ⟨X, _, _, node, z + 1, lim, rfl, hX, ⟨_, wfi⟩, hlN, hz1, by omega, hlim, fun B L2 X2 pk s' Hj kj hB hL hs hp he wk hpk2 hX2 => ?_⟩
      have hnd2 := nd_app wk hdup (by rw [slotN_len]; exact hin)
      rw [slotN_len] at hnd2
      have hpk0 := peak_le (wk_first wfi hz1 (by omega) hlN) (fun b hb => absurd hb (by simp [sizesOf, s00])) hs hpk2
      rw [hback] at hs wk hX2
      rw [afterS_afterS] at hX2
      have hs' : s' = ⟨[], [], s'.evs⟩ := by
        cases s'
        simp only at hp he
        rw [hp, he]
      have hll : FS.log ⟨[], [], E ++ s'.evs⟩ = FS.log ⟨[], [], E⟩ ++ s'.log := log_of _ _
      have hl40 := wk.log
      have hWj := kj.sqT (by simp) hW
      repeat walk_at "rd"
      refine x_cat hWj hL (Nat.le_of_lt (big_line (by rw [List.length_map, List.length_map]; omega))) fun W2 Hk hW2 kk2 => ?_
      repeat walk_at "rd"
      rename_i B2 nB2
      have kb : Kx [] Hk (upd Hk B2 (.tup [.ref W2, .int (if pk > hh then pk else hh), .ref X2])) := (Kx.refl _ _).new nB2
      refine k B2 W2 X2 _ (E ++ s'.evs) _ (((ki.trans kj).trans kk2).trans kb) (SqT.of upd_same) ?_ ⟨E, s'.evs, ch, rfl, ?_⟩ ?_ ?_ ?_ ?_ ?_ ?_
      · rw [hll, List.map_append]
        exact kb.sqT (by simp) hW2
      · rw [hs'] at hs
        exact hs
      · unfold sizesOf
        rw [List.filterMap_append]
        exact hpk.app hpk2 (sizes_nn _) (sizes_nn _)
      · split <;> omega
      · split <;> omega
      · rw [hll]
        exact Nat.le_trans (nd_len hnd2.1 hnd2.2) hm40
      · rw [hll]
        exact fun n hn => Nat.lt_of_lt_of_le (hnd2.2 n hn) hm40
      · rw [hll]
        exact (hX2.keep kk2).keep kb
end


/-! ### what can be reached -/
inductive Reach (slots : List (Option Rw)) (outs : List Int) : Nat → Prop
  | src {m : Nat} {z : Int} : isLive slots m = true → outs[m]? = some z → 0 < z → Reach slots outs m
  | step {h m : Nat} : Reach slots outs h → some m ∈ rowOf slots h → Reach slots outs m
/-- the state of a walk: ks found, ps to do, cur being done -/
structure WI (slots : List (Option Rw)) (outs : List Int) (ks ps : List Int) (cur : Option Nat) : Prop where
  nd : ks.Nodup
  re : ∀ z ∈ ks, ∃ n : Nat, z = n ∧ Reach slots outs n
  sub : ∀ z ∈ ps, z ∈ ks
  src : ∀ (n : Nat) (z : Int), isLive slots n = true → outs[n]? = some z → 0 < z → (n : Int) ∈ ks
  cl : ∀ h : Nat, (h : Int) ∈ ks → (h : Int) ∈ ps ∨ cur = some h ∨ ∀ m : Nat, some m ∈ rowOf slots h → (m : Int) ∈ ks
section
variable {slots : List (Option Rw)} {outs : List Int} {ks ps : List Int} {cur : Option Nat}
theorem WI.add (h : WI slots outs ks ps cur) {m : Nat} (r : Reach slots outs m) (n : (m : Int) ∉ ks) : WI slots outs (ks ++ [(m : Int)]) (ps ++ [(m : Int)]) cur := by
  refine ⟨?_, ?_, ?_, fun a z h1 h2 h3 => List.mem_append_left _ (h.src a z h1 h2 h3), ?_⟩
  · rw [List.nodup_append]
    refine ⟨h.nd, by simp, fun a ha b hb => ?_⟩
    rw [List.mem_singleton.mp hb]
    rintro rfl
    exact n ha
  · intro z hz
    rcases List.mem_append.mp hz with hz | hz
    · exact h.re z hz
    · exact ⟨m, List.mem_singleton.mp hz, r⟩
  · intro z hz
    rcases List.mem_append.mp hz with hz | hz
    · exact List.mem_append_left _ (h.sub z hz)
    · exact List.mem_append_right _ hz
  · intro a ha
    rcases List.mem_append.mp ha with ha | ha
    · rcases h.cl a ha with c | c | c
      · exact .inl (List.mem_append_left _ c)
      · exact .inr (.inl c)
      · exact .inr (.inr fun k hk => List.mem_append_left _ (c k hk))
    · exact .inl (List.mem_append_right _ ha)
theorem WI.pop (h : WI slots outs ks ps none) {a : Nat} {ps' : List Int} (s : ∀ z ∈ ps', z ∈ ps) (t : ∀ z ∈ ps, z ∈ ps' ∨ z = (a : Int)) : WI slots outs ks ps' (some a) := by
  refine ⟨h.nd, h.re, fun z hz => h.sub z (s z hz), h.src, fun b hb => ?_⟩
  rcases h.cl b hb with c | c | c
  · rcases t _ c with c | c
    · exact .inl c
    · exact .inr (.inl (by rw [Int.ofNat.inj c]))
  · cases c
  · exact .inr (.inr c)
theorem WI.done {a : Nat} (h : WI slots outs ks ps (some a)) (c : ∀ m : Nat, some m ∈ rowOf slots a → (m : Int) ∈ ks) : WI slots outs ks ps none := by
  refine ⟨h.nd, h.re, h.sub, h.src, fun b hb => ?_⟩
  rcases h.cl b hb with d | d | d
  · exact .inl d
  · cases d
    exact .inr (.inr c)
  · exact .inr (.inr d)
theorem WI.all (h : WI slots outs ks [] none) {m : Nat} (r : Reach slots outs m) : (m : Int) ∈ ks := by
  induction r with
  | src h1 h2 h3 => exact h.src _ _ h1 h2 h3
  | step _ hm ih =>
    rcases h.cl _ ih with c | c | c
    · cases c
    · cases c
    · exact c _ hm
/-- the ascending list of what can be reached -/
structure IsR (slots : List (Option Rw)) (outs : List Int) (ns : List Int) : Prop where
  up : ns.Pairwise (· ≤ ·)
  nd : ns.Nodup
  mem : ∀ z, z ∈ ns ↔ ∃ n : Nat, z = n ∧ Reach slots outs n
theorem IsR.of (h : WI slots outs ks [] none) {ns : List Int} (p : ns.Perm ks) (u : ns.Pairwise (· ≤ ·)) : IsR slots outs ns := by
  refine ⟨u, p.symm.nodup h.nd, fun z => ?_⟩
  rw [p.mem_iff]
  constructor
  · exact h.re z
  · rintro ⟨n, rfl, r⟩
    exact h.all r
theorem IsR.uniq {ns ms : List Int} (h : IsR slots outs ns) (g : IsR slots outs ms) : ns = ms := by
  have p : ns.Perm ms := (List.perm_ext_iff_of_nodup h.nd g.nd).mpr fun z => by rw [h.mem, g.mem]
  exact p.eq_of_pairwise (fun a b _ _ h1 h2 => Int.le_antisymm h1 h2) h.up g.up
theorem Reach.live (wf : Wf slots outs) {m : Nat} (r : Reach slots outs m) : isLive slots m = true := by
  cases r with
  | src h _ _ => exact h
  | @step h _ _ hm =>
    unfold rowOf at hm
    cases e : (slots[h]?).getD none with
    | none => rw [e] at hm; cases hm
    | some row =>
      rw [e] at hm
      have e2 : slots[h]? = some (some row) := by
        cases e3 : slots[h]? with
        | none => rw [e3] at e; cases e
        | some o => rw [e3] at e; exact congrArg some e
      obtain ⟨r2, e4⟩ := wf.live row (List.mem_of_getElem? e2) m hm
      simp [isLive, e4]
theorem nodup_len {n : Nat} : ∀ {zs : List Int}, zs.Nodup → (∀ z ∈ zs, 0 ≤ z ∧ z < n) → zs.length ≤ n := by
  intro zs hn hz
  have hp := hn.length_le_of_subset (l₂ := (List.range n).map fun k : Nat => (k : Int)) fun z h => by
    obtain ⟨h1, h2⟩ := hz z h
    exact List.mem_map.mpr ⟨z.toNat, List.mem_range.mpr (by omega), by omega⟩
  rwa [List.length_map, List.length_range] at hp
theorem WI.len (wf : Wf slots outs) (h : WI slots outs ks ps cur) : ks.length ≤ slots.length := by
  refine nodup_len h.nd fun z hz => ?_
  obtain ⟨n, rfl, r⟩ := h.re z hz
  obtain ⟨_, _, hl⟩ := live_lt (r.live wf)
  omega
end
/-- the keys of a dict of ints -/
def KeysI (kvs : List (Key × V)) (ks : List Int) : Prop := kvs.map (·.1) = ks.map Sum.inl
theorem KeysI.len {kvs : List (Key × V)} {ks : List Int} (h : KeysI kvs ks) : kvs.length = ks.length := by
  have := congrArg List.length h
  rwa [List.length_map, List.length_map] at this
theorem KeysI.has {ks : List Int} (i : Int) : ∀ {kvs : List (Key × V)}, KeysI kvs ks → (valV kvs (.inl i)).isSome = decide (i ∈ ks) := by
  intro kvs h
  rw [← valV_any]
  have e : (kvs.any fun kv => decide (kv.1 = .inl i)) = (kvs.map (·.1)).any fun k => decide (k = Sum.inl i) := by rw [List.any_map]; rfl
  rw [e, h, List.any_map, Bool.eq_iff_iff]
  simp
theorem KeysI.put {kvs : List (Key × V)} {ks : List Int} (h : KeysI kvs ks) {i : Int} (n : i ∉ ks) (v : V) : KeysI (putK kvs (.inl i) v) (ks ++ [i]) := by
  have e := h.has i
  rw [decide_eq_false n] at e
  rw [putK_new v (Option.isNone_iff_eq_none.mp (by rw [← Option.not_isSome, e]; rfl))]
  unfold KeysI
  rw [List.map_append, List.map_append, h]
  rfl
theorem KeysI.vals {kvs : List (Key × V)} {ks : List Int} (h : KeysI kvs ks) : (kvs.map fun kv => kV kv.1) = ks.map V.int := by
  have e : (kvs.map fun kv => kV kv.1) = (kvs.map (·.1)).map kV := by rw [List.map_map]; rfl
  rw [e, h, List.map_map]
  rfl
theorem liveUp_nd (slots : List (Option Rw)) (n : Nat) : (liveUp slots n).Nodup := by
  unfold liveUp
  refine List.Pairwise.map _ ?_ ((List.nodup_range).filter _)
  intro a b hab e
  exact hab (Int.ofNat.inj e)
def srcUp (slots : List (Option Rw)) (outs : List Int) (i : Nat) : List Int := ((liveUp slots slots.length).take i).filter fun z => decide (0 < (outs[z.toNat]?).getD 0)
theorem srcUp_succ {slots : List (Option Rw)} {outs : List Int} {i : Nat} {z : Int} (h : (liveUp slots slots.length)[i]? = some z) : srcUp slots outs (i + 1) = srcUp slots outs i ++ (if 0 < (outs[z.toNat]?).getD 0 then [z] else []) := by
  unfold srcUp
  rw [List.take_add_one, h, List.filter_append]
  by_cases e : 0 < (outs[z.toNat]?).getD 0
  · simp [List.filter, e]
  · simp [List.filter, e]
theorem srcUp_new {slots : List (Option Rw)} {outs : List Int} {i : Nat} {z : Int} (h : (liveUp slots slots.length)[i]? = some z) : z ∉ srcUp slots outs i := by
  intro hz
  have h1 := (List.mem_filter.mp hz).1
  have nd := liveUp_nd slots slots.length
  obtain ⟨j, hj⟩ := List.mem_iff_getElem?.mp h1
  obtain ⟨hj1, hj2⟩ := List.getElem?_eq_some_iff.mp hj
  rw [List.length_take] at hj1
  rw [List.getElem?_take_of_lt (by omega)] at hj
  have := (List.getElem?_inj (by omega) nd).mp (hj.trans h.symm)
  omega
theorem srcUp_len (slots : List (Option Rw)) (outs : List Int) (i : Nat) : (srcUp slots outs i).length ≤ slots.length := by
  refine Nat.le_trans (List.length_filter_le _ _) (Nat.le_trans (List.length_take_le' _ _) (liveUp_len _ _))
theorem WI.start {slots : List (Option Rw)} {outs : List Int} : WI slots outs (srcUp slots outs (liveUp slots slots.length).length) (srcUp slots outs (liveUp slots slots.length).length) none := by
  refine ⟨?_, ?_, fun _ h => h, ?_, fun _ h => .inl h⟩
  · unfold srcUp
    rw [List.take_length]
    exact (liveUp_nd _ _).filter _
  · intro z hz
    unfold srcUp at hz
    rw [List.take_length] at hz
    obtain ⟨h1, h2⟩ := List.mem_filter.mp hz
    obtain ⟨m, rfl, hm, hlv⟩ := liveUp_mem.mp h1
    have h3 := of_decide_eq_true h2
    rw [Int.toNat_natCast] at h3
    cases e : outs[m]? with
    | none => rw [e] at h3; exact absurd h3 (by decide)
    | some z => rw [e] at h3; exact ⟨m, rfl, .src hlv e h3⟩
  · intro n z hlv e hz
    unfold srcUp
    rw [List.take_length]
    obtain ⟨_, _, hl⟩ := live_lt hlv
    exact List.mem_filter.mpr ⟨liveUp_mem.mpr ⟨n, rfl, hl, hlv⟩, by rw [Int.toNat_natCast, e]; exact decide_eq_true hz⟩
section
variable {P : Program} {w : World} {K : PySem.W.Frag} {mg : Str → Option Value} {base : Heap}

def spSrcs (K : PySem.W.Frag) : Sp := fun vs H Q _ => ∃ (D : Addr) (slots : List (Option Rw)) (outs : List Int), vs = [.ref D] ∧ HeapT K H D slots outs ∧ Wf slots outs ∧
  ∀ p H' kvs ks, H p = none → Kx [] H H' → H' p = some (.dK kvs) → KeysI kvs ks → WI slots outs ks [] none → Q (.ref p) H'
def spHeld (K : PySem.W.Frag) : Sp := fun vs H Q _ => ∃ (D A : Addr) (slots : List (Option Rw)) (outs : List Int), vs = [.ref D, .ref A] ∧ HeapT K H D slots outs ∧ Wf slots outs ∧ SqL K H A ((srcUp slots outs (liveUp slots slots.length).length).map V.int) ∧
  ∀ p H' kvs ks, H p = none → Kx [] H H' → H' p = some (.dK kvs) → KeysI kvs ks → WI slots outs ks [] none → Q (.ref p) H'
theorem ok_held {f : Addr} {fd : FuncData} (F : Fun K "held_from" "held_from" sHeldFrom f fd) (T : Txt mg) : FnOk P w K mg base CX0 1 f fd ["heap", "starts"] (spHeld K) := by
  refine F.ok scHeldFrom (fun vs H Q E h => ?_) (fun cdv A outer s H vs Q E hr h => ?_)
  · obtain ⟨D, A, slots, outs, rfl, _⟩ := h
    rfl
  · obtain ⟨D, A0, slots, outs, rfl, hT, wf, hA, k⟩ := h
    obtain ⟨S, O, vs, hD, hS, hO, hl, hv⟩ := id hT.ex
    refine ⟨_, (pss_cons (ps_setDc (i := 2) (own := [("node", 6)]) rfl scHeldFrom.nd rfl rfl (sw_trueD rfl rfl rfl (by decide +kernel)) (pi_list (pv 1)) (blkOk_by (N := ["heap", "starts", "sources", "pending", "holder", "held", "node"]) (sc := defScope sHeldFrom) (by decide +kernel)) (fun _ _ _ _ _ => (pg_name (i := 6) scHeldFrom.nd rfl (Or.inl rfl))) (fun _ _ _ _ _ => pts_nil) (fun _ _ _ _ _ => (pv 6)) (fun _ _ _ _ _ => pe_non))
      (pss_cons (ps_set (i := 3) scHeldFrom.nd rfl (Or.inl rfl) (pe_callTy (call_list_dK rfl) (by rfl) T.b_list boot'_list (pa_cons (pv 2) pa_nil)))
      (pss_cons (ps_while PassesOwn.never (pt_truth' (pv 3))
      (pss_cons (ps_set (i := 4) scHeldFrom.nd rfl (Or.inl rfl) (pe_bm0 PySem.F.plainAttrs_list PySem.F.slot_list_pop PySem.F.type_list_pop mt_pop (pv 3)))
      (pss_one (ps_for PassesOwn.never rfl (pi_tup (pe_ix ix_tup (pe_ix ix_tup (pv 0) pe_int (fun _ _ => rfl)) (pv 4) (fun _ _ => rfl))) (pg_name (i := 5) scHeldFrom.nd rfl (Or.inl rfl))
      (pss_one (ps_if (PW.pt (pw_and (pt_cmpR op_notN1 (pv 5) pe_non (nomark _)) (pw_and1 (pt_cmp (pc_dnotin (hu_of hr) (pv 5) (pv 2)))))) (pss_cons (ps_dput (hu_of hr) (pv 2) (pv 5) (pv 4) rfl)
      (pss_one (ps_expr (pe_bm PySem.F.plainAttrs_list PySem.F.slot_list_append PySem.F.type_list_append mt_append (pv 3) (pa_cons (pv 5) pa_nil))))) pss_nil))))))
      (pss_one (ps_ret (pv 2)))))), ?_⟩
    refine x_start (σ' := [some (.ref D), some (.ref A0), none, none, none, none, none]) rfl ?_
    dsimp only [cxOf]
    have h40 := wf.most
    have hsl := srcUp_len slots outs (liveUp slots slots.length).length
    have hnd : (srcUp slots outs (liveUp slots slots.length).length).Nodup := WI.start.nd
    repeat walk_at "rd"
    refine y_dcL hA (fun Dd nD => ⟨fun i H2 => Kx [] H H2 ∧ ∃ kvs, H2 Dd = some (.dK kvs) ∧ KeysI kvs ((srcUp slots outs (liveUp slots slots.length).length).take i), ⟨(Kx.refl _ _).new nD, [], upd_same, rfl⟩, ?_, ?_, ?_⟩)
    · rintro i H2 hi ⟨k2, _⟩
      exact k2.sqL (by simp) hA
    · rintro i x H2 H2' hi ⟨k2, kvs, e2, hk⟩ ⟨rfl, hx⟩
      rw [List.length_map] at hi
      have hci := List.getElem?_eq_getElem hi
      have hx2 : ((srcUp slots outs (liveUp slots slots.length).length).map V.int)[i]? = some x := hx
      rw [List.getElem?_map, hci] at hx2
      cases Option.some.inj hx2
      have en : (srcUp slots outs (liveUp slots slots.length).length)[i] ∉ (srcUp slots outs (liveUp slots slots.length).length).take i := fun hm => by
        obtain ⟨j, hj⟩ := List.mem_iff_getElem?.mp hm
        obtain ⟨hj1, hj2⟩ := List.getElem?_eq_some_iff.mp hj
        rw [List.length_take] at hj1
        rw [List.getElem?_take_of_lt (by omega)] at hj
        have := (List.getElem?_inj (by omega) hnd).mp (hj.trans hci.symm)
        omega
      have es : (srcUp slots outs (liveUp slots slots.length).length).take (i + 1) = (srcUp slots outs (liveUp slots slots.length).length).take i ++ [(srcUp slots outs (liveUp slots slots.length).length)[i]] := by rw [List.take_add_one, hci]; rfl
      repeat walk_at "rd"
      refine ⟨rfl, ?_⟩
      repeat walk_at "rd"
      refine ⟨kvs, .inl _, rfl, e2, small1000 (by rw [hk.len, List.length_take]; omega), k2.wr (.inl nD), _, upd_same, ?_⟩
      rw [es]
      exact hk.put en _
    rintro H2 ⟨k2, kvs0, e2, hk0⟩
    rw [List.length_map, List.take_length] at hk0
    have nD0 : H Dd = none := nD
    have k12 := k2
    repeat walk_at "rd"
    rename_i L nL
    have nDL : Dd ≠ L := ne_of_none e2 nL
    have nL0 : H L = none := k12.fresh (by simp) nL
    refine ⟨fun m σ H3 => ∃ kvs ks ps y5 y6, σ = [some (.ref D), some (.ref A0), some (.ref Dd), some (.ref L), y5, y6, none] ∧ Kx [] H H3 ∧ H3 Dd = some (.dK kvs) ∧ KeysI kvs ks ∧ H3 L = some (.lst (ps.map V.int)) ∧
      WI slots outs ks ps none ∧ m = 2 * (40 - ks.length) + ps.length ∧ m ≤ 200, ⟨_, kvs0, _, _, none, none, rfl, k12.new nL, lk_ne e2 nL, hk0, by rw [upd_same, hk0.vals], WI.start, rfl, ?_⟩, ?_⟩
    · have := srcUp_len slots outs (liveUp slots slots.length).length
      omega
    rintro m σ H3 ⟨kvs, ks, ps, y5, y6, rfl, k3, e3, hk, eL, wi, rfl, hm200⟩
    repeat walk_at "rd"
    rcases List.eq_nil_or_concat ps with rfl | ⟨qs, z, rfl⟩
    · refine iteF ?_
      repeat walk_at "rd"
      exact k Dd H3 kvs ks nD0 k3 e3 hk wi
    · refine iteP (by simp) (x_turn ?_)
      obtain ⟨n, rfl, hR0⟩ := wi.re z (wi.sub z (by simp))
      obtain ⟨row, er, hnl⟩ := live_lt (hR0.live wf)
      have eat : ((qs ++ [(n : Int)]).map V.int)[((qs ++ [(n : Int)]).map V.int).length - 1]? = some (.int n) := by simp
      repeat walk_at "rd"
      refine ⟨ty_list (SqL.of eL), ?_⟩
      rcases hv n _ er with ⟨e', _⟩ | ⟨r, row', e', zr, hR⟩
      · cases e'
      cases Option.some.inj e'
      have at2 : atI vs (n : Int) = some (V.ref r) := atI_nat zr
      rw [List.concat_eq_append] at *
      repeat walk_at "rd"
      have k4 : Kx [] H (upd H3 L (.lst ((qs ++ [(n : Int)]).map V.int).dropLast)) := k3.wr (.inl nL0)
      have e4 : (upd H3 L (.lst ((qs ++ [(n : Int)]).map V.int).dropLast)) Dd = some (.dK kvs) := lk_ne2 nDL e3
      have eL4 : (upd H3 L (.lst ((qs ++ [(n : Int)]).map V.int).dropLast)) L = some (.lst (qs.map V.int)) := by
        rw [upd_same, List.map_append]
        simp
      generalize (upd H3 L (.lst ((qs ++ [(n : Int)]).map V.int).dropLast)) = H4 at *
      have hS4 := k4.sqT (by simp) hS
      have hr4 := k4.sqT (by simp) hR
      have wi0 := wi.pop (a := n) (ps' := qs) (fun z hz => List.mem_append_left _ hz) (fun z hz => by simpa using hz)
      have hlen0 := wi.len wf
      rw [List.length_append, List.length_singleton] at hm200
      repeat walk_at "rd"
      refine y_forT (xs := rowV row) hr4 ⟨fun i σ H5 => ∃ kvs' ks' ps' y6, σ = [some (.ref D), some (.ref A0), some (.ref Dd), some (.ref L), some (.int n), y6, none] ∧ Kx [] H H5 ∧ H5 Dd = some (.dK kvs') ∧ KeysI kvs' ks' ∧
        H5 L = some (.lst (ps'.map V.int)) ∧ WI slots outs ks' ps' (some n) ∧ (∀ m : Nat, some m ∈ row.take i → (m : Int) ∈ ks') ∧ 2 * (40 - ks'.length) + ps'.length ≤ 2 * (40 - ks.length) + qs.length,
        ⟨kvs, ks, qs, y6, rfl, k4, e4, hk, eL4, wi0, by simp, Nat.le_refl _⟩, ?_, ?_, ?_⟩
      · rintro i σ H5 hi ⟨_, _, _, _, rfl, k5, _⟩
        exact k5.sqT (by simp) hR
      · rintro i x σ H5 H5' hi ⟨kvs', ks', ps', y6, rfl, k5, e5, hk5, eL5, wi5, hin, hμ⟩ ⟨rfl, hx⟩
        have hi2 : i < row.length := by simpa [rowV] using hi
        have hrow : row[i]? = some row[i] := List.getElem?_eq_getElem hi2
        have hx2 : slotV row[i] = x := by
          unfold rowV at hx
          rw [List.getElem?_map, hrow] at hx
          exact Option.some.inj hx
        have htake : row.take (i + 1) = row.take i ++ [row[i]] := by rw [List.take_add_one, hrow]; rfl
        have hlen5 := wi5.len wf
        cases hc : row[i] with
        | none =>
          rw [hc] at hx2
          obtain rfl : V.non = x := hx2
          repeat walk_at "rd"
          refine iteF ?_
          repeat walk_at "rd"
          refine ⟨kvs', ks', ps', _, rfl, k5, e5, hk5, eL5, wi5, fun m hm => ?_, hμ⟩
          rw [htake, hc] at hm
          exact hin m (by simpa using hm)
        | some m =>
          rw [hc] at hx2
          obtain rfl : V.int (m : Int) = x := hx2
          have hRm : Reach slots outs m := .step hR0 (by rw [rowOf_some er, ← hc]; exact List.getElem_mem hi2)
          repeat walk_at "rd"
          refine iteT ?_
          repeat walk_at "rd"
          rw [hk5.has]
          by_cases hm0 : (m : Int) ∈ ks'
          · rw [decide_eq_true hm0]
            refine iteF ?_
            repeat walk_at "rd"
            refine ⟨kvs', ks', ps', _, rfl, k5, e5, hk5, eL5, wi5, fun b hb => ?_, hμ⟩
            rw [htake, hc] at hb
            rcases List.mem_append.mp hb with hb | hb
            · exact hin b hb
            · cases Option.some.inj (List.mem_singleton.mp hb)
              exact hm0
          · rw [decide_eq_false hm0]
            refine iteT ?_
            have hz1 : kvs'.length < sizeLine := small1000 (by rw [hk5.len]; omega)
            have hps : ps'.length ≤ 1000 := by omega
            have hadd := wi5.add hRm hm0
            have hlen6 := hadd.len wf
            rw [List.length_append, List.length_singleton] at hlen6
            repeat walk_at "rd"
            refine ⟨ty_list (SqL.of (lk_ne2 nDL.symm eL5)), ?_⟩
            repeat walk_at "rd"
            refine ⟨_, ks' ++ [(m : Int)], ps' ++ [(m : Int)], _, rfl, (k5.wr (.inl nD0)).wr (.inl nL0), lk_ne2 nDL upd_same, hk5.put hm0 _, by rw [upd_same, List.map_append]; rfl, hadd, fun b hb => ?_, ?_⟩
            · rw [htake, hc] at hb
              rcases List.mem_append.mp hb with hb | hb
              · exact List.mem_append_left _ (hin b hb)
              · cases Option.some.inj (List.mem_singleton.mp hb)
                exact List.mem_append_right _ List.mem_cons_self
            · simp only [List.length_append, List.length_singleton]
              omega
      · rintro σ H5 ⟨kvs', ks', ps', y6, rfl, k5, e5, hk5, eL5, wi5, hin, hμ⟩
        rw [show (rowV row).length = row.length by simp [rowV], List.take_length] at hin
        refine ⟨_, ?_, kvs', ks', ps', _, _, rfl, k5, e5, hk5, eL5, wi5.done fun b hb => hin b (by rw [← rowOf_some er]; exact hb), rfl, by omega⟩
        rw [List.length_append, List.length_singleton]
        omega
theorem ok_srcs {f : Addr} {fd : FuncData} (F : Fun K "_sources" "_sources" sSources f fd) (T : Txt mg) (l_live_nodes : Lo P w K mg base "live_nodes" 1 ["heap"] (spLive K)) (l_held_from : Lo P w K mg base "held_from" 1 ["heap", "starts"] (spHeld K)) : FnOk P w K mg base CX0 2 f fd ["heap"] (spSrcs K) := by
  refine F.ok scSources (fun vs H Q E h => ?_) (fun cdv A outer s H vs Q E hr h => ?_)
  · obtain ⟨D, slots, outs, rfl, _⟩ := h
    rfl
  · obtain ⟨D, slots, outs, rfl, hT, wf, k⟩ := h
    obtain ⟨S, O, vs, hD, hS, hO, hl, hv⟩ := id hT.ex
    refine ⟨_, (pss_one (ps_ret (pe_lo l_held_from (hr.mono (by decide)) (by rfl) (pa_cons (pv 0) (pa_cons (pe_lc (own := [("node", 1)]) rfl scSources.nd (pi_list (pe_lo l_live_nodes (hr.mono (by decide)) (by rfl) (pa_cons (pv 0) pa_nil))) (blkOk_by (N := ["heap", "node"]) (sc := defScope sSources) (by decide +kernel)) (fun _ _ _ _ _ => (pg_name (i := 1) scSources.nd rfl (Or.inl rfl))) (fun _ _ _ _ _ => (pts_one (pt_cmpR op_gt (pe_ix (ix_tupK (K := K)) (pe_ix (ix_tupK (K := K)) (pv 0) pe_int (fun _ _ => rfl)) (pv 1) (fun _ _ => rfl)) pe_int (nomark _)))) (fun _ _ _ _ _ => (pv 1))) pa_nil))))), ?_⟩
    refine x_start (σ' := [some (.ref D), none]) rfl ?_
    dsimp only [cxOf]
    have h40 := wf.most
    repeat walk_at "rd"
    refine ⟨D, slots, outs, rfl, hT, wf, fun Z H1 nZ k1 e1 => ?_⟩
    have hO1 := k1.sqT (by simp) hO
    have hD1 := k1.sqT (by simp) hD
    repeat walk_at "rd"
    refine y_lcL (SqL.of e1) (fun Y nY => ⟨fun i H2 => Kx [] H1 H2 ∧ H2 Y = some (.lst ((srcUp slots outs i).map V.int)), ⟨(Kx.refl _ _).new nY, upd_same⟩, ?_, ?_, ?_⟩)
    · rintro i H2 hi ⟨k2, _⟩
      exact k2.sqL (by simp) (SqL.of e1)
    · rintro i x H2 H2' hi ⟨k2, e2⟩ ⟨rfl, hx⟩
      rw [List.getElem?_map] at hx
      cases ez : (liveUp slots slots.length)[i]? with
      | none => rw [ez] at hx; cases hx
      | some z =>
        rw [ez] at hx
        cases Option.some.inj hx
        obtain ⟨n, rfl, hn, hlv⟩ := liveUp_mem.mp (List.mem_of_getElem? ez)
        have hout : n < outs.length := by rw [wf.len]; exact hn
        have at1 : atI (outs.map V.int) (n : Int) = some (.int outs[n]) := atI_nat (by rw [List.getElem?_map, List.getElem?_eq_getElem hout]; rfl)
        have hO2 := k2.sqT (by simp) hO1
        have hD2 := k2.sqT (by simp) hD1
        repeat walk_at "rd"
        refine ⟨rfl, ?_⟩
        repeat walk_at "rd"
        have es := srcUp_succ (outs := outs) ez
        have el := srcUp_len slots outs i
        rw [Int.toNat_natCast, List.getElem?_eq_getElem hout] at es
        by_cases h0 : 0 < outs[n]
        · refine iteP (decide_eq_true h0) ?_
          repeat walk_at "rd"
          refine ⟨_, e2, small1000 (by rw [List.length_map]; omega), k2.wr (.inl nY), ?_⟩
          rw [upd_same, es]
          simp only [Option.getD_some, h0, if_true]
          rw [List.map_append]
          rfl
        · refine iteN (decide_eq_false h0) ⟨k2, ?_⟩
          rw [e2, es]
          simp only [Option.getD_some, h0, if_false, List.append_nil]
    rintro H2 ⟨k2, e2⟩
    rw [List.length_map] at e2
    have k12 := k1.trans k2
    repeat walk_at "rd"
    refine ⟨D, Y, slots, outs, rfl, hT.keep k12, wf, SqL.of e2, fun p H3 kvs ks np k3 e3 hk wi => ?_⟩
    repeat walk_at "rd"
    exact k p H3 kvs ks (k12.fresh (by simp) np) (k12.trans k3) e3 hk wi
def spReach (K : PySem.W.Frag) : Sp := fun vs H Q _ => ∃ (D : Addr) (slots : List (Option Rw)) (outs : List Int), vs = [.ref D] ∧ HeapT K H D slots outs ∧ Wf slots outs ∧
  ∀ p H' ns, H p = none → Kx [] H H' → H' p = some (.lst (ns.map V.int)) → IsR slots outs ns → Q (.ref p) H'
theorem ok_reach {f : Addr} {fd : FuncData} (F : Fun K "reachable" "reachable" sReachable f fd) (T : Txt mg) (l_sources : Lo P w K mg base "_sources" 2 ["heap"] (spSrcs K)) : FnOk P w K mg base CX0 3 f fd ["heap"] (spReach K) := by
  refine F.ok scReachable (fun vs H Q E h => ?_) (fun cdv A outer s H vs Q E hr h => ?_)
  · obtain ⟨D, slots, outs, rfl, _⟩ := h
    rfl
  · obtain ⟨D, slots, outs, rfl, hT, wf, k⟩ := h
    refine ⟨_, (pss_one (ps_ret (pe_callB (cr_sortedDI rfl) (by rfl) T.b_sorted boot'_sorted (pa_cons (pe_lo l_sources (hr.mono (by decide)) (by rfl) (pa_cons (pv 0) pa_nil)) pa_nil)))), ?_⟩
    refine x_start (σ' := [some (.ref D)]) rfl ?_
    try dsimp only [cxOf]
    repeat walk_at "rd"
    refine ⟨D, slots, outs, rfl, hT, wf, fun p H1 kvs ks np k1 e1 hk wi => ?_⟩
    repeat walk_at "rd"
    refine x_sortedD e1 hk fun ns q pm up nq => ?_
    exact k q _ ns (k1.fresh (by simp) nq) (k1.new nq) upd_same (IsR.of wi pm up)
end
def posUp (outs : List Int) (n : Nat) : List Int := ((List.range n).filter fun m => decide (0 < (outs[m]?).getD 0)).map fun (m : Nat) => (m : Int)
theorem posUp_succ (outs : List Int) (n : Nat) : posUp outs (n + 1) = if 0 < (outs[n]?).getD 0 then posUp outs n ++ [(n : Int)] else posUp outs n := by
  unfold posUp
  rw [List.range_succ, List.filter_append, List.map_append]
  by_cases h : 0 < (outs[n]?).getD 0
  · simp [List.filter, h]
  · simp [List.filter, h]
theorem posUp_len (outs : List Int) (n : Nat) : (posUp outs n).length ≤ n := by
  unfold posUp
  rw [List.length_map]
  exact Nat.le_trans (List.length_filter_le _ _) (by rw [List.length_range]; exact Nat.le_refl _)
theorem WI.start2 {slots : List (Option Rw)} {outs : List Int} (wf : Wf slots outs) : WI slots outs (posUp outs outs.length) (posUp outs outs.length) none := by
  have key : ∀ z, z ∈ posUp outs outs.length ↔ ∃ m : Nat, z = m ∧ m < outs.length ∧ 0 < (outs[m]?).getD 0 := by
    intro z
    unfold posUp
    rw [List.mem_map]
    constructor
    · rintro ⟨m, hm, rfl⟩
      have := List.mem_filter.mp hm
      exact ⟨m, rfl, List.mem_range.mp this.1, of_decide_eq_true this.2⟩
    · rintro ⟨m, rfl, h1, h2⟩
      exact ⟨m, List.mem_filter.mpr ⟨List.mem_range.mpr h1, decide_eq_true h2⟩, rfl⟩
  refine ⟨?_, ?_, fun _ h => h, ?_, fun _ h => .inl h⟩
  · unfold posUp
    refine List.Pairwise.map _ ?_ ((List.nodup_range).filter _)
    intro a b hab e
    exact hab (Int.ofNat.inj e)
  · intro z hz
    obtain ⟨m, rfl, hm, hp⟩ := (key z).mp hz
    rw [List.getElem?_eq_getElem hm] at hp
    have hs : m < slots.length := by rw [← wf.len]; exact hm
    refine ⟨m, rfl, .src ?_ (List.getElem?_eq_getElem hm) hp⟩
    cases e : slots[m] with
    | none =>
      have := wf.free m (by rw [List.getElem?_eq_getElem hs, e])
      rw [List.getElem?_eq_getElem hm] at this
      rw [Option.some.inj this] at hp
      exact absurd hp (by decide)
    | some row => simp [isLive, List.getElem?_eq_getElem hs, e]
  · intro n z hlv e hz
    obtain ⟨hm, em⟩ := List.getElem?_eq_some_iff.mp e
    exact (key n).mpr ⟨n, rfl, hm, by rw [e]; exact hz⟩
section
variable {P : Program} {w : World} {K : PySem.W.Frag} {mg : Str → Option Value} {base : Heap}
def spReached (K : PySem.W.Frag) : Sp := fun vs H Q _ => ∃ (D : Addr) (slots : List (Option Rw)) (outs : List Int), vs = [.ref D] ∧ HeapT K H D slots outs ∧ Wf slots outs ∧
  ∀ p H' ns, H p = none → Kx [] H H' → H' p = some (.lst (ns.map V.int)) → IsR slots outs ns → Q (.ref p) H'
theorem ok_reached {f : Addr} {fd : FuncData} (F : Fun K "_law_reached" "_law_reached" sQReached f fd) (T : Txt mg) : FnOk P w K mg base CX0 1 f fd ["_law_base_here"] (spReached K) := by
  refine F.ok scQReached (fun vs H Q E h => ?_) (fun cdv A outer s H vs Q E hr h => ?_)
  · obtain ⟨D, slots, outs, rfl, _⟩ := h
    rfl
  · obtain ⟨D, slots, outs, rfl, hT, wf, k⟩ := h
    obtain ⟨S, O, vs, hD, hS, hO, hl, hv⟩ := id hT.ex
    refine ⟨_, (pss_cons (ps_asg (pv 0) (pg_tup rfl (pgs_cons (pg_name (i := 1) scQReached.nd rfl (Or.inl rfl)) (pgs_cons (pg_name (i := 2) scQReached.nd rfl (Or.inl rfl)) pgs_nil))))
      (pss_cons (ps_setLc (i := 3) (own := [("_law_spot", 6), ("_law_number", 7)]) rfl scQReached.nd rfl rfl (sw_true rfl rfl rfl (by decide +kernel)) (pi_enumT (by rfl) T.b_enumerate (pa_cons (pv 2) pa_nil)) (blkOk_by (N := ["_law_base_here", "_law_rows", "_law_handles", "_law_found", "_law_at", "_law_entry", "_law_spot", "_law_number"]) (sc := defScope sQReached) (by decide +kernel)) (fun _ _ _ _ _ => (pg_tupK (K := K) (n := 2) rfl rfl (pgs_cons (pg_name (i := 6) scQReached.nd rfl (Or.inl rfl)) (pgs_cons (pg_name (i := 7) scQReached.nd rfl (Or.inl rfl)) pgs_nil)))) (fun _ _ _ _ _ => (pts_one (pt_cmpR op_gt (pv 7) pe_int (nomark _)))) (fun _ _ _ _ _ => (pv 6)))
      (pss_cons (ps_set (i := 4) scQReached.nd rfl (Or.inl rfl) pe_int)
      (pss_cons (ps_while PassesOwn.never (pt_cmpR op_lt (pv 4) (pe_callB call_len_seq (by rfl) T.b_len boot'_len (pa_cons (pv 3) pa_nil)) (nomark _))
      (pss_cons (ps_for PassesOwn.never rfl (pi_tup (pe_ix ix_tup (pv 1) (pe_ix ix_list (pv 3) (pv 4) (fun _ _ => rfl)) (fun _ _ => rfl))) (pg_name (i := 5) scQReached.nd rfl (Or.inl rfl))
      (pss_one (ps_if (PW.pt (pw_and (pt_cmpR op_notN1 (pv 5) pe_non (nomark _)) (pw_and1 (pt_cmpR op_notIn_seq (pv 5) (pv 3) (by with_unfolding_all rfl))))) (pss_one (ps_expr (pe_bm PySem.F.plainAttrs_list PySem.F.slot_list_append PySem.F.type_list_append mt_append (pv 3) (pa_cons (pv 5) pa_nil)))) pss_nil)))
      (pss_one (ps_set (i := 4) scQReached.nd rfl (Or.inl rfl) (pe_op op_add (pv 4) pe_int)))))
      (pss_one (ps_ret (pe_callB cr_sortedI (by rfl) T.b_sorted boot'_sorted (pa_cons (pv 3) pa_nil)))))))), ?_⟩
    refine x_start (σ' := [some (.ref D), none, none, none, none, none, none, none]) rfl ?_
    dsimp only [cxOf]
    have h40 := wf.most
    repeat walk_at "rd"
    refine y_lcET (xs := outs.map V.int) hO (fun Z nZ => ⟨fun i H1 => Kx [] H H1 ∧ H1 Z = some (.lst ((posUp outs i).map V.int)), ⟨(Kx.refl _ _).new nZ, upd_same⟩, ?_, ?_, ?_⟩)
    · rintro i H1 hi ⟨k1, _⟩
      exact k1.sqT (by simp) hO
    · rintro i x H1 H1' hi ⟨k1, e1⟩ ⟨U, x1, x2, rfl, nU, rfl, f1, f2⟩
      cases f1
      rw [List.length_map] at hi
      replace f2 : (outs.map V.int)[i]? = some x2 := f2
      rw [List.getElem?_map, List.getElem?_eq_getElem hi] at f2
      cases Option.some.inj f2
      have nUZ : Z ≠ U := ne_of_none e1 nU
      have hlo := wf.len
      repeat walk_at "rd"
      refine ⟨rfl, ?_⟩
      have hlen := posUp_len outs i
      repeat walk_at "rd"
      by_cases h0 : 0 < outs[i]
      · refine iteP (decide_eq_true h0) ?_
        repeat walk_at "rd"
        refine ⟨_, lk_ne e1 nU, small1000 (by rw [List.length_map]; omega), (k1.new nU).wr (.inl nZ), ?_⟩
        rw [upd_same, posUp_succ, if_pos (by rw [List.getElem?_eq_getElem hi]; exact h0), List.map_append]
        rfl
      · refine iteN (decide_eq_false h0) ⟨k1.new nU, ?_⟩
        rw [posUp_succ, if_neg (by rw [List.getElem?_eq_getElem hi]; exact h0)]
        exact lk_ne e1 nU
    rintro H1 ⟨k1, e1⟩
    rw [List.length_map] at e1
    have nZ0 : H Z = none := by assumption
    repeat walk_at "rd"
    refine ⟨fun m σ H3 => ∃ (ks : List Int) (at' : Nat) (y5 : Option V), σ = [some (.ref D), some (.ref S), some (.ref O), some (.ref Z), some (.int (at' : Int)), y5, none, none] ∧ Kx [] H H3 ∧ H3 Z = some (.lst (ks.map V.int)) ∧
      WI slots outs ks (ks.drop at') none ∧ at' ≤ ks.length ∧ m = slots.length - at', ⟨_, _, 0, none, rfl, k1, e1, WI.start2 wf, Nat.zero_le _, rfl⟩, ?_⟩
    rintro m σ H3 ⟨ks, at', y5, rfl, k3, e3, wi, hat, rfl⟩
    have hk40 := wi.len wf
    repeat walk_at "rd"
    rw [List.length_map]
    by_cases hlt : at' < ks.length
    · refine iteP (decide_eq_true (by omega)) (x_turn ?_)
      obtain ⟨n, en, hR0⟩ := wi.re ks[at'] (List.getElem_mem hlt)
      obtain ⟨row, er, hnl⟩ := live_lt (hR0.live wf)
      have at1 : atI (ks.map V.int) (at' : Int) = some (.int (n : Int)) := atI_nat (by rw [List.getElem?_map, List.getElem?_eq_getElem hlt, en]; rfl)
      rcases hv n _ er with ⟨e', _⟩ | ⟨r, row', e', zr, hR⟩
      · cases e'
      cases Option.some.inj e'
      have at2 : atI vs (n : Int) = some (V.ref r) := atI_nat zr
      have hS3 := k3.sqT (by simp) hS
      have hr3 := k3.sqT (by simp) hR
      have hdr : ks.drop at' = (n : Int) :: ks.drop (at' + 1) := by rw [← en]; exact List.drop_eq_getElem_cons hlt
      have wi0 := wi.pop (a := n) (ps' := ks.drop (at' + 1)) (fun z hz => by rw [hdr]; exact List.mem_cons_of_mem _ hz) (fun z hz => by
        rw [hdr] at hz
        rcases List.mem_cons.mp hz with h | h
        · exact .inr h
        · exact .inl h)
      repeat walk_at "rd"
      refine y_forT (xs := rowV row) hr3 ⟨fun i σ H5 => ∃ (ks' : List Int) (y5 : Option V), σ = [some (.ref D), some (.ref S), some (.ref O), some (.ref Z), some (.int (at' : Int)), y5, none, none] ∧ Kx [] H H5 ∧
        H5 Z = some (.lst (ks'.map V.int)) ∧ WI slots outs ks' (ks'.drop (at' + 1)) (some n) ∧ at' < ks'.length ∧ (∀ m : Nat, some m ∈ row.take i → (m : Int) ∈ ks'),
        ⟨ks, y5, rfl, k3, e3, wi0, hlt, by simp⟩, ?_, ?_, ?_⟩
      · rintro i σ H5 hi ⟨_, _, rfl, k5, _⟩
        exact k5.sqT (by simp) hR
      · rintro i x σ H5 H5' hi ⟨ks', y5, rfl, k5, e5, wi5, hlt5, hin⟩ ⟨rfl, hx⟩
        have hi2 : i < row.length := by simpa [rowV] using hi
        have hrow : row[i]? = some row[i] := List.getElem?_eq_getElem hi2
        have hx2 : slotV row[i] = x := by
          unfold rowV at hx
          rw [List.getElem?_map, hrow] at hx
          exact Option.some.inj hx
        have htake : row.take (i + 1) = row.take i ++ [row[i]] := by rw [List.take_add_one, hrow]; rfl
        have hlen5 := wi5.len wf
        cases hc : row[i] with
        | none =>
          rw [hc] at hx2
          obtain rfl : V.non = x := hx2
          repeat walk_at "rd"
          refine iteF ?_
          repeat walk_at "rd"
          refine ⟨ks', _, rfl, k5, e5, wi5, hlt5, fun m hm => ?_⟩
          rw [htake, hc] at hm
          exact hin m (by simpa using hm)
        | some m =>
          rw [hc] at hx2
          obtain rfl : V.int (m : Int) = x := hx2
          have hRm : Reach slots outs m := .step hR0 (by rw [rowOf_some er, ← hc]; exact List.getElem_mem hi2)
          repeat walk_at "rd"
          refine iteT ?_
          repeat walk_at "rd"
          rw [in_int]
          by_cases hm0 : (m : Int) ∈ ks'
          · rw [decide_eq_true hm0]
            refine iteF ?_
            repeat walk_at "rd"
            refine ⟨ks', _, rfl, k5, e5, wi5, hlt5, fun b hb => ?_⟩
            rw [htake, hc] at hb
            rcases List.mem_append.mp hb with hb | hb
            · exact hin b hb
            · cases Option.some.inj (List.mem_singleton.mp hb)
              exact hm0
          · rw [decide_eq_false hm0]
            refine iteT ?_
            have hadd := wi5.add hRm hm0
            have hz1 : (ks'.map V.int).length < sizeLine := small1000 (by rw [List.length_map]; omega)
            repeat walk_at "rd"
            refine ⟨ty_list (SqL.of e5), ?_⟩
            repeat walk_at "rd"
            refine ⟨ks' ++ [(m : Int)], _, rfl, k5.wr (.inl nZ0), by rw [upd_same, List.map_append]; rfl, by rw [List.drop_append_of_le_length (by omega)]; exact hadd, by rw [List.length_append]; omega, fun b hb => ?_⟩
            rw [htake, hc] at hb
            rcases List.mem_append.mp hb with hb | hb
            · exact List.mem_append_left _ (hin b hb)
            · cases Option.some.inj (List.mem_singleton.mp hb)
              exact List.mem_append_right _ List.mem_cons_self
      · rintro σ H5 ⟨ks', y5, rfl, k5, e5, wi5, hlt5, hin⟩
        rw [rowV_len, List.take_length] at hin
        have hlen5 := wi5.len wf
        repeat walk_at "rd"
        exact ⟨slots.length - (at' + 1), by omega, ks', at' + 1, _, rfl, k5, e5, wi5.done fun b hb => hin b (by rw [← rowOf_some er]; exact hb), hlt5, rfl⟩
    · refine iteN (decide_eq_false (by omega)) ?_
      have hd : ks.drop at' = [] := List.drop_eq_nil_of_le (by omega)
      rw [hd] at wi
      repeat walk_at "rd"
      refine x_sortedL (SqL.of e3) fun ns q pm up nq => ?_
      exact k q _ ns (k3.fresh (by simp) nq) (k3.new nq) upd_same (IsR.of wi pm up)
end


section
variable {slots : List (Option Rw)} {outs : List Int} {lim : Int}
/-- gone, or counted still -/
def TPs (slots : List (Option Rw)) (outs : List Int) (p : Nat) (s : FS) : Prop := p ∈ s.log ++ s.shelf ∨ 1 ≤ tal slots outs s.log s.pend p
theorem TPs.step {p : Nat} {s s' : FS} (wk : Wk slots outs s) (e : stepF slots outs lim s = some s') (h : TPs slots outs p s) : TPs slots outs p s' := by
  cases hp : s.pend with
  | nil =>
    unfold stepF at e
    rw [hp] at e
    simp only at e
    cases hs : s.shelf.getLast? with
    | none => rw [hs] at e; cases e
    | some n =>
      rw [hs] at e
      cases Option.some.inj e
      have hsp : s.shelf = s.shelf.dropLast ++ [n] := by
        obtain ⟨ys, hy⟩ := List.getLast?_eq_some_iff.mp hs
        rw [hy, List.dropLast_concat]
      have hlog : FS.log ⟨kids slots n 1, s.shelf.dropLast, s.evs ++ [.take n s.shelf.dropLast.length, .destroy n 0]⟩ = s.log ++ [n] := by
        unfold FS.log
        rw [List.filterMap_append]
        rfl
      have hmem : n ∈ s.log ++ s.shelf := by rw [hsp]; simp
      obtain ⟨_, _, hlt⟩ := live_lt (wk.ok.lv n hmem)
      have hnd := wk.ok.nd
      rw [hsp] at hnd
      have hnl : n ∉ s.log := fun h => (List.nodup_append.mp hnd).2.2 n h n (by simp) rfl
      rcases h with h | h
      · left
        rw [hlog]
        rw [hsp] at h
        show p ∈ (s.log ++ [n]) ++ s.shelf.dropLast
        simp only [List.mem_append, List.mem_singleton] at h ⊢
        rcases h with h | h | h
        · exact .inl (.inl h)
        · exact .inr h
        · exact .inl (.inr h)
      · right
        rw [hlog]
        have h2 := tal_dead (slots := slots) (outs := outs) hlt hnl 1 [] p
        rw [List.append_nil] at h2
        show 1 ≤ tal slots outs (s.log ++ [n]) (kids slots n 1) p
        rw [h2, ← hp]
        exact h
  | cons q rest =>
    have hl := wk.ok.pl q (by rw [hp]; exact List.mem_cons_self)
    obtain ⟨_, _, hlt⟩ := live_lt hl
    have hn := wk.ok.new wk.ho hp
    have hnl : q.node ∉ s.log := fun h => hn (List.mem_append_left _ h)
    have ht : ∀ m, m ≠ q.node → tal slots outs s.log rest m = tal slots outs s.log s.pend m := fun m hm => by rw [hp]; exact tal_pop_other _ _ _ _ _ hm
    unfold stepF at e
    rw [hp] at e
    simp only at e
    by_cases h0 : 0 < tal slots outs s.log rest q.node
    · rw [if_pos h0] at e
      cases Option.some.inj e
      have hlog : FS.log ⟨rest, s.shelf, s.evs ++ [.release q.holder q.slot q.node (tal slots outs s.log rest q.node)]⟩ = s.log := by
        unfold FS.log
        rw [List.filterMap_append]
        exact List.append_nil _
      rcases h with h | h
      · left
        rw [hlog]
        exact h
      · right
        rw [hlog]
        show 1 ≤ tal slots outs s.log rest p
        by_cases hm : p = q.node
        · rw [hm]
          omega
        · rw [ht p hm]
          exact h
    · rw [if_neg h0] at e
      by_cases hd : (q.depth : Int) < lim
      · rw [if_pos hd] at e
        cases Option.some.inj e
        have hlog : FS.log ⟨kids slots q.node (q.depth + 1) ++ rest, s.shelf, s.evs ++ [.release q.holder q.slot q.node (tal slots outs s.log rest q.node), .destroy q.node q.depth]⟩ = s.log ++ [q.node] := by
          unfold FS.log
          rw [List.filterMap_append]
          rfl
        by_cases hm : p = q.node
        · left
          rw [hlog, hm]
          simp
        · rcases h with h | h
          · left
            rw [hlog]
            show p ∈ (s.log ++ [q.node]) ++ s.shelf
            simp only [List.mem_append, List.mem_singleton] at h ⊢
            rcases h with h | h
            · exact .inl (.inl h)
            · exact .inr h
          · right
            rw [hlog]
            show 1 ≤ tal slots outs (s.log ++ [q.node]) (kids slots q.node (q.depth + 1) ++ rest) p
            rw [tal_dead hlt hnl, ht p hm]
            exact h
      · rw [if_neg hd] at e
        cases Option.some.inj e
        have hlog : FS.log ⟨rest, s.shelf ++ [q.node], s.evs ++ [.release q.holder q.slot q.node (tal slots outs s.log rest q.node), .shelve q.node (s.shelf.length + 1)]⟩ = s.log := by
          unfold FS.log
          rw [List.filterMap_append]
          exact List.append_nil _
        by_cases hm : p = q.node
        · left
          rw [hlog, hm]
          show q.node ∈ s.log ++ (s.shelf ++ [q.node])
          simp
        · rcases h with h | h
          · left
            rw [hlog]
            show p ∈ s.log ++ (s.shelf ++ [q.node])
            simp only [List.mem_append, List.mem_singleton] at h ⊢
            rcases h with h | h
            · exact .inl h
            · exact .inr (.inl h)
          · right
            rw [hlog]
            show 1 ≤ tal slots outs s.log rest p
            rw [ht p hm]
            exact h
theorem TPs.steps {p : Nat} {s s' : FS} (wk : Wk slots outs s) (h : Steps slots outs lim s s') (t : TPs slots outs p s) : TPs slots outs p s' ∧ Wk slots outs s' := by
  obtain ⟨n, hn⟩ := h
  have key : ∀ (n : Nat) (s' : FS), run slots outs lim n s = some s' → Wk slots outs s' ∧ TPs slots outs p s' := by
    intro n
    induction n with
    | zero => intro s' e; cases Option.some.inj (e : some s = some s'); exact ⟨wk, t⟩
    | succ n ih =>
      intro s' e
      have e : (run slots outs lim n s).bind (stepF slots outs lim) = some s' := e
      cases er : run slots outs lim n s with
      | none => rw [er] at e; cases e
      | some v =>
        rw [er] at e
        obtain ⟨w1, w2⟩ := ih v er
        exact ⟨w1.step e, w2.step w1 e⟩
  exact ⟨(key n s' hn).2, (key n s' hn).1⟩
theorem wk_of_steps {s s' : FS} (wk : Wk slots outs s) (h : Steps slots outs lim s s') : Wk slots outs s' := by
  have := TPs.steps (p := 0) (s := s) (s' := s') wk h
  obtain ⟨n, hn⟩ := h
  have key : ∀ (n : Nat) (s' : FS), run slots outs lim n s = some s' → Wk slots outs s' := by
    intro n
    induction n with
    | zero => intro s' e; cases Option.some.inj (e : some s = some s'); exact wk
    | succ n ih =>
      intro s' e
      have e : (run slots outs lim n s).bind (stepF slots outs lim) = some s' := e
      cases er : run slots outs lim n s with
      | none => rw [er] at e; cases e
      | some v =>
        rw [er] at e
        exact (ih v er).step e
  exact key n s' hn
/-- counted in a heap as it is -/
theorem tal_here (S : List (Option Rw)) (L : List Nat) (p : Nat) : tal (afterS S L) outs [] [] p = tal S outs L [] p := by
  rw [tal_after, List.append_nil]
structure FinP (S : List (Option Rw)) (outs : List Int) (node : Nat) (row : Rw) (i : Nat) (b : Int) (E : List Ev) : Prop where
  wf : WfB b (afterS (slotN S node row i) (FS.log ⟨[], [], E⟩)) outs
  nd : (FS.log ⟨[], [], E⟩).Nodup
  lv : ∀ n ∈ FS.log ⟨[], [], E⟩, isLive S n = true
theorem slotN_live {S : List (Option Rw)} {node : Nat} {row : Rw} (er : S[node]? = some (some row)) (i m : Nat) : isLive (slotN S node row i) m = isLive S m := by
  by_cases e : m = node
  · subst e
    simp [isLive, slotN_at er, er]
  · unfold isLive slotN
    rw [List.getElem?_set_ne (Ne.symm e)]
theorem after_live (S : List (Option Rw)) (L : List Nat) (m : Nat) : isLive (afterS S L) m = true ↔ isLive S m = true ∧ m ∉ L := by
  unfold isLive afterS
  rw [List.getElem?_map]
  by_cases hm : m < S.length
  · rw [List.getElem?_range hm]
    simp only [Option.map_some, Option.getD_some]
    by_cases e : m ∈ L
    · simp [e]
    · simp [e]
  · rw [List.getElem?_eq_none (by rw [List.length_range]; omega), List.getElem?_eq_none (by omega)]
    simp
/-- a drop from a heap as it is -/
theorem drop_keeps {S : List (Option Rw)} {o1 : List Int} {b : Int} (wf : WfB b S o1) {k : Nat} {e : List Ev} (wk : Wk S o1 ⟨[⟨none, none, k, 0⟩], [], []⟩) (h : Steps S o1 lim ⟨[⟨none, none, k, 0⟩], [], []⟩ ⟨[], [], e⟩) :
    WfB b (afterS S (FS.log ⟨[], [], e⟩)) o1 ∧ Wk S o1 ⟨[], [], e⟩ ∧ ∀ p, 1 ≤ tal S o1 [] [⟨none, none, k, 0⟩] p → p ∈ FS.log ⟨[], [], e⟩ ∨ 1 ≤ tal S o1 (FS.log ⟨[], [], e⟩) [] p := by
  have wk2 := wk_of_steps wk h
  refine ⟨wf_after wf wk2 rfl wf.len (fun z hz => (wf.outs z hz).2) (fun m hm => wf.free m hm), wk2, fun p hp => ?_⟩
  rcases (TPs.steps (p := p) wk h (.inr hp)).1 with h | h
  · left
    rwa [show FS.log ⟨[], [], e⟩ ++ [] = FS.log ⟨[], [], e⟩ from List.append_nil _] at h
  · exact .inr h
theorem wk_live {S : List (Option Rw)} {o1 : List Int} {s : FS} (wk : Wk S o1 s) : ∀ n ∈ s.log, isLive S n = true := fun n hn => wk.ok.lv n (List.mem_append_left _ hn)
theorem chain_props {S : List (Option Rw)} {o1 : List Int} {b : Int} (wf : WfB b S o1) {node : Nat} {row : Rw} (er : S[node]? = some (some row)) {z : Int} (hz : o1[node]? = some z) (h1 : 1 ≤ z) :
    ∀ {i : Nat} {E : List Ev}, i ≤ row.length → ChainA S o1 lim node row i E → FinP S o1 node row i b E ∧ node ∉ FS.log ⟨[], [], E⟩ ∧ ∀ p, 1 ≤ tal S o1 [] [] p → p ∈ FS.log ⟨[], [], E⟩ ∨ 1 ≤ tal (slotN S node row i) o1 (FS.log ⟨[], [], E⟩) [] p
  | 0, E, _, h => by
    rw [show E = [] from h]
    have hl : FS.log ⟨[], [], []⟩ = [] := rfl
    rw [hl]
    refine ⟨⟨?_, by rw [hl]; exact List.nodup_nil, by rw [hl]; simp⟩, by simp, fun p hp => .inr ?_⟩
    · rw [hl, slotN_zero er, afterS_nil]
      exact wf
    · rw [slotN_zero er]
      exact hp
  | i + 1, E, hi, h => by
    obtain ⟨E0, e, h0, rfl, he⟩ := h
    obtain ⟨⟨wfi, nd0, lv0⟩, hnd, tp0⟩ := chain_props wf er hz h1 (by omega) h0
    have hir : i < row.length := by omega
    have hri : i < (rowN row i).length := by rw [rowN_len (Nat.le_of_lt hir)]; exact hir
    have heq : (rowN row i)[i] = row[i] := by
      have := rowN_at hir
      rw [List.getElem?_eq_getElem hri] at this
      exact Option.some.inj this
    have hat := after_at (slotN_at er i) hnd
    have wfp := wf_put (tgt := none) wfi hat hri (fun t e => (by cases e))
    have hcnt : ∀ m, cntH (putS (afterS (slotN S node row i) (FS.log ⟨[], [], E0⟩)) node i none) [] m + (if (rowN row i)[i] = some m then 1 else 0) = cntH (afterS (slotN S node row i) (FS.log ⟨[], [], E0⟩)) [] m := fun m => by
      have := cntH_put (tgt := none) hat hri (log := []) (by simp) m
      simpa using this
    have hlive : ∀ q, row[i] = some q → isLive (putS (afterS (slotN S node row i) (FS.log ⟨[], [], E0⟩)) node i none) q = true := fun q e => by
      rw [putS_live hat]
      obtain ⟨r, h⟩ := wfi.live _ (List.mem_of_getElem? hat) q (by rw [← e, ← heq]; exact List.getElem_mem hri)
      simp [isLive, h]
    rw [putS_after er hir hnd] at wfp hcnt hlive
    rw [heq] at hcnt
    rw [List.getElem?_eq_getElem hir] at he
    have hll : FS.log ⟨[], [], E0 ++ e⟩ = FS.log ⟨[], [], E0⟩ ++ FS.log ⟨[], [], e⟩ := log_of _ _
    have tp1 : ∀ p, 1 ≤ tal S o1 [] [] p → p ∈ FS.log ⟨[], [], E0⟩ ∨ 1 ≤ tal (afterS (slotN S node row i) (FS.log ⟨[], [], E0⟩)) o1 [] [] p := fun p hp => by
      rcases tp0 p hp with h | h
      · exact .inl h
      · exact .inr (by rw [tal_here]; exact h)
    cases hc : row[i] with
    | none =>
      rw [hc] at he hcnt
      have he : e = [] := he
      subst he
      rw [List.append_nil]
      refine ⟨⟨wfp, nd0, lv0⟩, hnd, fun p hp => ?_⟩
      rcases tp1 p hp with h | h
      · exact .inl h
      · right
        rw [← tal_here]
        have := hcnt p
        simp only [reduceCtorEq, if_false, Nat.add_zero] at this
        unfold tal at h ⊢
        rw [this]
        exact h
    | some q =>
      rw [hc] at he hcnt
      have he : Steps _ _ _ ⟨[⟨none, none, q, 0⟩], [], []⟩ ⟨[], [], e⟩ := he
      obtain ⟨w1, w2, w3⟩ := drop_keeps wfp (wk_hold wfp (hlive q hc)) he
      have hnd2 := nd_app w2 nd0 (fun n hn => by
        obtain ⟨_, _, hlt⟩ := live_lt (lv0 n hn)
        rw [slotN_len]
        exact hlt)
      have hne : node ∉ FS.log ⟨[], [], e⟩ := not_dead w2 hz h1
      refine ⟨⟨?_, ?_, ?_⟩, ?_, fun p hp => ?_⟩
      · rw [hll, ← afterS_afterS]
        exact w1
      · rw [hll]
        exact hnd2.1
      · rw [hll]
        intro n hn
        rcases List.mem_append.mp hn with hn | hn
        · exact lv0 n hn
        · have := ((after_live _ _ n).mp (wk_live w2 n hn)).1
          rwa [slotN_live er] at this
      · rw [hll]
        intro h
        rcases List.mem_append.mp h with h | h
        · exact hnd h
        · exact hne h
      · rw [hll]
        rcases tp1 p hp with h | h
        · exact .inl (List.mem_append_left _ h)
        · have h9 : 1 ≤ tal (afterS (slotN S node row (i + 1)) (FS.log ⟨[], [], E0⟩)) o1 [] [⟨none, none, q, 0⟩] p := by
            have := hcnt p
            unfold tal at h ⊢
            rw [pendC_cons]
            have e0 : pendC [] p = 0 := rfl
            rw [e0] at h ⊢
            by_cases hqp : q = p
            · subst hqp
              simp only [if_true] at this ⊢
              omega
            · simp only [Option.some.injEq, hqp, if_false, Nat.add_zero] at this ⊢
              omega
          rcases w3 p h9 with h | h
          · exact .inl (List.mem_append_right _ h)
          · right
            rw [tal_after] at h
            exact h
theorem fin_props {S : List (Option Rw)} {b : Int} (wf : WfB b S outs) {node : Nat} {row : Rw} (er : S[node]? = some (some row)) {z : Int} (hz : outs[node]? = some z) {E : List Ev} (h : FinA S outs (outs.set node (z + 1)) lim node row E) :
    FinP S outs node row row.length b E ∧ ∀ p, (p = node ∨ 1 ≤ tal S outs [] [] p) → p ∈ FS.log ⟨[], [], E⟩ ∨ 1 ≤ tal (slotN S node row row.length) outs (FS.log ⟨[], [], E⟩) [] p := by
  have hnl := (List.getElem?_eq_some_iff.mp hz).1
  have hz0 := (wf.outs z (List.mem_of_getElem? hz)).1
  have hlive : isLive S node = true := by simp [isLive, er]
  have bE : bump outs (some node) = outs.set node (z + 1) := by
    show outs.set node ((outs[node]?).getD 0 + 1) = _
    rw [hz]
    rfl
  have wf1 : WfB (b + 1) S (outs.set node (z + 1)) := by
    rw [← bE]
    exact wf_bump wf hlive
  have hz1 : (outs.set node (z + 1))[node]? = some (z + 1) := List.getElem?_set_self hnl
  obtain ⟨E0, e, hch, rfl, he⟩ := h
  obtain ⟨⟨wfi, nd0, lv0⟩, hnd, tp0⟩ := chain_props wf1 er hz1 (by omega) (Nat.le_refl _) hch
  have hback : (outs.set node (z + 1)).set node (z + 1 - 1) = outs := by
    rw [List.set_set]
    refine List.ext_getElem? fun i => ?_
    by_cases e : node = i
    · subst e
      rw [List.getElem?_set_self hnl, hz]
      congr 1
      omega
    · rw [List.getElem?_set_ne e]
  have hat := after_at (slotN_at er row.length) hnd
  have hlN : isLive (afterS (slotN S node row row.length) (FS.log ⟨[], [], E0⟩)) node = true := by simp [isLive, hat]
  have wk0 := wk_first wfi hz1 (by omega) hlN
  rw [hback] at wk0
  have wfb : WfB b (afterS (slotN S node row row.length) (FS.log ⟨[], [], E0⟩)) outs := by
    refine ⟨by have := wfi.len; rw [List.length_set] at this; exact this, wfi.most, fun m hm => ?_, wf.outs, wfi.row, wfi.live⟩
    have h9 := wfi.free m hm
    by_cases e : node = m
    · subst e
      rw [hat] at hm
      cases hm
    · rwa [List.getElem?_set_ne e] at h9
  have he : Steps _ _ _ ⟨[⟨none, none, node, 0⟩], [], []⟩ ⟨[], [], e⟩ := he
  obtain ⟨w1, w2, w3⟩ := drop_keeps wfb wk0 he
  have hll : FS.log ⟨[], [], E0 ++ e⟩ = FS.log ⟨[], [], E0⟩ ++ FS.log ⟨[], [], e⟩ := log_of _ _
  have hnd2 := nd_app w2 nd0 (fun n hn => by
    obtain ⟨_, _, hlt⟩ := live_lt (lv0 n hn)
    rw [slotN_len]
    exact hlt)
  refine ⟨⟨?_, ?_, ?_⟩, fun p hp => ?_⟩
  · rw [hll, ← afterS_afterS]
    exact w1
  · rw [hll]
    exact hnd2.1
  · rw [hll]
    intro n hn
    rcases List.mem_append.mp hn with hn | hn
    · exact lv0 n hn
    · have := ((after_live _ _ n).mp (wk_live w2 n hn)).1
      rwa [slotN_live er] at this
  · rw [hll]
    have hb : ∀ m, tal S (outs.set node (z + 1)) [] [] m = tal S outs [] [] m + (if node = m then 1 else 0) := fun m => by
      unfold tal
      by_cases e : node = m
      · subst e
        rw [hz1, hz]
        simp only [Option.getD_some, if_true]
        omega
      · rw [List.getElem?_set_ne e, if_neg e]
        omega
    have h1 : 1 ≤ tal S (outs.set node (z + 1)) [] [] p := by
      rw [hb]
      rcases hp with rfl | hp
      · have := tal_nonneg (slots := S) (outs := outs) (fun z hz => (wf.outs z hz).1) [] [] p
        rw [if_pos rfl]
        have e0 : pendC [] p = 0 := rfl
        omega
      · split <;> omega
    rcases tp0 p h1 with h | h
    · exact .inl (List.mem_append_left _ h)
    · have h9 : 1 ≤ tal (afterS (slotN S node row row.length) (FS.log ⟨[], [], E0⟩)) outs [] [⟨none, none, node, 0⟩] p := by
        rw [← tal_here] at h
        unfold tal at h ⊢
        rw [pendC_cons]
        have e0 : pendC [] p = 0 := rfl
        rw [e0] at h ⊢
        by_cases e : node = p
        · subst e
          rw [hz1] at h
          rw [hz]
          simp only [Option.getD_some, if_true] at h ⊢
          omega
        · rw [List.getElem?_set_ne e] at h
          simp only [e, if_false]
          omega
      rcases w3 p h9 with h | h
      · exact .inl (List.mem_append_right _ h)
      · right
        rw [tal_after] at h
        exact h
/-- the heap T and the events E behind the emptying of the nodes of a list, the last one first -/
def Coll (slots : List (Option Rw)) (outs : List Int) (lim : Int) : List Nat → List (Option Rw) → List Ev → Prop
  | [], T, E => T = slots ∧ E = []
  | n :: r, T', E' => ∃ T E, Coll slots outs lim r T E ∧ (((Reach slots outs n ∨ isLive T n = false) ∧ T' = T ∧ E' = E) ∨
      (¬ Reach slots outs n ∧ ∃ (row : Rw) (z : Int) (e : List Ev), T[n]? = some (some row) ∧ outs[n]? = some z ∧ FinA T outs (outs.set n (z + 1)) lim n row e ∧ T' = afterS (slotN T n row row.length) (FS.log ⟨[], [], e⟩) ∧ E' = E ++ e))
theorem Coll.det : ∀ {r : List Nat} {T T' : List (Option Rw)} {E E' : List Ev}, Coll slots outs lim r T E → Coll slots outs lim r T' E' → T = T' ∧ E = E'
  | [], _, _, _, _, h, g => ⟨h.1.trans g.1.symm, h.2.trans g.2.symm⟩
  | n :: r, T, T', E, E', h, g => by
    obtain ⟨T1, E1, h1, h2⟩ := h
    obtain ⟨T2, E2, g1, g2⟩ := g
    obtain ⟨rfl, rfl⟩ := h1.det g1
    have dead : ∀ {row : Rw}, isLive T1 n = false → T1[n]? = some (some row) → False := fun h h2 => by simp [isLive, h2] at h
    rcases h2 with ⟨c1, rfl, rfl⟩ | ⟨c1, row, z, e, a1, a2, a3, rfl, rfl⟩
    · rcases g2 with ⟨d1, rfl, rfl⟩ | ⟨d1, row, z, e, b1, b2, b3, rfl, rfl⟩
      · exact ⟨rfl, rfl⟩
      · rcases c1 with c1 | c1
        · exact absurd c1 d1
        · exact (dead c1 b1).elim
    · rcases g2 with ⟨d1, rfl, rfl⟩ | ⟨d1, row', z', e', b1, b2, b3, rfl, rfl⟩
      · rcases d1 with d1 | d1
        · exact absurd d1 c1
        · exact (dead d1 a1).elim
      · rw [a1] at b1
        cases b1
        rw [a2] at b2
        cases b2
        rw [a3.det b3]
        exact ⟨rfl, rfl⟩
structure CI (slots : List (Option Rw)) (outs : List Int) (r : List Nat) (T : List (Option Rw)) (E : List Ev) : Prop where
  wf : Wf T outs
  len : T.length = slots.length
  rc : ∀ h, Reach slots outs h → T[h]? = slots[h]?
  nul : ∀ h ∈ r, ¬ Reach slots outs h → ∀ x ∈ rowOf T h, x = none
  tp : ∀ p ∈ r, ¬ Reach slots outs p → isLive T p = true → 1 ≤ tal T outs [] [] p
  nd : (FS.log ⟨[], [], E⟩).Nodup
  mem : ∀ p, p ∈ FS.log ⟨[], [], E⟩ ↔ isLive slots p = true ∧ isLive T p = false
  lv : ∀ p, isLive T p = true → isLive slots p = true
theorem rowOf_slotN {S : List (Option Rw)} {node : Nat} {row : Rw} (er : S[node]? = some (some row)) (h : Nat) : rowOf (slotN S node row row.length) h = if h = node then rowN row row.length else rowOf S h := by
  by_cases e : h = node
  · subst e
    rw [if_pos rfl, rowOf_some (slotN_at er _)]
  · rw [if_neg e]
    unfold rowOf slotN
    rw [List.getElem?_set_ne (Ne.symm e)]
theorem rowN_all (row : Rw) : ∀ x ∈ rowN row row.length, x = none := fun x hx => by
  unfold rowN at hx
  rw [List.drop_length, List.append_nil] at hx
  exact List.eq_of_mem_replicate hx
theorem rowOf_out {S : List (Option Rw)} {h : Nat} (hh : ¬ h < S.length) : rowOf S h = [] := by
  unfold rowOf
  rw [List.getElem?_eq_none (by omega)]
  rfl
theorem Coll.ci (wf : Wf slots outs) : ∀ {r : List Nat} {T : List (Option Rw)} {E : List Ev}, Coll slots outs lim r T E → CI slots outs r T E
  | [], _, _, h => by
    obtain ⟨rfl, rfl⟩ := h
    refine ⟨wf, rfl, fun _ _ => rfl, by simp, by simp, List.nodup_nil, fun p => ?_, fun p h => h⟩
    have hl : FS.log ⟨[], [], []⟩ = [] := rfl
    rw [hl]
    simp
  | n :: r, T', E', h => by
    obtain ⟨T, E, h1, h2⟩ := h
    have ci := Coll.ci wf h1
    rcases h2 with ⟨c1, rfl, rfl⟩ | ⟨c1, row, z, e, a1, a2, a3, rfl, rfl⟩
    · refine ⟨ci.wf, ci.len, ci.rc, fun h hh hr => ?_, fun p hp hr hl => ?_, ci.nd, ci.mem, ci.lv⟩
      · rcases List.mem_cons.mp hh with rfl | hh
        · rcases c1 with c1 | c1
          · exact absurd c1 hr
          · intro x hx
            have : rowOf T' h = [] := by
              unfold isLive at c1
              unfold rowOf
              cases e : (T'[h]?).getD none with
              | none => rfl
              | some _ => rw [e] at c1; cases c1
            rw [this] at hx
            cases hx
        · exact ci.nul h hh hr
      · rcases List.mem_cons.mp hp with rfl | hp
        · rcases c1 with c1 | c1
          · exact absurd c1 hr
          · rw [c1] at hl
            cases hl
        · exact ci.tp p hp hr hl
    · obtain ⟨⟨wfT, nd, lv⟩, tp⟩ := fin_props ci.wf a1 a2 a3
      have hln := fun m => after_live (slotN T n row row.length) (FS.log ⟨[], [], e⟩) m
      have hrow : ∀ h x, x ∈ rowOf (afterS (slotN T n row row.length) (FS.log ⟨[], [], e⟩)) h → x ∈ rowOf (slotN T n row row.length) h := fun h x hx => by
        by_cases hh : h < (slotN T n row row.length).length
        · rw [rowOf_after hh] at hx
          split at hx
          · cases hx
          · exact hx
        · rw [rowOf_out (by rw [afterS_len]; exact hh)] at hx
          cases hx
      have hat : ∀ m, m < T.length → (afterS (slotN T n row row.length) (FS.log ⟨[], [], e⟩))[m]? = some (if m ∈ FS.log ⟨[], [], e⟩ then none else ((slotN T n row row.length)[m]?).getD none) := fun m hm => by
        unfold afterS
        rw [List.getElem?_map, slotN_len, List.getElem?_range hm]
        rfl
      have rcN : ∀ h, Reach slots outs h → (afterS (slotN T n row row.length) (FS.log ⟨[], [], e⟩))[h]? = slots[h]? := by
        have key : ∀ h, Reach slots outs h → h ∉ FS.log ⟨[], [], e⟩ → (afterS (slotN T n row row.length) (FS.log ⟨[], [], e⟩))[h]? = slots[h]? := fun h hr hn => by
          have hne : h ≠ n := fun e => c1 (e ▸ hr)
          obtain ⟨r0, e0, hlt⟩ := live_lt (Reach.live wf hr)
          rw [hat h (by rw [ci.len]; exact hlt), if_neg hn]
          unfold slotN
          rw [List.getElem?_set_ne (Ne.symm hne), ci.rc h hr, e0]
          rfl
        intro h hr
        induction hr with
        | @src m z' m1 m2 m3 =>
          refine key m (.src m1 m2 m3) fun hm => ?_
          obtain ⟨_, _, hlt⟩ := live_lt m1
          have hf := wfT.free m (by rw [hat m (by rw [ci.len]; exact hlt), if_pos hm])
          rw [m2] at hf
          have := Option.some.inj hf
          omega
        | @step h' m hr' hm ih =>
          refine key m (.step hr' hm) fun hmm => ?_
          obtain ⟨r0, e0, _⟩ := live_lt (Reach.live wf hr')
          rw [rowOf_some e0] at hm
          obtain ⟨r1, e1⟩ := wfT.live r0 (List.mem_of_getElem? (ih.trans e0)) m hm
          have : isLive (afterS (slotN T n row row.length) (FS.log ⟨[], [], e⟩)) m = true := by simp [isLive, e1]
          exact ((hln m).mp this).2 hmm
      have hlog : FS.log ⟨[], [], E ++ e⟩ = FS.log ⟨[], [], E⟩ ++ FS.log ⟨[], [], e⟩ := log_of _ _
      refine ⟨wfT, by rw [afterS_len, slotN_len]; exact ci.len, rcN, fun h hh hr x hx => ?_, fun p hp hr hl => ?_, ?_, fun p => ?_, fun p hp => ?_⟩
      · have hx2 := hrow h x hx
        rw [rowOf_slotN a1] at hx2
        by_cases hn : h = n
        · rw [if_pos hn] at hx2
          exact rowN_all row x hx2
        · rw [if_neg hn] at hx2
          rcases List.mem_cons.mp hh with hh | hh
          · exact absurd hh hn
          · exact ci.nul h hh hr x hx2
      · obtain ⟨hl1, hl2⟩ := (hln p).mp hl
        rw [slotN_live a1] at hl1
        rw [tal_here]
        have : p = n ∨ 1 ≤ tal T outs [] [] p := by
          rcases List.mem_cons.mp hp with rfl | hp
          · exact .inl rfl
          · exact .inr (ci.tp p hp hr hl1)
        exact (tp p this).resolve_left hl2
      · rw [hlog]
        refine List.nodup_append.mpr ⟨ci.nd, nd, fun a ha b hb e => ?_⟩
        subst e
        have h3 := ((ci.mem a).mp ha).2
        rw [lv a hb] at h3
        cases h3
      · rw [hlog, List.mem_append, ci.mem]
        constructor
        · rintro (⟨h3, h4⟩ | h3)
          · refine ⟨h3, ?_⟩
            cases h5 : isLive (afterS (slotN T n row row.length) (FS.log ⟨[], [], e⟩)) p with
            | false => rfl
            | true =>
              have := ((hln p).mp h5).1
              rw [slotN_live a1, h4] at this
              cases this
          · refine ⟨ci.lv p (lv p h3), ?_⟩
            cases h5 : isLive (afterS (slotN T n row row.length) (FS.log ⟨[], [], e⟩)) p with
            | false => rfl
            | true => exact absurd h3 ((hln p).mp h5).2
        · rintro ⟨h3, h4⟩
          cases h5 : isLive T p with
          | false => exact .inl ⟨h3, rfl⟩
          | true =>
            right
            by_cases h6 : p ∈ FS.log ⟨[], [], e⟩
            · exact h6
            · have := (hln p).mpr ⟨by rw [slotN_live a1]; exact h5, h6⟩
              rw [h4] at this
              cases this
      · have := ((hln p).mp hp).1
        rw [slotN_live a1] at this
        exact ci.lv p this
/-- what is destroyed in the end: what cannot be reached -/
theorem CI.all {r : List Nat} {T : List (Option Rw)} {E : List Ev} (wf : Wf slots outs) (c : CI slots outs r T E) (hr : ∀ p, isLive slots p = true → p ∈ r) (p : Nat) : p ∈ FS.log ⟨[], [], E⟩ ↔ isLive slots p = true ∧ ¬ Reach slots outs p := by
  rw [c.mem]
  constructor
  · rintro ⟨h1, h2⟩
    refine ⟨h1, fun h => ?_⟩
    have h3 := c.rc p h
    unfold isLive at h1 h2
    rw [h3, h1] at h2
    cases h2
  · rintro ⟨h1, h2⟩
    refine ⟨h1, ?_⟩
    cases h3 : isLive T p with
    | false => rfl
    | true =>
      exfalso
      have h4 := c.tp p (hr p h1) h2 h3
      obtain ⟨_, _, hlt⟩ := live_lt h1
      have hol := c.wf.len
      have hpl : p < outs.length := by rw [hol, c.len]; exact hlt
      have hpo : outs[p]? = some outs[p] := List.getElem?_eq_getElem hpl
      have hz : ¬ 0 < outs[p] := fun h => h2 (.src h1 hpo h)
      unfold tal at h4
      rw [hpo] at h4
      have e0 : pendC [] p = 0 := rfl
      simp only [Option.getD_some, e0] at h4
      have h5 : cntH T [] p ≠ 0 := by omega
      refine h5 (List.sum_eq_zero_iff_forall_eq_nat.mpr fun x hx => ?_)
      obtain ⟨h, hh, rfl⟩ := List.mem_map.mp hx
      rw [if_neg (by simp), List.count_eq_zero]
      intro hm
      by_cases hR : Reach slots outs h
      · have h6 : rowOf T h = rowOf slots h := by
          unfold rowOf
          rw [c.rc h hR]
        rw [h6] at hm
        exact h2 (.step hR hm)
      · have hlh : isLive T h = true := by
          cases e : isLive T h with
          | true => rfl
          | false =>
            have : rowOf T h = [] := by
              unfold isLive at e
              unfold rowOf
              cases e2 : (T[h]?).getD none with
              | none => rfl
              | some _ => rw [e2] at e; cases e
            rw [this] at hm
            cases hm
        exact absurd (c.nul h (hr h (c.lv h hlh)) hR _ hm) (by simp)
end


local macro_rules | `(tactic| walk_at "ml") => `(tactic| exact mf_empty ..) --keep
section
variable {P : Program} {w : World} {K : PySem.W.Frag} {mg : Str → Option Value} {base : Heap}

theorem MS.root {slots : List (Option Rw)} {C : Addr} {H1 H : Hp} {p dx aS aO aR aE aH aV : Addr} {ra : Nat → Addr} {lim : Int} {outs : List Int} {tf : Nat → Int} {log : List Nat} {pend : List Pd} {shelf : List Nat} {evs : List Ev}
    (ms : MS slots C H1 p dx aS aO aR aE aH aV ra lim) (md : MD slots H1 H aS aO aR aE aH aV ra outs tf log pend shelf evs) : MS slots C H p dx aS aO aR aE aH aV ra lim ∧ MD slots H H aS aO aR aE aH aV ra outs tf log pend shelf evs :=
  ⟨⟨md.k _ _ ms.pW ms.ins, fun i row hi => ⟨md.k _ _ (ms.rows i row hi).2 (ms.rows i row hi).1, (ms.rows i row hi).2⟩, ms.dis, ms.pW, ms.inj⟩, ⟨Kx.refl _ _, md.eS, md.eO, md.eR, md.eE, md.eH, md.eV⟩⟩
def spRunColl (K : PySem.W.Frag) (C : Addr) : Sp := fun vs H Q _ => ∃ (D N : Addr) (slots : List (Option Rw)) (outs : List Int) (ns : List Nat) (lim : Int), vs = [.ref D, .ref N, .int lim] ∧ HeapT K H D slots outs ∧ Wf slots outs ∧ SqL K H N (ns.map fun m : Nat => V.int m) ∧ (∀ n ∈ ns, isLive slots n = true) ∧ ns.length ≤ 40 ∧ 0 < lim ∧
  ∀ S H1 p dx aS aO aR aE aH aV ra tf E H3, MS S C H1 p dx aS aO aR aE aH aV ra lim → MD S H1 H3 aS aO aR aE aH aV ra outs tf (FS.log ⟨[], [], E⟩) [] [] E → S.length = slots.length → E.length ≤ 90000 → Coll slots outs lim ns.reverse (afterS S (FS.log ⟨[], [], E⟩)) E → Kx [] H H3 → Q (.ref p) H3
theorem ok_runColl {C : Addr} {f : Addr} {fd : FuncData} (F : Fun K "run_collect" "run_collect" sRunCollect f fd) (T : Txt mg) (hC : ClR K C) (cR : Cls K C) (l_reachable : Lo P w K mg base "reachable" 3 ["heap"] (spReach K))
    (n_Releasing : Ln P w K mg base C "Releasing" 3 ["self", "heap", "limit"] (spMInit K C)) (m_empty : Lm P w K mg base C "empty" 6 ["self", "node"] (spEmpty K C)) : FnOk P w K mg base CX0 7 f fd ["heap", "nodes", "limit"] (spRunColl K C) := by
  refine F.ok scRunCollect (fun vs H Q E h => ?_) (fun cdv A outer s H vs Q E hr h => ?_)
  · obtain ⟨D, N, slots, outs, ns, lim, rfl, _⟩ := h
    rfl
  · obtain ⟨D, N, slots, outs, ns, lim, rfl, hT, wf, hN, hnl, hn40, hlim, k⟩ := h
    have hmu : FS.mu slots ⟨[], [], []⟩ ≤ 40 * 42 := left_nil_le wf.most wf.row
    refine ⟨_, (pss_cons (ps_set (i := 3) scRunCollect.nd rfl (Or.inl rfl) (pe_lo l_reachable (hr.mono (by decide)) (by rfl) (pa_cons (pv 0) pa_nil)))
      (pss_cons (ps_set (i := 4) scRunCollect.nd rfl (Or.inl rfl) (pe_ln n_Releasing (hr.mono (by decide)) (by rfl) (pa_cons (pv 0) (pa_cons (pv 2) pa_nil))))
      (pss_cons (ps_for PassesOwn.never rfl (pi_list (pv 1)) (pg_name (i := 5) scRunCollect.nd rfl (Or.inl rfl))
      (pss_one (ps_if (PW.pt (pw_and (pt_cmpR op_notIn_seq (pv 5) (pv 3) (by with_unfolding_all rfl)) (pw_and1 (pt_cmpR op_notN1 (pe_ix ix_list (pe_fld (pv 4) rfl) (pv 5) (fun _ _ => rfl)) pe_non (nomark _))))) (pss_one (ps_expr (pe_lm m_empty cR (hr.mono (by decide)) (pv 4) (pa_cons (pv 5) pa_nil)))) pss_nil)))
      (pss_one (ps_ret (pv 4)))))), ?_⟩
    refine x_start (σ' := [some (.ref D), some (.ref N), some (.int lim), none, none, none]) rfl ?_
    try dsimp only [cxOf]
    repeat walk_at "rd"
    refine ⟨D, slots, outs, rfl, hT, wf, fun fo H0 ks nfo k0 efo hks => ?_⟩
    have hT0 := hT.keep k0
    have hN0 := k0.sqL (by simp) hN
    repeat walk_at "rd"
    intro p dx np ndx ndp
    have np2 : (upd H0 dx (.own p)) p = none := by rw [upd_ne ndp.symm]; exact np
    have kk : Kx [] H0 (upd (upd H0 dx (.own p)) p (.ins C dx [])) := ((Kx.refl [] H0).new ndx).new np2
    refine ⟨p, dx, D, slots, outs, lim, rfl, upd_same, hT0.keep kk, wf, hC, fun H2 aS aO aR aE aH aV ra ms md k2 hnew hra => ⟨rfl, ?_⟩⟩
    have hnp : ∀ b o, H0 b = some o → b ∉ [aS, aO, aR, aE, aH, aV] := fun b o e h => by
      have e1 := kk b o (by simp) e
      rw [hnew b h] at e1
      cases e1
    have hnr : ∀ b o (i : Nat) (r : Rw), H0 b = some o → slots[i]? = some (some r) → b ≠ ra i := fun b o i r e er h => by
      have e1 := kk b o (by simp) e
      rw [h, hra i r er] at e1
      cases e1
    have kA : Kx [] H0 H2 := fun b o hb e => k2 b o (fun h => by rw [List.mem_singleton.mp h, np] at e; cases e) (kk b o hb e)
    clear k2 hnew hra kk
    repeat walk_at "rd"
    refine y_forL (xs := ns.map fun m : Nat => V.int m) (kA.sqL (by simp) hN0) ⟨fun i σ Hi => ∃ (S : List (Option Rw)) (H3 : Hp) (E : List Ev) (y5 : Option V), σ = [some (.ref D), some (.ref N), some (.int lim), some (.ref fo), some (.ref p), y5] ∧ MS S C H3 p dx aS aO aR aE aH aV ra lim ∧
      MD S H3 Hi aS aO aR aE aH aV ra outs (tal S outs (FS.log ⟨[], [], E⟩) []) (FS.log ⟨[], [], E⟩) [] [] E ∧ Wk S outs ⟨[], [], E⟩ ∧ Coll slots outs lim (ns.take i).reverse (afterS S (FS.log ⟨[], [], E⟩)) E ∧ S.length = slots.length ∧ (∀ m, isLive S m = isLive slots m) ∧ (∀ row, some row ∈ S → row.length ≤ 40) ∧
      E.length + 2 * FS.mu S ⟨[], [], E⟩ ≤ 3360 + 90 * i ∧ Kx [] H0 Hi, ?_, ?_, ?_, ?_⟩
    · refine ⟨slots, H2, [], none, rfl, ms, md, wk_zero wf, ?_, rfl, fun _ => rfl, wf.row, ?_, kA⟩
      · exact ⟨afterS_nil slots, rfl⟩
      · show 0 + 2 * FS.mu slots ⟨[], [], []⟩ ≤ 3360 + 90 * 0
        omega
    · rintro i σ Hi hi ⟨S, H3, E, y5, rfl, ms3, md3, wk3, hco, hSl, hlv, hrl, hsz, ki⟩
      exact ki.sqL (by simp) hN0
    · rintro i x σ Hi Hi' hi ⟨S, H3, E, y5, rfl, ms3, md3, wk3, hco, hSl, hlv, hrl, hsz, ki⟩ ⟨rfl, hx⟩
      rw [List.length_map] at hi
      replace hx : (ns.map fun m : Nat => V.int m)[i]? = some x := hx
      rw [List.getElem?_map, List.getElem?_eq_getElem hi] at hx
      cases Option.some.inj hx
      have htk : (ns.take (i + 1)).reverse = ns[i] :: (ns.take i).reverse := by
        rw [List.take_add_one, List.getElem?_eq_getElem hi, List.reverse_append]
        rfl
      have hlive := hnl _ (List.getElem_mem hi)
      generalize ns[i] = node at *
      have efoi := ki fo _ (by simp) efo
      obtain ⟨ms4, md4⟩ := ms3.root md3
      have hins := ms4.ins
      have eS := md4.eS
      obtain ⟨r0, er0, hlt⟩ := live_lt hlive
      have hltS : node < S.length := by rw [hSl]; exact hlt
      have atS : atI ((List.range S.length).map (slotR S ra (FS.log ⟨[], [], E⟩))) (node : Int) = some (slotR S ra (FS.log ⟨[], [], E⟩) node) := range_at hltS
      have hin : inV (.int (node : Int)) (ks.map V.int) = decide ((node : Int) ∈ ks) := in_int ks
      have hRk : (node : Int) ∈ ks ↔ Reach slots outs node := by
        rw [hks.mem]
        constructor
        · rintro ⟨m, hm, h⟩
          have : m = node := by omega
          exact this ▸ h
        · exact fun h => ⟨node, rfl, h⟩
      repeat walk_at "rd"
      try refine x_notInL (SqL.of efoi) rfl (flat_ints _) ?_
      rw [hin]
      by_cases hR : Reach slots outs node
      · rw [decide_eq_true (hRk.mpr hR)]
        repeat walk_at "rd"
        try refine iteN (by decide) ?_
        repeat walk_at "rd"
        try refine iteN (by decide) ?_
        repeat walk_at "rd"
        refine ⟨S, H3, E, _, rfl, ms3, md3, wk3, ?_, hSl, hlv, hrl, by omega, ki⟩
        rw [htk]
        exact ⟨_, _, hco, .inl ⟨.inl hR, rfl, rfl⟩⟩
      rw [decide_eq_false (fun h => hR (hRk.mp h))]
      repeat walk_at "rd"
      try refine iteP (by decide) ?_
      repeat walk_at "rd"
      by_cases hd : node ∈ FS.log ⟨[], [], E⟩
      · have hsr : slotR S ra (FS.log ⟨[], [], E⟩) node = .non := by
          unfold slotR
          rw [if_neg (fun h => h.2 hd)]
        rw [hsr]
        repeat walk_at "rd"
        try refine iteN (by decide) ?_
        repeat walk_at "rd"
        refine ⟨S, H3, E, _, rfl, ms3, md3, wk3, ?_, hSl, hlv, hrl, by omega, ki⟩
        rw [htk]
        refine ⟨_, _, hco, .inl ⟨.inr ?_, rfl, rfl⟩⟩
        cases h5 : isLive (afterS S (FS.log ⟨[], [], E⟩)) node with
        | false => rfl
        | true => exact absurd hd ((after_live _ _ _).mp h5).2
      · have hlS : isLive S node = true := by rw [hlv]; exact hlive
        have hsr : slotR S ra (FS.log ⟨[], [], E⟩) node = .ref (ra node) := by
          unfold slotR
          rw [if_pos ⟨hlS, hd⟩]
        rw [hsr]
        repeat walk_at "rd"
        refine iteP (by simp) ?_
        repeat walk_at "rd"
        obtain ⟨row, er, _⟩ := live_lt hlS
        have hol := wf.len
        have hnl2 : node < outs.length := by omega
        have hz : outs[node]? = some outs[node] := List.getElem?_eq_getElem hnl2
        have hr40 := hrl row (List.mem_of_getElem? er)
        refine ⟨S, p, dx, aS, aO, aR, aE, aH, aV, ra, lim, outs, node, row, outs[node], E, 3360 + 90 * i, rfl, ms4, md4, hC, wk3, hd, by omega, er, hz, hsz, by omega, hlim, fun E2 H5 H6 kx5 ms5 md5 wk5 fin hsz5 => ?_⟩
        repeat walk_at "rd"
        obtain ⟨E', rfl, hfa⟩ := finA_of hltS hd fin
        have hT' : afterS (slotN S node row row.length) (FS.log ⟨[], [], E ++ E'⟩) = afterS (slotN (afterS S (FS.log ⟨[], [], E⟩)) node row row.length) (FS.log ⟨[], [], E'⟩) := by
          rw [slotN_after hltS hd, after_after, log_ev]
        refine ⟨slotN S node row row.length, H5, E ++ E', _, rfl, ms5, md5, wk5, ?_, by rw [slotN_len]; exact hSl, fun m => (slotN_live er _ m).trans (hlv m), fun r hr' => ?_, by omega, fun b o hb e => ?_⟩
        · rw [htk]
          exact ⟨_, _, hco, .inr ⟨hR, row, outs[node], E', after_at er hd, hz, hfa, hT', rfl⟩⟩
        · unfold slotN at hr'
          rcases List.mem_or_eq_of_mem_set hr' with h | h
          · exact hrl r h
          · cases Option.some.inj h
            rw [rowN_len (Nat.le_refl _)]
            exact hr40
        · exact kx5 b o (hnp b o e) (hnr b o node r0 e er0) (ki b o hb e)
    · rintro σ Hi ⟨S, H3, E, y5, rfl, ms3, md3, wk3, hco, hSl, hlv, hrl, hsz, ki⟩
      rw [List.length_map] at hco hsz
      rw [List.take_length] at hco
      repeat walk_at "rd"
      exact k S H3 p dx aS aO aR aE aH aV ra _ E Hi ms3 md3 hSl (by omega) hco (k0.trans ki)
def liveN (slots : List (Option Rw)) (n : Nat) : List Nat := (List.range n).filter (isLive slots)
theorem liveN_up (slots : List (Option Rw)) (n : Nat) : (liveUp slots n).map V.int = (liveN slots n).map fun m : Nat => V.int m := by
  unfold liveUp liveN
  rw [List.map_map]
  rfl
theorem liveN_len (slots : List (Option Rw)) (n : Nat) : (liveN slots n).length ≤ n := by
  have := List.length_filter_le (isLive slots) (List.range n)
  rwa [List.length_range] at this
theorem liveN_mem {slots : List (Option Rw)} {p : Nat} (h : isLive slots p = true) : p ∈ liveN slots slots.length := List.mem_filter.mpr ⟨List.mem_range.mpr (live_lt h).choose_spec.2, h⟩
/-- what collect returns -/
def spColl (K : PySem.W.Frag) : Sp := fun vs H Q _ => ∃ (D : Addr) (slots : List (Option Rw)) (outs : List Int) (lim : Int), vs = [.ref D, .int lim] ∧ HeapT K H D slots outs ∧ Wf slots outs ∧ 0 < lim ∧
  ∀ B L X k T E H', Kx [] H H' → SqT K H' B [.ref L, .int k, .ref X] → SqT K H' L ((FS.log ⟨[], [], E⟩).map fun n : Nat => V.int n) → IsPeak (sizesOf E) k → Coll slots outs lim (liveN slots slots.length).reverse T E → HeapT K H' X T outs → Q (.ref B) H'
theorem ok_coll {C : Addr} {f : Addr} {fd : FuncData} (F : Fun K "collect" "collect" sCollect f fd) (T : Txt mg) (hC : ClR K C) (cR : Cls K C) (l_run_collect : Lo P w K mg base "run_collect" 7 ["heap", "nodes", "limit"] (spRunColl K C)) (l_live_nodes : Lo P w K mg base "live_nodes" 1 ["heap"] (spLive K)) (m_result : Lm P w K mg base C "result" 1 ["self"] (spResult K C)) : FnOk P w K mg base CX0 8 f fd ["heap", "limit"] (spColl K) := by
  refine F.ok scCollect (fun vs H Q E h => ?_) (fun cdv A outer s H vs Q E hr h => ?_)
  · obtain ⟨D, slots, outs, lim, rfl, _⟩ := h
    rfl
  · obtain ⟨D, slots, outs, lim, rfl, hT, wf, hlim, k⟩ := h
    refine ⟨_, (pss_one (ps_ret (pe_lm0 m_result cR (hr.mono (by decide)) (pe_lo l_run_collect (hr.mono (by decide)) (by rfl) (pa_cons (pv 0) (pa_cons (pe_lo l_live_nodes (hr.mono (by decide)) (by rfl) (pa_cons (pv 0) pa_nil)) (pa_cons (pv 1) pa_nil))))))), ?_⟩
    refine x_start (σ' := [some (.ref D), some (.int lim)]) rfl ?_
    try dsimp only [cxOf]
    repeat walk_at "rd"
    refine ⟨D, slots, outs, rfl, hT, wf, fun N H1 nN k1 eN => ?_⟩
    repeat walk_at "rd"
    have hll := liveN_len slots slots.length
    have h40 := wf.most
    refine ⟨D, N, slots, outs, liveN slots slots.length, lim, rfl, hT.keep k1, wf, SqL.of (by rw [← liveN_up]; exact eN), fun n hn => (List.mem_filter.mp hn).2, by omega, hlim, fun S H2 p dx aS aO aR aE aH aV ra tf E H3 ms md hSl hE hco k3 => ?_⟩
    have hins3 := md.k _ _ ms.pW ms.ins
    repeat walk_at "rd"
    refine ⟨S, H2, p, dx, aS, aO, aR, aE, aH, aV, ra, lim, outs, tf, _, E, rfl, ms, md, hC, rfl, by omega, by omega, fun B L X pk H5 k5 hB hL hpk hX => ?_⟩
    exact k B L X pk _ E H5 ((k1.trans k3).trans k5) hB hL hpk hco hX
end


section
variable {P : Program} {w : World} {K : PySem.W.Frag} {mg : Str → Option Value} {base : Heap}

theorem liveN_succ (slots : List (Option Rw)) (n : Nat) : liveN slots (n + 1) = if isLive slots n then liveN slots n ++ [n] else liveN slots n := by
  unfold liveN
  rw [List.range_succ, List.filter_append]
  cases h : isLive slots n <;> simp [List.filter, h]
def spCollected (K : PySem.W.Frag) : Sp := fun vs H Q _ => ∃ (D : Addr) (slots : List (Option Rw)) (outs : List Int) (lim : Int), vs = [.ref D, .int lim] ∧ HeapT K H D slots outs ∧ Wf slots outs ∧ 0 < lim ∧
  ∀ B L X k T E H', Kx [] H H' → SqT K H' B [.ref L, .int k, .ref X] → SqT K H' L ((FS.log ⟨[], [], E⟩).map fun n : Nat => V.int n) → IsPeak (sizesOf E) k → 0 ≤ k → k ≤ 40 → Coll slots outs lim (liveN slots slots.length).reverse T E → HeapT K H' X T outs → Q (.ref B) H'
theorem ok_collected {f : Addr} {fd : FuncData} (F : Fun K "_law_collected" "_law_collected" sQCollected f fd) (T : Txt mg) (l_law_reached : Lo P w K mg base "_law_reached" 1 ["_law_base_here"] (spReached K)) (l_law_stripped : Lo P w K mg base "_law_stripped" 5 ["_law_base_here", "_law_spot", "_law_bound_here"] (spStripped K)) : FnOk P w K mg base CX0 6 f fd ["_law_base_here", "_law_bound_here"] (spCollected K) := by
  refine F.ok scQCollected (fun vs H Q E h => ?_) (fun cdv A outer s H vs Q E hr h => ?_)
  · obtain ⟨D, slots, outs, lim, rfl, _⟩ := h
    rfl
  · obtain ⟨D, slots, outs, lim, rfl, hT, wf, hlim, k⟩ := h
    have h40 := wf.most
    refine ⟨_, (pss_cons (ps_set (i := 2) scQCollected.nd rfl (Or.inl rfl) (pe_lo l_law_reached (hr.mono (by decide)) (by rfl) (pa_cons (pv 0) pa_nil)))
      (pss_cons (ps_par3 (i := 3) (j := 4) (l := 5) rfl scQCollected.nd rfl rfl rfl (by decide) (by decide) (by decide) rfl rfl rfl (pa_cons (pe_tup pa_nil) (pa_cons pe_int (pa_cons (pv 0) pa_nil))) (by rfl))
      (pss_cons (ps_for PassesOwn.never rfl (pi_enumT (by rfl) T.b_enumerate (pa_cons (pe_ix ix_tup (pv 0) pe_int (fun _ _ => rfl)) pa_nil)) (pg_tup rfl (pgs_cons (pg_name (i := 6) scQCollected.nd rfl (Or.inl rfl)) (pgs_cons (pg_name (i := 7) scQCollected.nd rfl (Or.inl rfl)) pgs_nil)))
      (pss_one (ps_if (PW.pt (pw_and (pt_cmpR op_notN1 (pv 7) pe_non (nomark _)) (pw_and (pt_cmpR op_notIn_seq (pv 6) (pv 2) (by with_unfolding_all rfl)) (pw_and1 (pt_cmpR op_notN1 (pe_ix ix_tup (pe_ix ix_tup (pv 5) pe_int (fun _ _ => rfl)) (pv 6) (fun _ _ => rfl)) pe_non (nomark _)))))) (pss_cons (ps_asg (pe_lo l_law_stripped (hr.mono (by decide)) (by rfl) (pa_cons (pv 5) (pa_cons (pv 6) (pa_cons (pv 1) pa_nil)))) (pg_tup rfl (pgs_cons (pg_name (i := 8) scQCollected.nd rfl (Or.inl rfl)) (pgs_cons (pg_name (i := 9) scQCollected.nd rfl (Or.inl rfl)) (pgs_cons (pg_name (i := 5) scQCollected.nd rfl (Or.inl rfl)) pgs_nil)))))
      (pss_one (ps_par (i := 3) (j := 4) rfl scQCollected.nd rfl rfl (by decide) rfl rfl (pa_cons (pe_op op_catA (pv 3) (pv 8)) (pa_cons (pe_callB (call_max2 rfl) (by rfl) T.b_max boot'_max (pa_cons (pv 4) (pa_cons (pv 9) pa_nil))) pa_nil)) (by rfl)))) pss_nil)))
      (pss_one (ps_ret (pe_tup (pa_cons (pv 3) (pa_cons (pv 4) (pa_cons (pv 5) pa_nil))))))))), ?_⟩
    refine x_start (σ' := [some (.ref D), some (.int lim), none, none, none, none, none, none, none, none]) rfl ?_
    try dsimp only [cxOf]
    repeat walk_at "rd"
    refine ⟨D, slots, outs, rfl, hT, wf, fun fo H1 ks nfo k1 efo hks => ?_⟩
    have hT1 := hT.keep k1
    repeat walk_at "rd"
    rename_i W0 nW0
    have kW : Kx [] H1 (upd H1 W0 (.tup [])) := (Kx.refl [] H1).new nW0
    have eW0 : SqT K (upd H1 W0 (.tup [])) W0 [] := SqT.of upd_same
    have k2 := k1.trans kW
    have efo2 := kW fo _ (by simp) efo
    generalize upd H1 W0 (.tup []) = H2 at *
    have hT2 := hT.keep k2
    obtain ⟨S, O, vs, hD, hS, hO, hvl, hv⟩ := id hT2.ex
    repeat walk_at "rd"
    refine y_forET (xs := vs) hS ⟨fun i σ Hi => ∃ (X W : Addr) (hh : Int) (T : List (Option Rw)) (E : List Ev) (y6 y7 y8 y9 : Option V), σ = [some (.ref D), some (.int lim), some (.ref fo), some (.ref W), some (.int hh), some (.ref X), y6, y7, y8, y9] ∧ Kx [] H2 Hi ∧
      HeapT K Hi X T outs ∧ SqT K Hi W ((FS.log ⟨[], [], E⟩).map fun n : Nat => V.int n) ∧ Coll slots outs lim (liveN slots i).reverse T E ∧ IsPeak (sizesOf E) hh ∧ 0 ≤ hh ∧ hh ≤ 40, ?_, ?_, ?_, ?_⟩
    · exact ⟨D, W0, 0, slots, [], none, none, none, none, rfl, Kx.refl _ _, hT2, eW0, ⟨rfl, rfl⟩, .inl ⟨rfl, rfl⟩, by decide, by decide⟩
    · rintro i σ Hi hi ⟨X, W, hh, T, E, y6, y7, y8, y9, rfl, ki, _⟩
      exact ki.sqT (by simp) hS
    · rintro i x σ Hi Hi' hi ⟨X, W, hh, T, E, y6, y7, y8, y9, rfl, ki, hX, hW, hco, hpk, h0, h41⟩ ⟨U, x1, x2, rfl, nU, rfl, f1, f2⟩
      cases f1
      replace f2 : vs[i]? = some x2 := f2
      have hs : i < slots.length := by omega
      have es := List.getElem?_eq_getElem hs
      have ci := Coll.ci wf hco
      have kU : Kx [] Hi (upd Hi U (.tup [.int (i : Nat), x2])) := (Kx.refl [] Hi).new nU
      have hXU := hX.keep kU
      have hWU := kU.sqT (by simp) hW
      have efoU := (ki.trans kU) fo _ (by simp) efo2
      have eU := upd_same (H := Hi) (a := U) (o := .tup [.int (i : Nat), x2])
      have kiU := ki.trans kU
      clear kU hX hW
      generalize upd Hi U (.tup [.int (i : Nat), x2]) = Hj at *
      have stay : isLive slots i = false → Coll slots outs lim (liveN slots (i + 1)).reverse T E := fun h => by
        rw [liveN_succ, h]
        exact hco
      have grow : ∀ T' E', isLive slots i = true → (((Reach slots outs i ∨ isLive T i = false) ∧ T' = T ∧ E' = E) ∨ (¬ Reach slots outs i ∧ ∃ (row : Rw) (z : Int) (e : List Ev), T[i]? = some (some row) ∧ outs[i]? = some z ∧ FinA T outs (outs.set i (z + 1)) lim i row e ∧ T' = afterS (slotN T i row row.length) (FS.log ⟨[], [], e⟩) ∧ E' = E ++ e)) → Coll slots outs lim (liveN slots (i + 1)).reverse T' E' := fun T' E' hl h => by
        rw [liveN_succ, if_pos hl, List.reverse_append]
        exact ⟨T, E, hco, h⟩
      repeat walk_at "rd"
      rcases hv i _ es with ⟨e, z'⟩ | ⟨r, row0, e, z', hR⟩
      · cases Option.some.inj (z'.symm.trans f2)
        repeat walk_at "rd"
        try refine iteN (by decide) ?_
        repeat walk_at "rd"
        try refine iteN (by decide) ?_
        repeat walk_at "rd"
        exact ⟨X, W, hh, T, E, _, _, _, _, rfl, kiU, hXU, hWU, stay (by simp [isLive, es, e]), hpk, h0, h41⟩
      · cases Option.some.inj (z'.symm.trans f2)
        have hl : isLive slots i = true := by simp [isLive, es, e]
        have hin : inV (.int (i : Int)) (ks.map V.int) = decide ((i : Int) ∈ ks) := in_int ks
        have hRk : (i : Int) ∈ ks ↔ Reach slots outs i := by
          rw [hks.mem]
          constructor
          · rintro ⟨m, hm, h⟩
            have : m = i := by omega
            exact this ▸ h
          · exact fun h => ⟨i, rfl, h⟩
        repeat walk_at "rd"
        refine iteP (by simp) ?_
        repeat walk_at "rd"
        try refine x_notInL (SqL.of efoU) rfl (flat_ints _) ?_
        rw [hin]
        by_cases hR : Reach slots outs i
        · rw [decide_eq_true (hRk.mpr hR)]
          repeat walk_at "rd"
          try refine iteN (by decide) ?_
          repeat walk_at "rd"
          try refine iteN (by decide) ?_
          repeat walk_at "rd"
          exact ⟨X, W, hh, T, E, _, _, _, _, rfl, kiU, hXU, hWU, grow T E hl (.inl ⟨.inl hR, rfl, rfl⟩), hpk, h0, h41⟩
        rw [decide_eq_false (fun h => hR (hRk.mp h))]
        obtain ⟨SX, OX, vX, hDX, hSX, hOX, hvlX, hvX⟩ := id hXU.ex
        have hsT : i < T.length := by rw [ci.len]; exact hs
        have esT := List.getElem?_eq_getElem hsT
        have hvi : i < vX.length := by omega
        have evi := List.getElem?_eq_getElem hvi
        have hatX : atI vX (i : Int) = some vX[i] := atI_nat evi
        repeat walk_at "rd"
        try refine iteP (by decide) ?_
        repeat walk_at "rd"
        rcases hvX i _ esT with ⟨eT, zT⟩ | ⟨rT, row, eT, zT, hRT⟩
        · rw [evi] at zT
          rw [Option.some.inj zT]
          repeat walk_at "rd"
          try refine iteN (by decide) ?_
          repeat walk_at "rd"
          exact ⟨X, W, hh, T, E, _, _, _, _, rfl, kiU, hXU, hWU, grow T E hl (.inl ⟨.inr (by simp [isLive, esT, eT]), rfl, rfl⟩), hpk, h0, h41⟩
        · rw [evi] at zT
          rw [Option.some.inj zT]
          have er : T[i]? = some (some row) := by rw [esT, eT]
          have hol := wf.len
          have hz : outs[i]? = some outs[i] := List.getElem?_eq_getElem (by omega)
          repeat walk_at "rd"
          refine iteP (by simp) ?_
          repeat walk_at "rd"
          refine ⟨X, T, outs, i, row, outs[i], lim, rfl, hXU, ci.wf, er, hz, hlim, fun B L2 X2 pk e2 Hk kj hB hL hfin hpk2 hk0 hk40 hlE hmE hX2 => ?_⟩
          have hco2 := grow _ _ hl (.inr ⟨hR, row, outs[i], e2, er, hz, hfin, rfl, rfl⟩)
          have ci2 := Coll.ci wf hco2
          have hll : FS.log ⟨[], [], E ++ e2⟩ = FS.log ⟨[], [], E⟩ ++ FS.log ⟨[], [], e2⟩ := log_of _ _
          have hlen := nd_len ci.nd (N := 40) (fun n hn => by
            obtain ⟨_, _, h9⟩ := live_lt ((ci.mem n).mp hn).1
            omega)
          have hWj := kj.sqT (by simp) hWU
          repeat walk_at "rd"
          refine x_cat hWj hL (Nat.le_of_lt (big_line (by rw [List.length_map, List.length_map]; omega))) fun W2 Hl hW2 kk2 => ?_
          repeat walk_at "rd"
          refine ⟨X2, W2, _, _, E ++ e2, _, _, _, _, rfl, (kiU.trans kj).trans kk2, hX2.keep kk2, ?_, hco2, ?_, ?_, ?_⟩
          · rw [hll, List.map_append]
            exact hW2
          · unfold sizesOf
            rw [List.filterMap_append]
            exact hpk.app hpk2 (sizes_nn _) (sizes_nn _)
          · split <;> omega
          · split <;> omega
    · rintro σ Hi ⟨X, W, hh, T, E, y6, y7, y8, y9, rfl, ki, hX, hW, hco, hpk, h0, h41⟩
      rw [hvl] at hco
      repeat walk_at "rd"
      rename_i B nB
      have kB : Kx [] Hi (upd Hi B (.tup [.ref W, .int hh, .ref X])) := (Kx.refl [] Hi).new nB
      exact k B W X hh T E _ ((k2.trans ki).trans kB) (SqT.of upd_same) (kB.sqT (by simp) hW) hpk h0 h41 hco (hX.keep kB)
end


section
variable {P : Program} {w : World} {K : PySem.W.Frag} {mg : Str → Option Value} {base : Heap}

theorem eqv_ints : ∀ cs : List Int, PyData.eqvAll (cs.map PyData.int) (cs.map PyData.int) = true
  | [] => rfl
  | c :: r => by simp [PyData.eqvAll, PyData.eqv, eqv_ints r]
theorem x_eqSame {H : Hp} {Q : VK} {a b : Addr} {cs : List Int} (h : SqL K H a (cs.map V.int)) (hb : SqL K H b (cs.map V.int)) (q : Q (.bl true) H) : rEqD K (.ref a) (.ref b) H Q := by
  refine ⟨.list (cs.map PyData.int), .list (cs.map PyData.int), .lst h (dp_intsT cs), .lst hb (dp_intsT cs), shaped_ints cs, shaped_ints cs, ?_⟩
  rw [show PyData.eqv (.list (cs.map PyData.int)) (.list (cs.map PyData.int)) = true by simp [PyData.eqv, eqv_ints]]
  exact q
theorem asc_uniq {ns ms : List Int} (h1 : ns.Pairwise (· ≤ ·)) (h2 : ms.Pairwise (· ≤ ·)) (p : ns.Perm ms) : ns = ms := List.Perm.eq_of_pairwise (le := fun a b : Int => a ≤ b) (fun a b _ _ h1 h2 => Int.le_antisymm h1 h2) h1 h2 p
def resT (T : List (Option Rw)) (outs : List Int) (log : List Nat) (k : Int) : PyData := .tuple [.tuple ((log.map fun n : Nat => (n : Int)).map PyData.int), .int k, heapD T outs]
theorem dp_resT {H : Hp} {B L X : Addr} {T : List (Option Rw)} {outs : List Int} {log : List Nat} {k : Int} (hB : SqT K H B [.ref L, .int k, .ref X]) (hL : SqT K H L (log.map fun n : Nat => V.int n)) (hX : HeapT K H X T outs) : Dp K H (.ref B) (resT T outs log k) := by
  rw [nat_ints] at hL
  exact .tup hB (.cons (.tup hL (dp_intsT _)) (.cons (.int k) (.cons hX.dp .nil)))
theorem good_resT {T : List (Option Rw)} {outs : List Int} (wf : Wf T outs) {lg : List Nat} (hll : lg.length ≤ 40) (hlm : ∀ n ∈ lg, n < 40) {k : Int} (hk : 0 ≤ k ∧ k ≤ 40) : Good (resT T outs lg k) 4 (3 * (2 * (40 * (40 * 32 + 1) + 1) + 1)) := by
  have h := good_res0 (lg := []) wf (by decide) (by decide) (by simp) hk
  refine Good.tuple (n := 3) (k := 3) (w := 2 * (40 * (40 * 32 + 1) + 1)) ?_ (by simp)
  intro d hd
  simp only [List.mem_cons, List.not_mem_nil, or_false] at hd
  rcases hd with rfl | rfl | rfl
  · refine (Good.tuple (n := 40) (k := 0) (w := 31) ?_ (by rw [List.length_map, List.length_map]; exact hll)).mono (by decide) (by decide)
    intro d hd
    obtain ⟨i, hi, rfl⟩ := List.mem_map.mp hd
    obtain ⟨m, hm, rfl⟩ := List.mem_map.mp hi
    have := hlm m hm
    exact Good.int (by show ((m : Nat) : Int).natAbs < _; omega)
  · exact (Good.int (by omega)).mono (by decide) (by decide)
  · exact good_heap wf
/-- the law's ascending list of the live nodes that cannot be reached, of those below i -/
def lostN (slots : List (Option Rw)) (ks : List Int) (n : Nat) : List Nat := (liveN slots n).filter fun m => !decide ((m : Int) ∈ ks)
theorem lostN_succ (slots : List (Option Rw)) (ks : List Int) (n : Nat) : lostN slots ks (n + 1) = if isLive slots n = true ∧ (n : Int) ∉ ks then lostN slots ks n ++ [n] else lostN slots ks n := by
  unfold lostN
  rw [liveN_succ]
  cases h : isLive slots n
  · simp
  · by_cases h2 : (n : Int) ∈ ks
    · simp [h2]
    · simp [h2]
theorem lostN_len (slots : List (Option Rw)) (ks : List Int) (n : Nat) : (lostN slots ks n).length ≤ n := Nat.le_trans (List.length_filter_le _ _) (liveN_len slots n)
theorem lostN_asc (slots : List (Option Rw)) (ks : List Int) (n : Nat) : (lostN slots ks n).Pairwise (· < ·) := by
  unfold lostN liveN
  exact (List.pairwise_lt_range.filter _).filter _
theorem lostN_mem {slots : List (Option Rw)} {ks : List Int} {m : Nat} : m ∈ lostN slots ks slots.length ↔ isLive slots m = true ∧ (m : Int) ∉ ks := by
  unfold lostN
  rw [List.mem_filter]
  constructor
  · rintro ⟨h1, h2⟩
    exact ⟨(List.mem_filter.mp h1).2, by simpa using h2⟩
  · rintro ⟨h1, h2⟩
    exact ⟨liveN_mem h1, by simpa using h2⟩
def spRight (K : PySem.W.Frag) : Sp := fun vs H Q _ => ∃ (D : Addr) (slots : List (Option Rw)) (outs : List Int) (lim : Int), vs = [.ref D, .int lim] ∧ HeapT K H D slots outs ∧ Wf slots outs ∧ 0 < lim ∧ ∀ H', Kx [] H H' → Q (.bl true) H'
theorem ok_right {f : Addr} {fd : FuncData} (F : Fun K "_law_right" "_law_right" sQRight f fd) (T : Txt mg) (l_law_reached : Lo P w K mg base "_law_reached" 1 ["_law_base_here"] (spReached K)) (l_law_collected : Lo P w K mg base "_law_collected" 6 ["_law_base_here", "_law_bound_here"] (spCollected K))
    (x_collect : Lkx P w K mg base "collect" 8 ["heap", "limit"] ["limit"] (gApp 1 1) (spColl K)) (k_collect : Lkw P w K mg base "collect" 8 ["heap", "limit"] ["limit", "heap"] (gRev 2) (spColl K)) : FnG P w K mg base 9 f fd ["_law_base_here", "_law_bound_here"] (spRight K) := by
  refine FnG.body F scQRight (fun vs H Q E h => ?_) (fun cdv A outer s H vs Q E hgd hr h => ?_)
  · obtain ⟨D, slots, outs, lim, rfl, _⟩ := h
    rfl
  · obtain ⟨D, slots, outs, lim, rfl, hT, wf, hlim, k⟩ := h
    refine ⟨_, (pss_cons (ps_set (i := 2) scQRight.nd rfl (Or.inl rfl) (pe_callB (call_repr hgd hr.units) (by rfl) T.b_repr boot'_repr (pa_cons (pv 0) pa_nil)))
      (pss_cons (ps_set (i := 3) scQRight.nd rfl (Or.inl rfl) (pe_lo l_law_collected (hr.mono (by decide)) (by rfl) (pa_cons (pv 0) (pa_cons (pv 1) pa_nil))))
      (pss_cons (ps_set (i := 4) scQRight.nd rfl (Or.inl rfl) (pe_lkx x_collect (hr.mono (by decide)) (by rfl) (pa_cons (pv 0) pa_nil) (pk_cons (pv 1) pk_nil)))
      (pss_cons (ps_if (PW.pt (pw_or (pt_cmpR op_ne (pe_callB (call_repr hgd hr.units) (by rfl) T.b_repr boot'_repr (pa_cons (pv 4) pa_nil)) (pe_callB (call_repr hgd hr.units) (by rfl) T.b_repr boot'_repr (pa_cons (pv 3) pa_nil)) (nomark _)) (pw_or1 (pt_cmpR op_ne (pe_callB (call_repr hgd hr.units) (by rfl) T.b_repr boot'_repr (pa_cons (pe_lkw k_collect (hr.mono (by decide)) (by rfl) (pk_cons (pv 1) (pk_cons (pv 0) pk_nil))) pa_nil)) (pe_callB (call_repr hgd hr.units) (by rfl) T.b_repr boot'_repr (pa_cons (pv 3) pa_nil)) (nomark _))))) (pss_one (ps_ret pe_bl)) pss_nil)
      (pss_cons (ps_set (i := 5) scQRight.nd rfl (Or.inr rfl) (pe_lo l_law_reached (hr.mono (by decide)) (by rfl) (pa_cons (pv 0) pa_nil)))
      (pss_cons (ps_setLc (i := 6) (own := [("_law_spot", 7), ("_law_row", 8)]) rfl scQRight.nd rfl rfl (sw_true rfl rfl rfl (by decide +kernel)) (pi_enumT (by rfl) T.b_enumerate (pa_cons (pe_ix ix_tup (pv 0) pe_int (fun _ _ => rfl)) pa_nil)) (blkOk_by (N := ["_law_base_here", "_law_bound_here", "_law_before", "_law_expected", "_law_found", "_law_met", "_law_lost", "_law_spot", "_law_row"]) (sc := defScope sQRight) (by decide +kernel)) (fun _ _ _ _ _ => (pg_tupK (K := K) (n := 2) rfl rfl (pgs_cons (pg_name (i := 7) scQRight.nd rfl (Or.inl rfl)) (pgs_cons (pg_name (i := 8) scQRight.nd rfl (Or.inl rfl)) pgs_nil)))) (fun _ _ _ _ _ => (pts_one (PW.pt (pw_and (pt_cmpR op_notN1 (pv 8) pe_non (nomark _)) (pw_and1 (pt_cmpR (op_notIn_seqK (K := K)) (pv 7) (pv 5) (by with_unfolding_all rfl))))))) (fun _ _ _ _ _ => (pv 7)))
      (pss_one (ps_ret (pe_and (pe_cmpR (op_eqD hr.units) (pe_callB cr_sortedTup (by rfl) T.b_sorted boot'_sorted (pa_cons (pe_ix ix_tup (pv 4) pe_int (fun _ _ => rfl)) pa_nil)) (pv 6) (nomark _)) (pe_one (pe_cmpR op_eq (pe_callB (call_repr hgd hr.units) (by rfl) T.b_repr boot'_repr (pa_cons (pv 0) pa_nil)) (pv 2) (nomark _)))))))))))), ?_⟩
    refine x_start (σ' := [some (.ref D), some (.int lim), none, none, none, none, none, none, none]) rfl ?_
    try dsimp only [cxOf]
    have h40 := wf.most
    have gh := good_heap wf
    repeat walk_at "rd"
    refine x_repr hT.dp gh (by decide) (by decide) ?_
    generalize hbf : (heapD slots outs).shown = bf
    repeat walk_at "rd"
    refine ⟨D, slots, outs, lim, rfl, hT, wf, hlim, fun B L X pk T1 E1 H1 k1 hB hL hpk hp0 hp40 hco hX => ?_⟩
    have ci := Coll.ci wf hco
    have hall := CI.all wf ci (fun p hp => List.mem_reverse.mpr (liveN_mem hp))
    have hlm : ∀ n ∈ FS.log ⟨[], [], E1⟩, n < 40 := fun n hn => by
      obtain ⟨_, _, h9⟩ := live_lt ((ci.mem n).mp hn).1
      omega
    have hll := nd_len ci.nd hlm
    have gr := good_resT ci.wf hll hlm ⟨hp0, hp40⟩
    repeat walk_at "rd"
    refine ⟨D, slots, outs, lim, rfl, hT.keep k1, wf, hlim, fun B2 L2 X2 pk2 T2 E2 H2 k2 hB2 hL2 hpk2 hco2 hX2 => ?_⟩
    obtain ⟨rfl, rfl⟩ := hco2.det hco
    cases hpk2.uniq hpk
    have k02 := k1.trans k2
    have hB' := k2.sqT (by simp) hB
    have hL' := k2.sqT (by simp) hL
    have hX' := hX.keep k2
    repeat walk_at "rd"
    refine x_repr (dp_resT hB2 hL2 hX2) gr (by decide) (by decide) ?_
    generalize hex : (resT _ outs (FS.log ⟨[], [], _⟩) pk).shown = ex
    repeat walk_at "rd"
    refine x_repr (dp_resT hB' hL' hX') gr (by decide) (by decide) ?_
    rw [hex]
    repeat walk_at "rd"
    refine iteN (by simp) ?_
    repeat walk_at "rd"
    refine ⟨D, slots, outs, lim, rfl, hT.keep k02, wf, hlim, fun B3 L3 X3 pk3 T3 E3 H3 k3 hB3 hL3 hpk3 hco3 hX3 => ?_⟩
    obtain ⟨rfl, rfl⟩ := hco3.det hco
    cases hpk3.uniq hpk
    have k03 := k02.trans k3
    have hT3 := hT.keep k03
    repeat walk_at "rd"
    refine x_repr (dp_resT hB3 hL3 hX3) gr (by decide) (by decide) ?_
    rw [hex]
    repeat walk_at "rd"
    refine x_repr (dp_resT (k3.sqT (by simp) hB') (k3.sqT (by simp) hL') (hX'.keep k3)) gr (by decide) (by decide) ?_
    rw [hex]
    repeat walk_at "rd"
    refine iteN (by simp) ?_
    repeat walk_at "rd"
    refine ⟨D, slots, outs, rfl, hT3, wf, fun fo H4 ks nfo k4 efo hks => ?_⟩
    have hT4 := hT3.keep k4
    have hB4 := (k3.trans k4).sqT (by simp) hB2
    have hL4 := (k3.trans k4).sqT (by simp) hL2
    obtain ⟨S, O, vs, hD, hS, hO, hvl, hv⟩ := id hT4.ex
    have hRk : ∀ i : Nat, (i : Int) ∈ ks ↔ Reach slots outs i := fun i => by
      rw [hks.mem]
      constructor
      · rintro ⟨m, hm, h⟩
        have : m = i := by omega
        exact this ▸ h
      · exact fun h => ⟨i, rfl, h⟩
    repeat walk_at "rd"
    refine y_lcET (xs := vs) hS (fun Y nY => ⟨fun i H5 => Kx [] H4 H5 ∧ H5 Y = some (.lst (((lostN slots ks i).map fun m : Nat => (m : Int)).map V.int)), ⟨(Kx.refl _ _).new nY, upd_same⟩, ?_, ?_, ?_⟩)
    · rintro i H5 hi ⟨k5, _⟩
      exact k5.sqT (by simp) hS
    · rintro i x H5 H5' hi ⟨k5, e5⟩ ⟨U, x1, x2, rfl, nU, rfl, f1, f2⟩
      cases f1
      replace f2 : vs[i]? = some x2 := f2
      have hs : i < slots.length := by omega
      have es := List.getElem?_eq_getElem hs
      have hlen := lostN_len slots ks i
      have efo5 := lk_ne (o := .tup [.int (i : Nat), x2]) (k5 fo _ (by simp) efo) nU
      have hin : inV (.int (i : Int)) (ks.map V.int) = decide ((i : Int) ∈ ks) := in_int ks
      repeat walk_at "rd"
      refine ⟨rfl, ?_⟩
      repeat walk_at "rd"
      rcases hv i _ es with ⟨e, z⟩ | ⟨r, row, e, z, _⟩
      · cases Option.some.inj (z.symm.trans f2)
        repeat walk_at "rd"
        refine iteN (by decide) ?_
        repeat walk_at "rd"
        refine ⟨k5.new nU, ?_⟩
        rw [lostN_succ, if_neg (by simp [isLive, es, e])]
        exact lk_ne e5 nU
      · cases Option.some.inj (z.symm.trans f2)
        repeat walk_at "rd"
        refine iteP (by simp) ?_
        repeat walk_at "rd"
        try refine x_notInL (SqL.of efo5) rfl (flat_ints _) ?_
        rw [hin]
        by_cases h : (i : Int) ∈ ks
        · rw [decide_eq_true h]
          repeat walk_at "rd"
          refine iteN (by decide) ⟨k5.new nU, ?_⟩
          rw [lostN_succ, if_neg (fun h2 => h2.2 h)]
          exact lk_ne e5 nU
        · rw [decide_eq_false h]
          repeat walk_at "rd"
          refine iteP (by decide) ?_
          repeat walk_at "rd"
          refine ⟨_, lk_ne e5 nU, big_line (by rw [List.length_map, List.length_map]; omega), (k5.new nU).wr (.inl nY), ?_⟩
          rw [upd_same, lostN_succ, if_pos ⟨by simp [isLive, es, e], h⟩, List.map_append, List.map_append]
          rfl
    rintro H5 ⟨k5, eY⟩
    rw [hvl] at eY
    have hB5 := k5.sqT (by simp) hB4
    have hL5 := k5.sqT (by simp) hL4
    rw [nat_ints] at hL5
    repeat walk_at "rd"
    refine x_sortedTup hL5 fun ns p hperm hsort np => ?_
    have hns : ns = (lostN slots ks slots.length).map fun m : Nat => (m : Int) := by
      refine asc_uniq hsort ?_ ?_
      · rw [List.pairwise_map]
        exact (lostN_asc slots ks _).imp fun h => by omega
      · refine hperm.trans (List.Perm.map _ ?_)
        refine (List.perm_ext_iff_of_nodup ci.nd ((lostN_asc slots ks _).imp fun h => Nat.ne_of_lt h)).mpr fun m => ?_
        rw [hall, lostN_mem, hRk]
    subst hns
    repeat walk_at "rd"
    have kp := (Kx.refl [] H5).new (o := .lst (((lostN slots ks slots.length).map fun m : Nat => (m : Int)).map V.int)) np
    refine x_eqSame (SqL.of upd_same) (SqL.of (lk_ne eY np)) ?_
    have k06 := ((k03.trans k4).trans k5).trans kp
    generalize upd H5 p (.lst (((lostN slots ks slots.length).map fun m : Nat => (m : Int)).map V.int)) = H6 at *
    repeat walk_at "rd"
    refine x_repr (hT.keep k06).dp gh (by decide) (by decide) ?_
    rw [hbf]
    repeat walk_at "rd"
    rw [decide_eq_true (show V.str bf = V.str bf from rfl)]
    exact k _ k06
def spLaw (K : PySem.W.Frag) : Sp := fun vs H Q _ => ∃ (a : Addr) (ns : List Int), vs = [.ref a] ∧ SqL K H a (ns.map V.int) ∧ ∀ H', Q (.bl true) H'
theorem sqT_lst {H H' : Hp} {a p : Addr} {ys xs : List V} (h : SqT K H a xs) (hp : H p = some (.lst ys)) (k : Kx [p] H H') : SqT K H' a xs := by
  rcases h with h | h
  · refine .inl ?_
    rcases h with h | ⟨o, h⟩
    · exact .inl (k _ _ (fun z => by rw [List.mem_singleton.mp z, hp] at h; cases h) h)
    · exact .inr ⟨o, k _ _ (fun z => by rw [List.mem_singleton.mp z, hp] at h; cases h) h⟩
  · exact .inr h
theorem HeapT.pen {H H' : Hp} {D p c : Addr} {m : Nat} {slots : List (Option Rw)} {outs : List Int} (h : HeapT K H D slots outs) (hp : PenAt H p c m) (k : Kx [p] H H') : HeapT K H' D slots outs := by
  obtain ⟨S, O, vs, h1, h2, h3, h4, h5⟩ := h.ex
  obtain ⟨_, _, _, hp, _⟩ := hp
  refine ⟨S, O, vs, sqT_lst h1 hp k, sqT_lst h2 hp k, sqT_lst h3 hp k, h4, fun i o ho => ?_⟩
  rcases h5 i o ho with z | ⟨r, row, e1, e2, e3⟩
  · exact .inl z
  · exact .inr ⟨r, row, e1, e2, sqT_lst e3 hp k⟩
theorem atI_ints {ns : List Int} {d : Int} (h0 : 0 ≤ d) (h1 : d < ns.length) : ∃ y ∈ ns, atI (ns.map V.int) d = some (.int y) := by
  obtain ⟨j, rfl⟩ := Int.eq_ofNat_of_zero_le h0
  have hj : j < ns.length := by omega
  exact ⟨ns[j], List.getElem_mem hj, atI_nat (by rw [List.getElem?_map, List.getElem?_eq_getElem hj]; rfl)⟩
theorem live_out {slots : List (Option Rw)} {outs : List Int} (wf : Wf slots outs) {n : Nat} {z : Int} (hz : outs[n]? = some z) (h1 : 1 ≤ z) : isLive slots n = true := by
  have hn := (List.getElem?_eq_some_iff.mp hz).1
  rw [wf.len] at hn
  cases e : slots[n] with
  | none =>
    have := wf.free n (by rw [List.getElem?_eq_getElem hn, e])
    rw [hz] at this
    have := Option.some.inj this
    omega
  | some row => simp [isLive, List.getElem?_eq_getElem hn, e]
theorem ok_law {f : Addr} {fd : FuncData} (F : Fun K "law" "law" sLaw f fd) (T : Txt mg) (l_law_pen : Lo P w K mg base "_law_pen" 1 ["_law_script"] (spPen K)) (l_law_base : Lo P w K mg base "_law_base" 3 ["_law_pen_here"] (spBase K))
    (l_law_loose : Lo P w K mg base "_law_loose" 2 ["_law_pen_here", "_law_base_here"] (spLoose K)) (l_law_bound : Lo P w K mg base "_law_bound" 2 ["_law_pen_here", "_law_size"] spBound)
    (l_law_right : Lk P w K mg base "_law_right" 9 ["_law_base_here", "_law_bound_here"] (spRight K)) : FnG P w K mg base 10 f fd ["_law_script"] (spLaw K) := by
  refine FnG.body F scLaw (fun vs H Q E h => ?_) (fun cdv A outer s H vs Q E hgd hr h => ?_)
  · obtain ⟨a, ns, rfl, _⟩ := h
    rfl
  · obtain ⟨a, ns, rfl, ha, k⟩ := h
    refine ⟨_, (pss_cons (ps_set (i := 1) scLaw.nd rfl (Or.inl rfl) (pe_lo l_law_pen (hr.mono (by decide)) (by rfl) (pa_cons (pv 0) pa_nil)))
      (pss_cons (ps_for PassesOwn.never rfl (pi_range1 (by rfl) T.b_range (pa_cons pe_int pa_nil)) (pg_name (i := 2) scLaw.nd rfl (Or.inl rfl))
      (pss_cons (ps_set (i := 3) scLaw.nd rfl (Or.inl rfl) (pe_lo l_law_loose (hr.mono (by decide)) (by rfl) (pa_cons (pv 1) (pa_cons (pe_ix ix_tup (pe_lo l_law_base (hr.mono (by decide)) (by rfl) (pa_cons (pv 1) pa_nil)) pe_int (fun _ _ => rfl)) pa_nil))))
      (pss_one (ps_for PassesOwn.never rfl (pi_range1 (by rfl) T.b_range (pa_cons pe_int pa_nil)) (pg_name (i := 4) scLaw.nd rfl (Or.inl rfl))
      (pss_one (ps_if (pt_not (pt_val (pe_lk l_law_right hgd (hr.mono (by decide)) (by rfl) (pa_cons (pv 3) (pa_cons (pe_lo l_law_bound (hr.mono (by decide)) (by rfl) (pa_cons (pv 1) (pa_cons (pe_callB call_len_seq (by rfl) T.b_len boot'_len (pa_cons (pe_ix ix_tup (pv 3) pe_int (fun _ _ => rfl)) pa_nil)) pa_nil))) pa_nil))))) (pss_one (ps_ret pe_bl)) pss_nil))))))
      (pss_one (ps_ret (pe_and (pe_lk l_law_right hgd (hr.mono (by decide)) (by rfl) (pa_cons (pe_tup (pa_cons (pe_tup (pa_cons (pe_tup (pa_cons pe_int pa_nil)) (pa_cons (pe_tup (pa_cons pe_int (pa_cons pe_int pa_nil))) (pa_cons (pe_tup pa_nil) pa_nil)))) (pa_cons (pe_tup (pa_cons pe_int (pa_cons pe_int (pa_cons pe_int pa_nil)))) pa_nil))) (pa_cons pe_int pa_nil))) (pe_one (pe_lk l_law_right hgd (hr.mono (by decide)) (by rfl) (pa_cons (pe_tup (pa_cons (pe_tup pa_nil) (pa_cons (pe_tup pa_nil) pa_nil))) (pa_cons pe_int pa_nil))))))))), ?_⟩
    refine x_start (σ' := [some (.ref a), none, none, none, none]) rfl ?_
    try dsimp only [cxOf]
    repeat walk_at "rd"
    refine ⟨a, ns, rfl, ha, fun p c H1 np nc k1 P1 => ?_⟩
    repeat walk_at "rd"
    refine y_forR1 (by decide) (by decide) ⟨fun i σ H2 => ∃ (y2 y3 y4 : Option V), σ = [some (.ref a), some (.ref p), y2, y3, y4] ∧ PenAt H2 p c (2000 * i), ⟨none, none, none, rfl, P1.keep (Kx.refl [] H1) (by simp) (by simp) (by omega)⟩, fun _ _ _ _ _ => trivial, ?_, ?_⟩
    · rintro i x σ H2 H2' hi ⟨y2, y3, y4, rfl, P2⟩ ⟨rfl, rfl⟩
      have hi3 : i < 3 := hi
      repeat walk_at "rd"
      refine ⟨p, c, _, rfl, P2, by omega, fun B D0 lab slots0 outs0 H3 hB hA wf0 hn ⟨rw0, z0, hl1, hz0, hz1⟩ k3 P3 => ?_⟩
      have hT0 := hA.toT
      have hBt : SqT K H3 B [.ref D0, .int lab] := SqT.of hB
      have hlab : isLive slots0 lab = true := by simp [isLive, hl1]
      repeat walk_at "rd"
      refine ⟨p, c, D0, _, slots0, outs0, rfl, P3, by omega, hT0, wf0, ⟨lab, hlab⟩, fun D slots outs H4 hT wf hlv k4 P4 => ?_⟩
      have h1 : 1 ≤ slots.length := by
        obtain ⟨_, _, h9⟩ := live_lt ((hlv lab).trans hlab)
        omega
      have h40 := wf.most
      repeat walk_at "rd"
      refine y_forR1 (by decide) (by decide) ⟨fun j σ H5 => ∃ (y4 : Option V), σ = [some (.ref a), some (.ref p), some (.int (0 + (i : Int))), some (.ref D), y4] ∧ HeapT K H5 D slots outs ∧ PenAt H5 p c (2000 * i + 900 + 4 * j), ⟨_, rfl, hT, P4.up rfl rfl (by omega)⟩, fun _ _ _ _ _ => trivial, ?_, ?_⟩
      · rintro j x σ H5 H5' hj ⟨y4, rfl, hT5, P5⟩ ⟨rfl, rfl⟩
        have hj2 : j < 2 := hj
        obtain ⟨S5, O5, vs5, hD5, hS5, hO5, hvl5, hv5⟩ := id hT5.ex
        repeat walk_at "rd"
        refine ⟨p, c, _, vs5.length, rfl, P5, by omega, by omega, by omega, fun lim H6 hlim k6 P6 => ?_⟩
        have hT6 := hT5.pen P5 k6
        repeat walk_at "rd"
        refine ⟨D, slots, outs, lim, rfl, hT6, wf, hlim, fun H7 k7 => ?_⟩
        repeat walk_at "rd"
        try refine iteN (by decide) ?_
        repeat walk_at "rd"
        exact ⟨_, rfl, hT6.keep k7, P6.keep k7 (by simp) (by simp) (by omega)⟩
      · rintro σ H5 ⟨y4, rfl, hT5, P5⟩
        exact ⟨_, _, _, rfl, P5.up rfl rfl (by show 2000 * i + 900 + 4 * 2 ≤ _; omega)⟩
    · rintro σ H2 ⟨y2, y3, y4, rfl, P2⟩
      repeat walk_at "rd"
      rename_i t1 n1 t2 n2 t3 n3 S nS O nO D nD
      refine ⟨D, [some [some 1], some [some 0, some 2], some []], [0, 0, 1], 1, rfl, ⟨S, O, [.ref t1, .ref t2, .ref t3], SqT.of upd_same, SqT.of (by walk_at "lk"), SqT.of (by walk_at "lk"), rfl, fun i o ho => ?_⟩, ?_, by decide, fun H3 k3 => ?_⟩
      · match i, ho with
        | 0, ho => exact .inr ⟨t1, [some 1], (Option.some.inj ho).symm, rfl, SqT.of (by walk_at "lk")⟩
        | 1, ho => exact .inr ⟨t2, [some 0, some 2], (Option.some.inj ho).symm, rfl, SqT.of (by walk_at "lk")⟩
        | 2, ho => exact .inr ⟨t3, [], (Option.some.inj ho).symm, rfl, SqT.of (by walk_at "lk")⟩
      · refine ⟨rfl, by decide, fun m hm => ?_, by simp, by simp, by simp⟩
        match m, hm with
        | 0, hm => cases hm
        | 1, hm => cases hm
        | 2, hm => cases hm
      repeat walk_at "rd"
      try refine iteP rfl ?_
      repeat walk_at "rd"
      rename_i s0 ns0 o0 no0 D0 nD0
      refine ⟨D0, [], [], 1, rfl, ⟨s0, o0, [], SqT.of upd_same, SqT.of (by walk_at "lk"), SqT.of (by walk_at "lk"), rfl, fun i o ho => by cases ho⟩, ⟨rfl, by decide, fun m hm => by (cases hm), by simp, by simp, by simp⟩, by decide, fun H4 k4 => ?_⟩
      exact k _
end

theorem all_mk {l : PySem.W.OpenLaw} {w : World} {K : PySem.W.Frag} {h : Heap} {mg : Str → Option Value} {fa : Addr} (X : K.In h) (G : h.Ns mainGlobals mg) (hfa : mg "law" = some (.ref fa))
    {C : Addr} (aC : PySem.W.nsIn K mainGlobals "Releasing" = some (some (.ref C))) (pg : PySem.W.plainGet K C Str.empty = true) (hd : PySem.W.hasDictIn K C = true) (po : PySem.W.plainOver K C = true) (sa : PySem.W.findIn K (.ref C) "__setattr__" = some (some (.builtin "object.__setattr__"))) (mk : PySem.W.makesIn K C = true) (kc : PySem.W.keepIn K (.ref C) = true)
    (n_slots : PySem.W.findIn K (.ref C) "slots" = some none)
    (n_outside : PySem.W.findIn K (.ref C) "outside" = some none)
    (n_references : PySem.W.findIn K (.ref C) "references" = some none)
    (n_limit : PySem.W.findIn K (.ref C) "limit" = some none)
    (n_emptied : PySem.W.findIn K (.ref C) "emptied" = some none)
    (n_shelf : PySem.W.findIn K (.ref C) "shelf" = some none)
    (n_events : PySem.W.findIn K (.ref C) "events" = some none)
    {f_law_draw : Addr} {od_law_draw an_law_draw : Option Addr} {sl_law_draw : Array (Option Value)} {oc_law_draw kV_law_draw dc_law_draw pm_law_draw cd_law_draw ct_law_draw : Value}
    (a_law_draw : PySem.W.nsIn K mainGlobals "_law_draw" = some (some (.ref f_law_draw))) (l_law_draw : K.lookup f_law_draw = some ⟨oc_law_draw, od_law_draw, .func (PySem.W.fnOf "_law_draw" "_law_draw" (defArgs sQDraw) (defBody sQDraw) (defScope sQDraw) .none kV_law_draw dc_law_draw pm_law_draw an_law_draw cd_law_draw ct_law_draw), sl_law_draw⟩)
    (c_law_draw : PySem.W.codeIn K cd_law_draw "_law_draw" = true) (k_law_draw : PySem.W.keepIn K (.ref f_law_draw) = true)
    {f_law_pen : Addr} {od_law_pen an_law_pen : Option Addr} {sl_law_pen : Array (Option Value)} {oc_law_pen kV_law_pen dc_law_pen pm_law_pen cd_law_pen ct_law_pen : Value}
    (a_law_pen : PySem.W.nsIn K mainGlobals "_law_pen" = some (some (.ref f_law_pen))) (l_law_pen : K.lookup f_law_pen = some ⟨oc_law_pen, od_law_pen, .func (PySem.W.fnOf "_law_pen" "_law_pen" (defArgs sQPen) (defBody sQPen) (defScope sQPen) .none kV_law_pen dc_law_pen pm_law_pen an_law_pen cd_law_pen ct_law_pen), sl_law_pen⟩)
    (c_law_pen : PySem.W.codeIn K cd_law_pen "_law_pen" = true) (k_law_pen : PySem.W.keepIn K (.ref f_law_pen) = true)
    {f_law_shuffled : Addr} {od_law_shuffled an_law_shuffled : Option Addr} {sl_law_shuffled : Array (Option Value)} {oc_law_shuffled kV_law_shuffled dc_law_shuffled pm_law_shuffled cd_law_shuffled ct_law_shuffled : Value}
    (a_law_shuffled : PySem.W.nsIn K mainGlobals "_law_shuffled" = some (some (.ref f_law_shuffled))) (l_law_shuffled : K.lookup f_law_shuffled = some ⟨oc_law_shuffled, od_law_shuffled, .func (PySem.W.fnOf "_law_shuffled" "_law_shuffled" (defArgs sQShuffled) (defBody sQShuffled) (defScope sQShuffled) .none kV_law_shuffled dc_law_shuffled pm_law_shuffled an_law_shuffled cd_law_shuffled ct_law_shuffled), sl_law_shuffled⟩)
    (c_law_shuffled : PySem.W.codeIn K cd_law_shuffled "_law_shuffled" = true) (k_law_shuffled : PySem.W.keepIn K (.ref f_law_shuffled) = true)
    {f_law_linked : Addr} {od_law_linked an_law_linked : Option Addr} {sl_law_linked : Array (Option Value)} {oc_law_linked kV_law_linked dc_law_linked pm_law_linked cd_law_linked ct_law_linked : Value}
    (a_law_linked : PySem.W.nsIn K mainGlobals "_law_linked" = some (some (.ref f_law_linked))) (l_law_linked : K.lookup f_law_linked = some ⟨oc_law_linked, od_law_linked, .func (PySem.W.fnOf "_law_linked" "_law_linked" (defArgs sQLinked) (defBody sQLinked) (defScope sQLinked) .none kV_law_linked dc_law_linked pm_law_linked an_law_linked cd_law_linked ct_law_linked), sl_law_linked⟩)
    (c_law_linked : PySem.W.codeIn K cd_law_linked "_law_linked" = true) (k_law_linked : PySem.W.keepIn K (.ref f_law_linked) = true)
    {f_law_base : Addr} {od_law_base an_law_base : Option Addr} {sl_law_base : Array (Option Value)} {oc_law_base kV_law_base dc_law_base pm_law_base cd_law_base ct_law_base : Value}
    (a_law_base : PySem.W.nsIn K mainGlobals "_law_base" = some (some (.ref f_law_base))) (l_law_base : K.lookup f_law_base = some ⟨oc_law_base, od_law_base, .func (PySem.W.fnOf "_law_base" "_law_base" (defArgs sQBase) (defBody sQBase) (defScope sQBase) .none kV_law_base dc_law_base pm_law_base an_law_base cd_law_base ct_law_base), sl_law_base⟩)
    (c_law_base : PySem.W.codeIn K cd_law_base "_law_base" = true) (k_law_base : PySem.W.keepIn K (.ref f_law_base) = true)
    {f_live_nodes : Addr} {od_live_nodes an_live_nodes : Option Addr} {sl_live_nodes : Array (Option Value)} {oc_live_nodes kV_live_nodes dc_live_nodes pm_live_nodes cd_live_nodes ct_live_nodes : Value}
    (a_live_nodes : PySem.W.nsIn K mainGlobals "live_nodes" = some (some (.ref f_live_nodes))) (l_live_nodes : K.lookup f_live_nodes = some ⟨oc_live_nodes, od_live_nodes, .func (PySem.W.fnOf "live_nodes" "live_nodes" (defArgs sLiveNodes) (defBody sLiveNodes) (defScope sLiveNodes) .none kV_live_nodes dc_live_nodes pm_live_nodes an_live_nodes cd_live_nodes ct_live_nodes), sl_live_nodes⟩)
    (c_live_nodes : PySem.W.codeIn K cd_live_nodes "live_nodes" = true) (k_live_nodes : PySem.W.keepIn K (.ref f_live_nodes) = true)
    {f_Releasing_destroy : Addr} {od_Releasing_destroy an_Releasing_destroy : Option Addr} {sl_Releasing_destroy : Array (Option Value)} {oc_Releasing_destroy kV_Releasing_destroy dc_Releasing_destroy pm_Releasing_destroy cd_Releasing_destroy ct_Releasing_destroy : Value}
    (a_Releasing_destroy : PySem.W.findIn K (.ref C) "_destroy" = some (some (.ref f_Releasing_destroy))) (i_Releasing_destroy : PySem.W.isFn K (.ref f_Releasing_destroy) = true) (l_Releasing_destroy : K.lookup f_Releasing_destroy = some ⟨oc_Releasing_destroy, od_Releasing_destroy, .func (PySem.W.fnOf "_destroy" "Releasing._destroy" (defArgs sReleasingDestroy) (defBody sReleasingDestroy) (defScope sReleasingDestroy) .none kV_Releasing_destroy dc_Releasing_destroy pm_Releasing_destroy an_Releasing_destroy cd_Releasing_destroy ct_Releasing_destroy), sl_Releasing_destroy⟩)
    (c_Releasing_destroy : PySem.W.codeIn K cd_Releasing_destroy "Releasing._destroy" = true) (k_Releasing_destroy : PySem.W.keepIn K (.ref f_Releasing_destroy) = true)
    {f_Releasing_release : Addr} {od_Releasing_release an_Releasing_release : Option Addr} {sl_Releasing_release : Array (Option Value)} {oc_Releasing_release kV_Releasing_release dc_Releasing_release pm_Releasing_release cd_Releasing_release ct_Releasing_release : Value}
    (a_Releasing_release : PySem.W.findIn K (.ref C) "_release" = some (some (.ref f_Releasing_release))) (i_Releasing_release : PySem.W.isFn K (.ref f_Releasing_release) = true) (l_Releasing_release : K.lookup f_Releasing_release = some ⟨oc_Releasing_release, od_Releasing_release, .func (PySem.W.fnOf "_release" "Releasing._release" (defArgs sReleasingRelease) (defBody sReleasingRelease) (defScope sReleasingRelease) .none kV_Releasing_release dc_Releasing_release pm_Releasing_release an_Releasing_release cd_Releasing_release ct_Releasing_release), sl_Releasing_release⟩)
    (c_Releasing_release : PySem.W.codeIn K cd_Releasing_release "Releasing._release" = true) (k_Releasing_release : PySem.W.keepIn K (.ref f_Releasing_release) = true)
    {f_Releasing_release_all : Addr} {od_Releasing_release_all an_Releasing_release_all : Option Addr} {sl_Releasing_release_all : Array (Option Value)} {oc_Releasing_release_all kV_Releasing_release_all dc_Releasing_release_all pm_Releasing_release_all cd_Releasing_release_all ct_Releasing_release_all : Value}
    (a_Releasing_release_all : PySem.W.findIn K (.ref C) "_release_all" = some (some (.ref f_Releasing_release_all))) (i_Releasing_release_all : PySem.W.isFn K (.ref f_Releasing_release_all) = true) (l_Releasing_release_all : K.lookup f_Releasing_release_all = some ⟨oc_Releasing_release_all, od_Releasing_release_all, .func (PySem.W.fnOf "_release_all" "Releasing._release_all" (defArgs sReleasingReleaseAll) (defBody sReleasingReleaseAll) (defScope sReleasingReleaseAll) .none kV_Releasing_release_all dc_Releasing_release_all pm_Releasing_release_all an_Releasing_release_all cd_Releasing_release_all ct_Releasing_release_all), sl_Releasing_release_all⟩)
    (c_Releasing_release_all : PySem.W.codeIn K cd_Releasing_release_all "Releasing._release_all" = true) (k_Releasing_release_all : PySem.W.keepIn K (.ref f_Releasing_release_all) = true)
    {f_Releasing_drop : Addr} {od_Releasing_drop an_Releasing_drop : Option Addr} {sl_Releasing_drop : Array (Option Value)} {oc_Releasing_drop kV_Releasing_drop dc_Releasing_drop pm_Releasing_drop cd_Releasing_drop ct_Releasing_drop : Value}
    (a_Releasing_drop : PySem.W.findIn K (.ref C) "drop" = some (some (.ref f_Releasing_drop))) (i_Releasing_drop : PySem.W.isFn K (.ref f_Releasing_drop) = true) (l_Releasing_drop : K.lookup f_Releasing_drop = some ⟨oc_Releasing_drop, od_Releasing_drop, .func (PySem.W.fnOf "drop" "Releasing.drop" (defArgs sReleasingDrop) (defBody sReleasingDrop) (defScope sReleasingDrop) .none kV_Releasing_drop dc_Releasing_drop pm_Releasing_drop an_Releasing_drop cd_Releasing_drop ct_Releasing_drop), sl_Releasing_drop⟩)
    (c_Releasing_drop : PySem.W.codeIn K cd_Releasing_drop "Releasing.drop" = true) (k_Releasing_drop : PySem.W.keepIn K (.ref f_Releasing_drop) = true)
    {f_Releasing_put : Addr} {od_Releasing_put an_Releasing_put : Option Addr} {sl_Releasing_put : Array (Option Value)} {oc_Releasing_put kV_Releasing_put dc_Releasing_put pm_Releasing_put cd_Releasing_put ct_Releasing_put : Value}
    (a_Releasing_put : PySem.W.findIn K (.ref C) "put" = some (some (.ref f_Releasing_put))) (i_Releasing_put : PySem.W.isFn K (.ref f_Releasing_put) = true) (l_Releasing_put : K.lookup f_Releasing_put = some ⟨oc_Releasing_put, od_Releasing_put, .func (PySem.W.fnOf "put" "Releasing.put" (defArgs sReleasingPut) (defBody sReleasingPut) (defScope sReleasingPut) .none kV_Releasing_put dc_Releasing_put pm_Releasing_put an_Releasing_put cd_Releasing_put ct_Releasing_put), sl_Releasing_put⟩)
    (c_Releasing_put : PySem.W.codeIn K cd_Releasing_put "Releasing.put" = true) (k_Releasing_put : PySem.W.keepIn K (.ref f_Releasing_put) = true)
    {f_slot_uses : Addr} {od_slot_uses an_slot_uses : Option Addr} {sl_slot_uses : Array (Option Value)} {oc_slot_uses kV_slot_uses dc_slot_uses pm_slot_uses cd_slot_uses ct_slot_uses : Value}
    (a_slot_uses : PySem.W.nsIn K mainGlobals "slot_uses" = some (some (.ref f_slot_uses))) (l_slot_uses : K.lookup f_slot_uses = some ⟨oc_slot_uses, od_slot_uses, .func (PySem.W.fnOf "slot_uses" "slot_uses" (defArgs sSlotUses) (defBody sSlotUses) (defScope sSlotUses) .none kV_slot_uses dc_slot_uses pm_slot_uses an_slot_uses cd_slot_uses ct_slot_uses), sl_slot_uses⟩)
    (c_slot_uses : PySem.W.codeIn K cd_slot_uses "slot_uses" = true) (k_slot_uses : PySem.W.keepIn K (.ref f_slot_uses) = true)
    {f_counts : Addr} {od_counts an_counts : Option Addr} {sl_counts : Array (Option Value)} {oc_counts kV_counts dc_counts pm_counts cd_counts ct_counts : Value}
    (a_counts : PySem.W.nsIn K mainGlobals "counts" = some (some (.ref f_counts))) (l_counts : K.lookup f_counts = some ⟨oc_counts, od_counts, .func (PySem.W.fnOf "counts" "counts" (defArgs sCounts) (defBody sCounts) (defScope sCounts) .none kV_counts dc_counts pm_counts an_counts cd_counts ct_counts), sl_counts⟩)
    (c_counts : PySem.W.codeIn K cd_counts "counts" = true) (k_counts : PySem.W.keepIn K (.ref f_counts) = true)
    {f_Releasing_init : Addr} {od_Releasing_init an_Releasing_init : Option Addr} {sl_Releasing_init : Array (Option Value)} {oc_Releasing_init kV_Releasing_init dc_Releasing_init pm_Releasing_init cd_Releasing_init ct_Releasing_init : Value}
    (a_Releasing_init : PySem.W.findIn K (.ref C) "__init__" = some (some (.ref f_Releasing_init))) (i_Releasing_init : PySem.W.isFn K (.ref f_Releasing_init) = true) (l_Releasing_init : K.lookup f_Releasing_init = some ⟨oc_Releasing_init, od_Releasing_init, .func (PySem.W.fnOf "__init__" "Releasing.__init__" (defArgs sReleasingInit) (defBody sReleasingInit) (defScope sReleasingInit) .none kV_Releasing_init dc_Releasing_init pm_Releasing_init an_Releasing_init cd_Releasing_init ct_Releasing_init), sl_Releasing_init⟩)
    (c_Releasing_init : PySem.W.codeIn K cd_Releasing_init "Releasing.__init__" = true) (k_Releasing_init : PySem.W.keepIn K (.ref f_Releasing_init) = true)
    {f_Releasing_result : Addr} {od_Releasing_result an_Releasing_result : Option Addr} {sl_Releasing_result : Array (Option Value)} {oc_Releasing_result kV_Releasing_result dc_Releasing_result pm_Releasing_result cd_Releasing_result ct_Releasing_result : Value}
    (a_Releasing_result : PySem.W.findIn K (.ref C) "result" = some (some (.ref f_Releasing_result))) (i_Releasing_result : PySem.W.isFn K (.ref f_Releasing_result) = true) (l_Releasing_result : K.lookup f_Releasing_result = some ⟨oc_Releasing_result, od_Releasing_result, .func (PySem.W.fnOf "result" "Releasing.result" (defArgs sReleasingResult) (defBody sReleasingResult) (defScope sReleasingResult) .none kV_Releasing_result dc_Releasing_result pm_Releasing_result an_Releasing_result cd_Releasing_result ct_Releasing_result), sl_Releasing_result⟩)
    (c_Releasing_result : PySem.W.codeIn K cd_Releasing_result "Releasing.result" = true) (k_Releasing_result : PySem.W.keepIn K (.ref f_Releasing_result) = true)
    {f_Releasing_empty : Addr} {od_Releasing_empty an_Releasing_empty : Option Addr} {sl_Releasing_empty : Array (Option Value)} {oc_Releasing_empty kV_Releasing_empty dc_Releasing_empty pm_Releasing_empty cd_Releasing_empty ct_Releasing_empty : Value}
    (a_Releasing_empty : PySem.W.findIn K (.ref C) "empty" = some (some (.ref f_Releasing_empty))) (i_Releasing_empty : PySem.W.isFn K (.ref f_Releasing_empty) = true) (l_Releasing_empty : K.lookup f_Releasing_empty = some ⟨oc_Releasing_empty, od_Releasing_empty, .func (PySem.W.fnOf "empty" "Releasing.empty" (defArgs sReleasingEmpty) (defBody sReleasingEmpty) (defScope sReleasingEmpty) .none kV_Releasing_empty dc_Releasing_empty pm_Releasing_empty an_Releasing_empty cd_Releasing_empty ct_Releasing_empty), sl_Releasing_empty⟩)
    (c_Releasing_empty : PySem.W.codeIn K cd_Releasing_empty "Releasing.empty" = true) (k_Releasing_empty : PySem.W.keepIn K (.ref f_Releasing_empty) = true)
    {f_law_tallies : Addr} {od_law_tallies an_law_tallies : Option Addr} {sl_law_tallies : Array (Option Value)} {oc_law_tallies kV_law_tallies dc_law_tallies pm_law_tallies cd_law_tallies ct_law_tallies : Value}
    (a_law_tallies : PySem.W.nsIn K mainGlobals "_law_tallies" = some (some (.ref f_law_tallies))) (l_law_tallies : K.lookup f_law_tallies = some ⟨oc_law_tallies, od_law_tallies, .func (PySem.W.fnOf "_law_tallies" "_law_tallies" (defArgs sQTallies) (defBody sQTallies) (defScope sQTallies) .none kV_law_tallies dc_law_tallies pm_law_tallies an_law_tallies cd_law_tallies ct_law_tallies), sl_law_tallies⟩)
    (c_law_tallies : PySem.W.codeIn K cd_law_tallies "_law_tallies" = true) (k_law_tallies : PySem.W.keepIn K (.ref f_law_tallies) = true)
    {f_law_model : Addr} {od_law_model an_law_model : Option Addr} {sl_law_model : Array (Option Value)} {oc_law_model kV_law_model dc_law_model pm_law_model cd_law_model ct_law_model : Value}
    (a_law_model : PySem.W.nsIn K mainGlobals "_law_model" = some (some (.ref f_law_model))) (l_law_model : K.lookup f_law_model = some ⟨oc_law_model, od_law_model, .func (PySem.W.fnOf "_law_model" "_law_model" (defArgs sQModel) (defBody sQModel) (defScope sQModel) .none kV_law_model dc_law_model pm_law_model an_law_model cd_law_model ct_law_model), sl_law_model⟩)
    (c_law_model : PySem.W.codeIn K cd_law_model "_law_model" = true) (k_law_model : PySem.W.keepIn K (.ref f_law_model) = true)
    {f_law_after : Addr} {od_law_after an_law_after : Option Addr} {sl_law_after : Array (Option Value)} {oc_law_after kV_law_after dc_law_after pm_law_after cd_law_after ct_law_after : Value}
    (a_law_after : PySem.W.nsIn K mainGlobals "_law_after" = some (some (.ref f_law_after))) (l_law_after : K.lookup f_law_after = some ⟨oc_law_after, od_law_after, .func (PySem.W.fnOf "_law_after" "_law_after" (defArgs sQAfter) (defBody sQAfter) (defScope sQAfter) .none kV_law_after dc_law_after pm_law_after an_law_after cd_law_after ct_law_after), sl_law_after⟩)
    (c_law_after : PySem.W.codeIn K cd_law_after "_law_after" = true) (k_law_after : PySem.W.keepIn K (.ref f_law_after) = true)
    {f_law_dropped : Addr} {od_law_dropped an_law_dropped : Option Addr} {sl_law_dropped : Array (Option Value)} {oc_law_dropped kV_law_dropped dc_law_dropped pm_law_dropped cd_law_dropped ct_law_dropped : Value}
    (a_law_dropped : PySem.W.nsIn K mainGlobals "_law_dropped" = some (some (.ref f_law_dropped))) (l_law_dropped : K.lookup f_law_dropped = some ⟨oc_law_dropped, od_law_dropped, .func (PySem.W.fnOf "_law_dropped" "_law_dropped" (defArgs sQDropped) (defBody sQDropped) (defScope sQDropped) .none kV_law_dropped dc_law_dropped pm_law_dropped an_law_dropped cd_law_dropped ct_law_dropped), sl_law_dropped⟩)
    (c_law_dropped : PySem.W.codeIn K cd_law_dropped "_law_dropped" = true) (k_law_dropped : PySem.W.keepIn K (.ref f_law_dropped) = true)
    {f_law_bound : Addr} {od_law_bound an_law_bound : Option Addr} {sl_law_bound : Array (Option Value)} {oc_law_bound kV_law_bound dc_law_bound pm_law_bound cd_law_bound ct_law_bound : Value}
    (a_law_bound : PySem.W.nsIn K mainGlobals "_law_bound" = some (some (.ref f_law_bound))) (l_law_bound : K.lookup f_law_bound = some ⟨oc_law_bound, od_law_bound, .func (PySem.W.fnOf "_law_bound" "_law_bound" (defArgs sQBound) (defBody sQBound) (defScope sQBound) .none kV_law_bound dc_law_bound pm_law_bound an_law_bound cd_law_bound ct_law_bound), sl_law_bound⟩)
    (c_law_bound : PySem.W.codeIn K cd_law_bound "_law_bound" = true) (k_law_bound : PySem.W.keepIn K (.ref f_law_bound) = true)
    {f_law_loose : Addr} {od_law_loose an_law_loose : Option Addr} {sl_law_loose : Array (Option Value)} {oc_law_loose kV_law_loose dc_law_loose pm_law_loose cd_law_loose ct_law_loose : Value}
    (a_law_loose : PySem.W.nsIn K mainGlobals "_law_loose" = some (some (.ref f_law_loose))) (l_law_loose : K.lookup f_law_loose = some ⟨oc_law_loose, od_law_loose, .func (PySem.W.fnOf "_law_loose" "_law_loose" (defArgs sQLoose) (defBody sQLoose) (defScope sQLoose) .none kV_law_loose dc_law_loose pm_law_loose an_law_loose cd_law_loose ct_law_loose), sl_law_loose⟩)
    (c_law_loose : PySem.W.codeIn K cd_law_loose "_law_loose" = true) (k_law_loose : PySem.W.keepIn K (.ref f_law_loose) = true)
    {f_law_filled : Addr} {od_law_filled an_law_filled : Option Addr} {sl_law_filled : Array (Option Value)} {oc_law_filled kV_law_filled dc_law_filled pm_law_filled cd_law_filled ct_law_filled : Value}
    (a_law_filled : PySem.W.nsIn K mainGlobals "_law_filled" = some (some (.ref f_law_filled))) (l_law_filled : K.lookup f_law_filled = some ⟨oc_law_filled, od_law_filled, .func (PySem.W.fnOf "_law_filled" "_law_filled" (defArgs sQFilled) (defBody sQFilled) (defScope sQFilled) .none kV_law_filled dc_law_filled pm_law_filled an_law_filled cd_law_filled ct_law_filled), sl_law_filled⟩)
    (c_law_filled : PySem.W.codeIn K cd_law_filled "_law_filled" = true) (k_law_filled : PySem.W.keepIn K (.ref f_law_filled) = true)
    {f_law_stripped : Addr} {od_law_stripped an_law_stripped : Option Addr} {sl_law_stripped : Array (Option Value)} {oc_law_stripped kV_law_stripped dc_law_stripped pm_law_stripped cd_law_stripped ct_law_stripped : Value}
    (a_law_stripped : PySem.W.nsIn K mainGlobals "_law_stripped" = some (some (.ref f_law_stripped))) (l_law_stripped : K.lookup f_law_stripped = some ⟨oc_law_stripped, od_law_stripped, .func (PySem.W.fnOf "_law_stripped" "_law_stripped" (defArgs sQStripped) (defBody sQStripped) (defScope sQStripped) .none kV_law_stripped dc_law_stripped pm_law_stripped an_law_stripped cd_law_stripped ct_law_stripped), sl_law_stripped⟩)
    (c_law_stripped : PySem.W.codeIn K cd_law_stripped "_law_stripped" = true) (k_law_stripped : PySem.W.keepIn K (.ref f_law_stripped) = true)
    {f_held_from : Addr} {od_held_from an_held_from : Option Addr} {sl_held_from : Array (Option Value)} {oc_held_from kV_held_from dc_held_from pm_held_from cd_held_from ct_held_from : Value}
    (a_held_from : PySem.W.nsIn K mainGlobals "held_from" = some (some (.ref f_held_from))) (l_held_from : K.lookup f_held_from = some ⟨oc_held_from, od_held_from, .func (PySem.W.fnOf "held_from" "held_from" (defArgs sHeldFrom) (defBody sHeldFrom) (defScope sHeldFrom) .none kV_held_from dc_held_from pm_held_from an_held_from cd_held_from ct_held_from), sl_held_from⟩)
    (c_held_from : PySem.W.codeIn K cd_held_from "held_from" = true) (k_held_from : PySem.W.keepIn K (.ref f_held_from) = true)
    {f_sources : Addr} {od_sources an_sources : Option Addr} {sl_sources : Array (Option Value)} {oc_sources kV_sources dc_sources pm_sources cd_sources ct_sources : Value}
    (a_sources : PySem.W.nsIn K mainGlobals "_sources" = some (some (.ref f_sources))) (l_sources : K.lookup f_sources = some ⟨oc_sources, od_sources, .func (PySem.W.fnOf "_sources" "_sources" (defArgs sSources) (defBody sSources) (defScope sSources) .none kV_sources dc_sources pm_sources an_sources cd_sources ct_sources), sl_sources⟩)
    (c_sources : PySem.W.codeIn K cd_sources "_sources" = true) (k_sources : PySem.W.keepIn K (.ref f_sources) = true)
    {f_reachable : Addr} {od_reachable an_reachable : Option Addr} {sl_reachable : Array (Option Value)} {oc_reachable kV_reachable dc_reachable pm_reachable cd_reachable ct_reachable : Value}
    (a_reachable : PySem.W.nsIn K mainGlobals "reachable" = some (some (.ref f_reachable))) (l_reachable : K.lookup f_reachable = some ⟨oc_reachable, od_reachable, .func (PySem.W.fnOf "reachable" "reachable" (defArgs sReachable) (defBody sReachable) (defScope sReachable) .none kV_reachable dc_reachable pm_reachable an_reachable cd_reachable ct_reachable), sl_reachable⟩)
    (c_reachable : PySem.W.codeIn K cd_reachable "reachable" = true) (k_reachable : PySem.W.keepIn K (.ref f_reachable) = true)
    {f_law_reached : Addr} {od_law_reached an_law_reached : Option Addr} {sl_law_reached : Array (Option Value)} {oc_law_reached kV_law_reached dc_law_reached pm_law_reached cd_law_reached ct_law_reached : Value}
    (a_law_reached : PySem.W.nsIn K mainGlobals "_law_reached" = some (some (.ref f_law_reached))) (l_law_reached : K.lookup f_law_reached = some ⟨oc_law_reached, od_law_reached, .func (PySem.W.fnOf "_law_reached" "_law_reached" (defArgs sQReached) (defBody sQReached) (defScope sQReached) .none kV_law_reached dc_law_reached pm_law_reached an_law_reached cd_law_reached ct_law_reached), sl_law_reached⟩)
    (c_law_reached : PySem.W.codeIn K cd_law_reached "_law_reached" = true) (k_law_reached : PySem.W.keepIn K (.ref f_law_reached) = true)
    {f_run_collect : Addr} {od_run_collect an_run_collect : Option Addr} {sl_run_collect : Array (Option Value)} {oc_run_collect kV_run_collect dc_run_collect pm_run_collect cd_run_collect ct_run_collect : Value}
    (a_run_collect : PySem.W.nsIn K mainGlobals "run_collect" = some (some (.ref f_run_collect))) (l_run_collect : K.lookup f_run_collect = some ⟨oc_run_collect, od_run_collect, .func (PySem.W.fnOf "run_collect" "run_collect" (defArgs sRunCollect) (defBody sRunCollect) (defScope sRunCollect) .none kV_run_collect dc_run_collect pm_run_collect an_run_collect cd_run_collect ct_run_collect), sl_run_collect⟩)
    (c_run_collect : PySem.W.codeIn K cd_run_collect "run_collect" = true) (k_run_collect : PySem.W.keepIn K (.ref f_run_collect) = true)
    {f_collect : Addr} {od_collect an_collect : Option Addr} {sl_collect : Array (Option Value)} {oc_collect kV_collect dc_collect pm_collect cd_collect ct_collect : Value}
    (a_collect : PySem.W.nsIn K mainGlobals "collect" = some (some (.ref f_collect))) (l_collect : K.lookup f_collect = some ⟨oc_collect, od_collect, .func (PySem.W.fnOf "collect" "collect" (defArgs sCollect) (defBody sCollect) (defScope sCollect) .none kV_collect dc_collect pm_collect an_collect cd_collect ct_collect), sl_collect⟩)
    (c_collect : PySem.W.codeIn K cd_collect "collect" = true) (k_collect : PySem.W.keepIn K (.ref f_collect) = true)
    {f_law_collected : Addr} {od_law_collected an_law_collected : Option Addr} {sl_law_collected : Array (Option Value)} {oc_law_collected kV_law_collected dc_law_collected pm_law_collected cd_law_collected ct_law_collected : Value}
    (a_law_collected : PySem.W.nsIn K mainGlobals "_law_collected" = some (some (.ref f_law_collected))) (l_law_collected : K.lookup f_law_collected = some ⟨oc_law_collected, od_law_collected, .func (PySem.W.fnOf "_law_collected" "_law_collected" (defArgs sQCollected) (defBody sQCollected) (defScope sQCollected) .none kV_law_collected dc_law_collected pm_law_collected an_law_collected cd_law_collected ct_law_collected), sl_law_collected⟩)
    (c_law_collected : PySem.W.codeIn K cd_law_collected "_law_collected" = true) (k_law_collected : PySem.W.keepIn K (.ref f_law_collected) = true)
    {f_law_right : Addr} {od_law_right an_law_right : Option Addr} {sl_law_right : Array (Option Value)} {oc_law_right kV_law_right dc_law_right pm_law_right cd_law_right ct_law_right : Value}
    (a_law_right : PySem.W.nsIn K mainGlobals "_law_right" = some (some (.ref f_law_right))) (l_law_right : K.lookup f_law_right = some ⟨oc_law_right, od_law_right, .func (PySem.W.fnOf "_law_right" "_law_right" (defArgs sQRight) (defBody sQRight) (defScope sQRight) .none kV_law_right dc_law_right pm_law_right an_law_right cd_law_right ct_law_right), sl_law_right⟩)
    (c_law_right : PySem.W.codeIn K cd_law_right "_law_right" = true) (k_law_right : PySem.W.keepIn K (.ref f_law_right) = true)
    {f_law : Addr} {od_law an_law : Option Addr} {sl_law : Array (Option Value)} {oc_law kV_law dc_law pm_law cd_law ct_law : Value}
    (a_law : PySem.W.nsIn K mainGlobals "law" = some (some (.ref f_law))) (l_law : K.lookup f_law = some ⟨oc_law, od_law, .func (PySem.W.fnOf "law" "law" (defArgs sLaw) (defBody sLaw) (defScope sLaw) .none kV_law dc_law pm_law an_law cd_law ct_law), sl_law⟩)
    (c_law : PySem.W.codeIn K cd_law "law" = true) (k_law : PySem.W.keepIn K (.ref f_law) = true)
    (z_len : PySem.W.nsIn K mainGlobals "len" = some none)
    (z_abs : PySem.W.nsIn K mainGlobals "abs" = some none)
    (z_int : PySem.W.nsIn K mainGlobals "int" = some none)
    (z_bool : PySem.W.nsIn K mainGlobals "bool" = some none)
    (z_list : PySem.W.nsIn K mainGlobals "list" = some none)
    (z_tuple : PySem.W.nsIn K mainGlobals "tuple" = some none)
    (z_min : PySem.W.nsIn K mainGlobals "min" = some none)
    (z_max : PySem.W.nsIn K mainGlobals "max" = some none)
    (z_sum : PySem.W.nsIn K mainGlobals "sum" = some none)
    (z_any : PySem.W.nsIn K mainGlobals "any" = some none)
    (z_all : PySem.W.nsIn K mainGlobals "all" = some none)
    (z_repr : PySem.W.nsIn K mainGlobals "repr" = some none)
    (z_sorted : PySem.W.nsIn K mainGlobals "sorted" = some none)
    (z_isinstance : PySem.W.nsIn K mainGlobals "isinstance" = some none)
    (z_range : PySem.W.nsIn K mainGlobals "range" = some none)
    (z_enumerate : PySem.W.nsIn K mainGlobals "enumerate" = some none) :
    ∃ fd : FuncData, (∀ (s : Shared) (v : Value), BindsTo s fd ⟨[v], []⟩ [("_law_script", v)]) ∧ ∀ base : Heap, K.In base → base.Ns mainGlobals mg → FnG l.prog w K mg base 10 fa fd ["_law_script"] (spLaw K) := by
  have e := hfa.symm.trans (PySem.W.mg_of X G a_law)
  cases e
  have T : Txt mg := ⟨PySem.W.mg_none_of X G z_len, PySem.W.mg_none_of X G z_abs, PySem.W.mg_none_of X G z_int, PySem.W.mg_none_of X G z_bool, PySem.W.mg_none_of X G z_list, PySem.W.mg_none_of X G z_tuple, PySem.W.mg_none_of X G z_min, PySem.W.mg_none_of X G z_max, PySem.W.mg_none_of X G z_sum, PySem.W.mg_none_of X G z_any, PySem.W.mg_none_of X G z_all, PySem.W.mg_none_of X G z_repr, PySem.W.mg_none_of X G z_sorted, PySem.W.mg_none_of X G z_isinstance, PySem.W.mg_none_of X G z_range, PySem.W.mg_none_of X G z_enumerate⟩
  have F_law_draw := fun_mk (st := sQDraw) l_law_draw c_law_draw k_law_draw
  have F_law_pen := fun_mk (st := sQPen) l_law_pen c_law_pen k_law_pen
  have F_law_shuffled := fun_mk (st := sQShuffled) l_law_shuffled c_law_shuffled k_law_shuffled
  have F_law_linked := fun_mk (st := sQLinked) l_law_linked c_law_linked k_law_linked
  have F_law_base := fun_mk (st := sQBase) l_law_base c_law_base k_law_base
  have F_live_nodes := fun_mk (st := sLiveNodes) l_live_nodes c_live_nodes k_live_nodes
  have F_Releasing_destroy := fun_mk (st := sReleasingDestroy) l_Releasing_destroy c_Releasing_destroy k_Releasing_destroy
  have F_Releasing_release := fun_mk (st := sReleasingRelease) l_Releasing_release c_Releasing_release k_Releasing_release
  have F_Releasing_release_all := fun_mk (st := sReleasingReleaseAll) l_Releasing_release_all c_Releasing_release_all k_Releasing_release_all
  have F_Releasing_drop := fun_mk (st := sReleasingDrop) l_Releasing_drop c_Releasing_drop k_Releasing_drop
  have F_Releasing_put := fun_mk (st := sReleasingPut) l_Releasing_put c_Releasing_put k_Releasing_put
  have F_slot_uses := fun_mk (st := sSlotUses) l_slot_uses c_slot_uses k_slot_uses
  have F_counts := fun_mk (st := sCounts) l_counts c_counts k_counts
  have F_Releasing_init := fun_mk (st := sReleasingInit) l_Releasing_init c_Releasing_init k_Releasing_init
  have F_Releasing_result := fun_mk (st := sReleasingResult) l_Releasing_result c_Releasing_result k_Releasing_result
  have F_Releasing_empty := fun_mk (st := sReleasingEmpty) l_Releasing_empty c_Releasing_empty k_Releasing_empty
  have F_law_tallies := fun_mk (st := sQTallies) l_law_tallies c_law_tallies k_law_tallies
  have F_law_model := fun_mk (st := sQModel) l_law_model c_law_model k_law_model
  have F_law_after := fun_mk (st := sQAfter) l_law_after c_law_after k_law_after
  have F_law_dropped := fun_mk (st := sQDropped) l_law_dropped c_law_dropped k_law_dropped
  have F_law_bound := fun_mk (st := sQBound) l_law_bound c_law_bound k_law_bound
  have F_law_loose := fun_mk (st := sQLoose) l_law_loose c_law_loose k_law_loose
  have F_law_filled := fun_mk (st := sQFilled) l_law_filled c_law_filled k_law_filled
  have F_law_stripped := fun_mk (st := sQStripped) l_law_stripped c_law_stripped k_law_stripped
  have F_held_from := fun_mk (st := sHeldFrom) l_held_from c_held_from k_held_from
  have F_sources := fun_mk (st := sSources) l_sources c_sources k_sources
  have F_reachable := fun_mk (st := sReachable) l_reachable c_reachable k_reachable
  have F_law_reached := fun_mk (st := sQReached) l_law_reached c_law_reached k_law_reached
  have F_run_collect := fun_mk (st := sRunCollect) l_run_collect c_run_collect k_run_collect
  have F_collect := fun_mk (st := sCollect) l_collect c_collect k_collect
  have F_law_collected := fun_mk (st := sQCollected) l_law_collected c_law_collected k_law_collected
  have F_law_right := fun_mk (st := sQRight) l_law_right c_law_right k_law_right
  have F_law := fun_mk (st := sLaw) l_law c_law k_law
  have cR : Cls K C := ⟨pg, hd, po, sa⟩
  have hC : ClR K C := ⟨cR, n_slots, n_outside, n_references, n_limit, n_emptied, n_shelf, n_events⟩
  refine ⟨PySem.W.fnOf "law" "law" (defArgs sLaw) (defBody sLaw) (defScope sLaw) .none kV_law dc_law pm_law an_law cd_law ct_law, fun s v => .of_eq rfl, fun base _ _ => ?_⟩
  have b_law_draw := F_law_draw.binds (ps := ["_law_pen_here", "_law_most_one"]) fun _ _ _ _ _ _ us hl => match us, hl with | [_, _], _ => rfl
  have l_law_draw : Lo l.prog w K mg base "_law_draw" 1 ["_law_pen_here", "_law_most_one"] (spDraw) := ⟨f_law_draw, _, ok_draw F_law_draw T, PySem.W.mg_of X G a_law_draw, k_law_draw, b_law_draw⟩
  have b_law_pen := F_law_pen.binds (ps := ["_law_script"]) fun _ _ _ _ _ _ us hl => match us, hl with | [_], _ => rfl
  have l_law_pen : Lo l.prog w K mg base "_law_pen" 1 ["_law_script"] (spPen K) := ⟨f_law_pen, _, ok_pen F_law_pen T, PySem.W.mg_of X G a_law_pen, k_law_pen, b_law_pen⟩
  have b_law_shuffled := F_law_shuffled.binds (ps := ["_law_pen_here", "_law_row"]) fun _ _ _ _ _ _ us hl => match us, hl with | [_, _], _ => rfl
  have l_law_shuffled : Lo l.prog w K mg base "_law_shuffled" 2 ["_law_pen_here", "_law_row"] (spShuf K) := ⟨f_law_shuffled, _, ok_shuf F_law_shuffled T l_law_draw, PySem.W.mg_of X G a_law_shuffled, k_law_shuffled, b_law_shuffled⟩
  have b_law_linked := F_law_linked.binds (ps := ["_law_pen_here", "_law_labels", "_law_alive"]) fun _ _ _ _ _ _ us hl => match us, hl with | [_, _, _], _ => rfl
  have l_law_linked : Lo l.prog w K mg base "_law_linked" 2 ["_law_pen_here", "_law_labels", "_law_alive"] (spLinked K) := ⟨f_law_linked, _, ok_linked F_law_linked T l_law_draw, PySem.W.mg_of X G a_law_linked, k_law_linked, b_law_linked⟩
  have b_law_base := F_law_base.binds (ps := ["_law_pen_here"]) fun _ _ _ _ _ _ us hl => match us, hl with | [_], _ => rfl
  have l_law_base : Lo l.prog w K mg base "_law_base" 3 ["_law_pen_here"] (spBase K) := ⟨f_law_base, _, ok_base F_law_base T l_law_draw l_law_shuffled l_law_linked, PySem.W.mg_of X G a_law_base, k_law_base, b_law_base⟩
  have b_live_nodes := F_live_nodes.binds (ps := ["heap"]) fun _ _ _ _ _ _ us hl => match us, hl with | [_], _ => rfl
  have l_live_nodes : Lo l.prog w K mg base "live_nodes" 1 ["heap"] (spLive K) := ⟨f_live_nodes, _, ok_live F_live_nodes T, PySem.W.mg_of X G a_live_nodes, k_live_nodes, b_live_nodes⟩
  have b_Releasing_destroy := F_Releasing_destroy.binds (ps := ["self", "node", "depth"]) fun _ _ _ _ _ _ us hl => match us, hl with | [_, _, _], _ => rfl
  have m_destroy : Lm l.prog w K mg base C "_destroy" 1 ["self", "node", "depth"] (spDestroy K C) := ⟨f_Releasing_destroy, _, ok_destroy F_Releasing_destroy T, ⟨a_Releasing_destroy, i_Releasing_destroy, k_Releasing_destroy⟩, b_Releasing_destroy⟩
  have b_Releasing_release := F_Releasing_release.binds (ps := ["self", "holder", "slot", "node", "depth"]) fun _ _ _ _ _ _ us hl => match us, hl with | [_, _, _, _, _], _ => rfl
  have m_release : Lm l.prog w K mg base C "_release" 2 ["self", "holder", "slot", "node", "depth"] (spRelease K C) := ⟨f_Releasing_release, _, ok_release F_Releasing_release T m_destroy cR, ⟨a_Releasing_release, i_Releasing_release, k_Releasing_release⟩, b_Releasing_release⟩
  have b_Releasing_release_all := F_Releasing_release_all.binds (ps := ["self"]) fun _ _ _ _ _ _ us hl => match us, hl with | [_], _ => rfl
  have m_release_all : Lm l.prog w K mg base C "_release_all" 3 ["self"] (spReleaseAll K C) := ⟨f_Releasing_release_all, _, ok_releaseAll F_Releasing_release_all T m_release cR, ⟨a_Releasing_release_all, i_Releasing_release_all, k_Releasing_release_all⟩, b_Releasing_release_all⟩
  have b_Releasing_drop := F_Releasing_drop.binds (ps := ["self", "node"]) fun _ _ _ _ _ _ us hl => match us, hl with | [_, _], _ => rfl
  have m_drop : Lm l.prog w K mg base C "drop" 4 ["self", "node"] (spMDrop K C) := ⟨f_Releasing_drop, _, ok_mdrop F_Releasing_drop T m_release_all m_destroy cR, ⟨a_Releasing_drop, i_Releasing_drop, k_Releasing_drop⟩, b_Releasing_drop⟩
  have b_Releasing_put := F_Releasing_put.binds (ps := ["self", "node", "slot", "target"]) fun _ _ _ _ _ _ us hl => match us, hl with | [_, _, _, _], _ => rfl
  have m_put : Lm l.prog w K mg base C "put" 5 ["self", "node", "slot", "target"] (spPut K C) := ⟨f_Releasing_put, _, ok_put F_Releasing_put T m_drop cR, ⟨a_Releasing_put, i_Releasing_put, k_Releasing_put⟩, b_Releasing_put⟩
  have b_slot_uses := F_slot_uses.binds (ps := ["slots"]) fun _ _ _ _ _ _ us hl => match us, hl with | [_], _ => rfl
  have l_slot_uses : Lo l.prog w K mg base "slot_uses" 1 ["slots"] (spUses K) := ⟨f_slot_uses, _, ok_uses F_slot_uses T, PySem.W.mg_of X G a_slot_uses, k_slot_uses, b_slot_uses⟩
  have b_counts := F_counts.binds (ps := ["heap"]) fun _ _ _ _ _ _ us hl => match us, hl with | [_], _ => rfl
  have l_counts : Lo l.prog w K mg base "counts" 2 ["heap"] (spCounts K) := ⟨f_counts, _, ok_counts F_counts T l_slot_uses, PySem.W.mg_of X G a_counts, k_counts, b_counts⟩
  have b_Releasing_init := F_Releasing_init.binds (ps := ["self", "heap", "limit"]) fun _ _ _ _ _ _ us hl => match us, hl with | [_, _, _], _ => rfl
  have n_Releasing : Ln l.prog w K mg base C "Releasing" 3 ["self", "heap", "limit"] (spMInit K C) := ⟨f_Releasing_init, _, ok_minit F_Releasing_init T l_counts, ⟨mk, a_Releasing_init, i_Releasing_init, kc⟩, PySem.W.mg_of X G aC, b_Releasing_init⟩
  have b_Releasing_result := F_Releasing_result.binds (ps := ["self"]) fun _ _ _ _ _ _ us hl => match us, hl with | [_], _ => rfl
  have m_result : Lm l.prog w K mg base C "result" 1 ["self"] (spResult K C) := ⟨f_Releasing_result, _, ok_result F_Releasing_result T, ⟨a_Releasing_result, i_Releasing_result, k_Releasing_result⟩, b_Releasing_result⟩
  have b_Releasing_empty := F_Releasing_empty.binds (ps := ["self", "node"]) fun _ _ _ _ _ _ us hl => match us, hl with | [_, _], _ => rfl
  have m_empty : Lm l.prog w K mg base C "empty" 6 ["self", "node"] (spEmpty K C) := ⟨f_Releasing_empty, _, ok_empty F_Releasing_empty T m_put m_drop cR, ⟨a_Releasing_empty, i_Releasing_empty, k_Releasing_empty⟩, b_Releasing_empty⟩
  have b_law_tallies := F_law_tallies.binds (ps := ["_law_base_here"]) fun _ _ _ _ _ _ us hl => match us, hl with | [_], _ => rfl
  have l_law_tallies : Lo l.prog w K mg base "_law_tallies" 1 ["_law_base_here"] (spTallies K) := ⟨f_law_tallies, _, ok_tallies F_law_tallies T, PySem.W.mg_of X G a_law_tallies, k_law_tallies, b_law_tallies⟩
  have b_law_model := F_law_model.binds (ps := ["_law_base_here", "_law_spot", "_law_bound_here"]) fun _ _ _ _ _ _ us hl => match us, hl with | [_, _, _], _ => rfl
  have l_law_model : Lo l.prog w K mg base "_law_model" 2 ["_law_base_here", "_law_spot", "_law_bound_here"] (spModel K) := ⟨f_law_model, _, ok_model F_law_model T l_law_tallies, PySem.W.mg_of X G a_law_model, k_law_model, b_law_model⟩
  have b_law_after := F_law_after.binds (ps := ["_law_base_here", "_law_spot", "_law_log"]) fun _ _ _ _ _ _ us hl => match us, hl with | [_, _, _], _ => rfl
  have l_law_after : Lo l.prog w K mg base "_law_after" 1 ["_law_base_here", "_law_spot", "_law_log"] (spAfter K) := ⟨f_law_after, _, ok_after F_law_after T, PySem.W.mg_of X G a_law_after, k_law_after, b_law_after⟩
  have b_law_dropped := F_law_dropped.binds (ps := ["_law_base_here", "_law_spot", "_law_bound_here"]) fun _ _ _ _ _ _ us hl => match us, hl with | [_, _, _], _ => rfl
  have l_law_dropped : Lo l.prog w K mg base "_law_dropped" 3 ["_law_base_here", "_law_spot", "_law_bound_here"] (spDropped K) := ⟨f_law_dropped, _, ok_dropped F_law_dropped T l_law_model l_law_after, PySem.W.mg_of X G a_law_dropped, k_law_dropped, b_law_dropped⟩
  have b_law_bound := F_law_bound.binds (ps := ["_law_pen_here", "_law_size"]) fun _ _ _ _ _ _ us hl => match us, hl with | [_, _], _ => rfl
  have l_law_bound : Lo l.prog w K mg base "_law_bound" 2 ["_law_pen_here", "_law_size"] (spBound) := ⟨f_law_bound, _, ok_bound F_law_bound T l_law_draw, PySem.W.mg_of X G a_law_bound, k_law_bound, b_law_bound⟩
  have b_law_loose := F_law_loose.binds (ps := ["_law_pen_here", "_law_base_here"]) fun _ _ _ _ _ _ us hl => match us, hl with | [_, _], _ => rfl
  have l_law_loose : Lo l.prog w K mg base "_law_loose" 2 ["_law_pen_here", "_law_base_here"] (spLoose K) := ⟨f_law_loose, _, ok_loose F_law_loose T l_law_draw, PySem.W.mg_of X G a_law_loose, k_law_loose, b_law_loose⟩
  have b_law_filled := F_law_filled.binds (ps := ["_law_base_here", "_law_spot", "_law_place", "_law_goal", "_law_bound_here"]) fun _ _ _ _ _ _ us hl => match us, hl with | [_, _, _, _, _], _ => rfl
  have l_law_filled : Lo l.prog w K mg base "_law_filled" 4 ["_law_base_here", "_law_spot", "_law_place", "_law_goal", "_law_bound_here"] (spFilled K) := ⟨f_law_filled, _, ok_filled F_law_filled T l_law_dropped, PySem.W.mg_of X G a_law_filled, k_law_filled, b_law_filled⟩
  have b_law_stripped := F_law_stripped.binds (ps := ["_law_base_here", "_law_spot", "_law_bound_here"]) fun _ _ _ _ _ _ us hl => match us, hl with | [_, _, _], _ => rfl
  have l_law_stripped : Lo l.prog w K mg base "_law_stripped" 5 ["_law_base_here", "_law_spot", "_law_bound_here"] (spStripped K) := ⟨f_law_stripped, _, ok_stripped F_law_stripped T l_law_filled l_law_dropped, PySem.W.mg_of X G a_law_stripped, k_law_stripped, b_law_stripped⟩
  have b_held_from := F_held_from.binds (ps := ["heap", "starts"]) fun _ _ _ _ _ _ us hl => match us, hl with | [_, _], _ => rfl
  have l_held_from : Lo l.prog w K mg base "held_from" 1 ["heap", "starts"] (spHeld K) := ⟨f_held_from, _, ok_held F_held_from T, PySem.W.mg_of X G a_held_from, k_held_from, b_held_from⟩
  have b_sources := F_sources.binds (ps := ["heap"]) fun _ _ _ _ _ _ us hl => match us, hl with | [_], _ => rfl
  have l_sources : Lo l.prog w K mg base "_sources" 2 ["heap"] (spSrcs K) := ⟨f_sources, _, ok_srcs F_sources T l_live_nodes l_held_from, PySem.W.mg_of X G a_sources, k_sources, b_sources⟩
  have b_reachable := F_reachable.binds (ps := ["heap"]) fun _ _ _ _ _ _ us hl => match us, hl with | [_], _ => rfl
  have l_reachable : Lo l.prog w K mg base "reachable" 3 ["heap"] (spReach K) := ⟨f_reachable, _, ok_reach F_reachable T l_sources, PySem.W.mg_of X G a_reachable, k_reachable, b_reachable⟩
  have b_law_reached := F_law_reached.binds (ps := ["_law_base_here"]) fun _ _ _ _ _ _ us hl => match us, hl with | [_], _ => rfl
  have l_law_reached : Lo l.prog w K mg base "_law_reached" 1 ["_law_base_here"] (spReached K) := ⟨f_law_reached, _, ok_reached F_law_reached T, PySem.W.mg_of X G a_law_reached, k_law_reached, b_law_reached⟩
  have b_run_collect := F_run_collect.binds (ps := ["heap", "nodes", "limit"]) fun _ _ _ _ _ _ us hl => match us, hl with | [_, _, _], _ => rfl
  have l_run_collect : Lo l.prog w K mg base "run_collect" 7 ["heap", "nodes", "limit"] (spRunColl K C) := ⟨f_run_collect, _, ok_runColl F_run_collect T hC cR l_reachable n_Releasing m_empty, PySem.W.mg_of X G a_run_collect, k_run_collect, b_run_collect⟩
  have x_collect : Lkx l.prog w K mg base "collect" 8 ["heap", "limit"] ["limit"] (gApp 1 1) (spColl K) := ⟨f_collect, _, gApp 1 1, ok_coll F_collect T hC cR l_run_collect l_live_nodes m_result, PySem.W.mg_of X G a_collect, k_collect, ⟨fun s us ws _ hl => by have h := gApp_to (n := 1) (m := 1) hl (by decide); obtain ⟨_, rfl⟩ := len1 h.1; obtain ⟨_, rfl⟩ := len1 h.2; exact .of_eq rfl, gApp_rel⟩⟩
  have k_collect : Lkw l.prog w K mg base "collect" 8 ["heap", "limit"] ["limit", "heap"] (gRev 2) (spColl K) := ⟨f_collect, _, gRev 2, ok_coll F_collect T hC cR l_run_collect l_live_nodes m_result, PySem.W.mg_of X G a_collect, k_collect, ⟨fun s ws _ hl => by have h := gRev_to (n := 2) hl (by decide); obtain ⟨_, _, rfl⟩ := len2 h; exact .of_eq rfl, gRev_rel⟩⟩
  have b_law_collected := F_law_collected.binds (ps := ["_law_base_here", "_law_bound_here"]) fun _ _ _ _ _ _ us hl => match us, hl with | [_, _], _ => rfl
  have l_law_collected : Lo l.prog w K mg base "_law_collected" 6 ["_law_base_here", "_law_bound_here"] (spCollected K) := ⟨f_law_collected, _, ok_collected F_law_collected T l_law_reached l_law_stripped, PySem.W.mg_of X G a_law_collected, k_law_collected, b_law_collected⟩
  have b_law_right := F_law_right.binds (ps := ["_law_base_here", "_law_bound_here"]) fun _ _ _ _ _ _ us hl => match us, hl with | [_, _], _ => rfl
  have l_law_right : Lk l.prog w K mg base "_law_right" 9 ["_law_base_here", "_law_bound_here"] (spRight K) := ⟨f_law_right, _, ok_right F_law_right T l_law_reached l_law_collected x_collect k_collect, PySem.W.mg_of X G a_law_right, k_law_right, b_law_right⟩
  exact ok_law F_law T l_law_pen l_law_base l_law_loose l_law_bound l_law_right
end SF
open PySem PySem.W PyProof.Rows in
set_option maxRecDepth 100000 in
set_option maxHeartbeats 0 in
theorem PySem.Challenge.cw_slotfall_k69_collect_holds : PySem.Challenge.rw_slotfall_k69_collect.Holds := by
  w_on; o_law; k_head; (case hw => w_witness2)
  k_fill
  refine SF.walkG (l := PySem.Challenge.rw_slotfall_k69_collect) (n := 63) (k := 10) (x := "_law_script") (sp := SF.spLaw) rfl (by decide) rfl ⟨rfl, by decide, by decide⟩ (fun w h Y => PySem.W.kIn_of Y) ?F (fun _ _ a ns _ _ _ hS => ⟨a, ns, rfl, hS, fun _ => rfl⟩)
  case F =>
    intro w mg fa h KX G hmg
    refine' SF.all_mk KX G hmg ?aC ?pg ?hd ?po ?sa ?mk ?kc ?n_slots ?n_outside ?n_references ?n_limit ?n_emptied ?n_shelf ?n_events ?a_law_draw ?l_law_draw ?c_law_draw ?k_law_draw ?a_law_pen ?l_law_pen ?c_law_pen ?k_law_pen ?a_law_shuffled ?l_law_shuffled ?c_law_shuffled ?k_law_shuffled ?a_law_linked ?l_law_linked ?c_law_linked ?k_law_linked ?a_law_base ?l_law_base ?c_law_base ?k_law_base ?a_live_nodes ?l_live_nodes ?c_live_nodes ?k_live_nodes ?a_Releasing_destroy ?i_Releasing_destroy ?l_Releasing_destroy ?c_Releasing_destroy ?k_Releasing_destroy ?a_Releasing_release ?i_Releasing_release ?l_Releasing_release ?c_Releasing_release ?k_Releasing_release ?a_Releasing_release_all ?i_Releasing_release_all ?l_Releasing_release_all ?c_Releasing_release_all ?k_Releasing_release_all ?a_Releasing_drop ?i_Releasing_drop ?l_Releasing_drop ?c_Releasing_drop ?k_Releasing_drop ?a_Releasing_put ?i_Releasing_put ?l_Releasing_put ?c_Releasing_put ?k_Releasing_put ?a_slot_uses ?l_slot_uses ?c_slot_uses ?k_slot_uses ?a_counts ?l_counts ?c_counts ?k_counts ?a_Releasing_init ?i_Releasing_init ?l_Releasing_init ?c_Releasing_init ?k_Releasing_init ?a_Releasing_result ?i_Releasing_result ?l_Releasing_result ?c_Releasing_result ?k_Releasing_result ?a_Releasing_empty ?i_Releasing_empty ?l_Releasing_empty ?c_Releasing_empty ?k_Releasing_empty ?a_law_tallies ?l_law_tallies ?c_law_tallies ?k_law_tallies ?a_law_model ?l_law_model ?c_law_model ?k_law_model ?a_law_after ?l_law_after ?c_law_after ?k_law_after ?a_law_dropped ?l_law_dropped ?c_law_dropped ?k_law_dropped ?a_law_bound ?l_law_bound ?c_law_bound ?k_law_bound ?a_law_loose ?l_law_loose ?c_law_loose ?k_law_loose ?a_law_filled ?l_law_filled ?c_law_filled ?k_law_filled ?a_law_stripped ?l_law_stripped ?c_law_stripped ?k_law_stripped ?a_held_from ?l_held_from ?c_held_from ?k_held_from ?a_sources ?l_sources ?c_sources ?k_sources ?a_reachable ?l_reachable ?c_reachable ?k_reachable ?a_law_reached ?l_law_reached ?c_law_reached ?k_law_reached ?a_run_collect ?l_run_collect ?c_run_collect ?k_run_collect ?a_collect ?l_collect ?c_collect ?k_collect ?a_law_collected ?l_law_collected ?c_law_collected ?k_law_collected ?a_law_right ?l_law_right ?c_law_right ?k_law_right ?a_law ?l_law ?c_law ?k_law ?z_len ?z_abs ?z_int ?z_bool ?z_list ?z_tuple ?z_min ?z_max ?z_sum ?z_any ?z_all ?z_repr ?z_sorted ?z_isinstance ?z_range ?z_enumerate
    (case aC => k_is)
    (case pg => k_is)
    (case hd => k_is)
    (case po => k_is)
    (case sa => k_is)
    (case mk => k_is)
    (case kc => k_is)
    (case n_slots => k_is)
    (case n_outside => k_is)
    (case n_references => k_is)
    (case n_limit => k_is)
    (case n_emptied => k_is)
    (case n_shelf => k_is)
    (case n_events => k_is)
    (case a_law_draw => k_is)
    (case l_law_draw => k_is)
    (case c_law_draw => k_is)
    (case k_law_draw => k_is)
    (case a_law_pen => k_is)
    (case l_law_pen => k_is)
    (case c_law_pen => k_is)
    (case k_law_pen => k_is)
    (case a_law_shuffled => k_is)
    (case l_law_shuffled => k_is)
    (case c_law_shuffled => k_is)
    (case k_law_shuffled => k_is)
    (case a_law_linked => k_is)
    (case l_law_linked => k_is)
    (case c_law_linked => k_is)
    (case k_law_linked => k_is)
    (case a_law_base => k_is)
    (case l_law_base => k_is)
    (case c_law_base => k_is)
    (case k_law_base => k_is)
    (case a_live_nodes => k_is)
    (case l_live_nodes => k_is)
    (case c_live_nodes => k_is)
    (case k_live_nodes => k_is)
    (case a_Releasing_destroy => k_is)
    (case i_Releasing_destroy => k_is)
    (case l_Releasing_destroy => k_is)
    (case c_Releasing_destroy => k_is)
    (case k_Releasing_destroy => k_is)
    (case a_Releasing_release => k_is)
    (case i_Releasing_release => k_is)
    (case l_Releasing_release => k_is)
    (case c_Releasing_release => k_is)
    (case k_Releasing_release => k_is)
    (case a_Releasing_release_all => k_is)
    (case i_Releasing_release_all => k_is)
    (case l_Releasing_release_all => k_is)
    (case c_Releasing_release_all => k_is)
    (case k_Releasing_release_all => k_is)
    (case a_Releasing_drop => k_is)
    (case i_Releasing_drop => k_is)
    (case l_Releasing_drop => k_is)
    (case c_Releasing_drop => k_is)
    (case k_Releasing_drop => k_is)
    (case a_Releasing_put => k_is)
    (case i_Releasing_put => k_is)
    (case l_Releasing_put => k_is)
    (case c_Releasing_put => k_is)
    (case k_Releasing_put => k_is)
    (case a_slot_uses => k_is)
    (case l_slot_uses => k_is)
    (case c_slot_uses => k_is)
    (case k_slot_uses => k_is)
    (case a_counts => k_is)
    (case l_counts => k_is)
    (case c_counts => k_is)
    (case k_counts => k_is)
    (case a_Releasing_init => k_is)
    (case i_Releasing_init => k_is)
    (case l_Releasing_init => k_is)
    (case c_Releasing_init => k_is)
    (case k_Releasing_init => k_is)
    (case a_Releasing_result => k_is)
    (case i_Releasing_result => k_is)
    (case l_Releasing_result => k_is)
    (case c_Releasing_result => k_is)
    (case k_Releasing_result => k_is)
    (case a_Releasing_empty => k_is)
    (case i_Releasing_empty => k_is)
    (case l_Releasing_empty => k_is)
    (case c_Releasing_empty => k_is)
    (case k_Releasing_empty => k_is)
    (case a_law_tallies => k_is)
    (case l_law_tallies => k_is)
    (case c_law_tallies => k_is)
    (case k_law_tallies => k_is)
    (case a_law_model => k_is)
    (case l_law_model => k_is)
    (case c_law_model => k_is)
    (case k_law_model => k_is)
    (case a_law_after => k_is)
    (case l_law_after => k_is)
    (case c_law_after => k_is)
    (case k_law_after => k_is)
    (case a_law_dropped => k_is)
    (case l_law_dropped => k_is)
    (case c_law_dropped => k_is)
    (case k_law_dropped => k_is)
    (case a_law_bound => k_is)
    (case l_law_bound => k_is)
    (case c_law_bound => k_is)
    (case k_law_bound => k_is)
    (case a_law_loose => k_is)
    (case l_law_loose => k_is)
    (case c_law_loose => k_is)
    (case k_law_loose => k_is)
    (case a_law_filled => k_is)
    (case l_law_filled => k_is)
    (case c_law_filled => k_is)
    (case k_law_filled => k_is)
    (case a_law_stripped => k_is)
    (case l_law_stripped => k_is)
    (case c_law_stripped => k_is)
    (case k_law_stripped => k_is)
    (case a_held_from => k_is)
    (case l_held_from => k_is)
    (case c_held_from => k_is)
    (case k_held_from => k_is)
    (case a_sources => k_is)
    (case l_sources => k_is)
    (case c_sources => k_is)
    (case k_sources => k_is)
    (case a_reachable => k_is)
    (case l_reachable => k_is)
    (case c_reachable => k_is)
    (case k_reachable => k_is)
    (case a_law_reached => k_is)
    (case l_law_reached => k_is)
    (case c_law_reached => k_is)
    (case k_law_reached => k_is)
    (case a_run_collect => k_is)
    (case l_run_collect => k_is)
    (case c_run_collect => k_is)
    (case k_run_collect => k_is)
    (case a_collect => k_is)
    (case l_collect => k_is)
    (case c_collect => k_is)
    (case k_collect => k_is)
    (case a_law_collected => k_is)
    (case l_law_collected => k_is)
    (case c_law_collected => k_is)
    (case k_law_collected => k_is)
    (case a_law_right => k_is)
    (case l_law_right => k_is)
    (case c_law_right => k_is)
    (case k_law_right => k_is)
    (case a_law => k_is)
    (case l_law => k_is)
    (case c_law => k_is)
    (case k_law => k_is)
    (case z_len => k_is)
    (case z_abs => k_is)
    (case z_int => k_is)
    (case z_bool => k_is)
    (case z_list => k_is)
    (case z_tuple => k_is)
    (case z_min => k_is)
    (case z_max => k_is)
    (case z_sum => k_is)
    (case z_any => k_is)
    (case z_all => k_is)
    (case z_repr => k_is)
    (case z_sorted => k_is)
    (case z_isinstance => k_is)
    (case z_range => k_is)
    (case z_enumerate => k_is)

