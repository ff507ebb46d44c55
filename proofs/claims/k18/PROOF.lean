import PyProof.Rows.All
import Wide.All
import OpenK.AllK
import Wide.FinOn
import HandS.ForMost
import HandS.Conv
import HandS.More
import HandS.Wide
import HandS.Style
import HandS.Flow
import HandS.EndBits
import HandS.Walk
import HandS.Steps
import KE.GoesEnum
import KE.GoesMore
import PyProof.ReprRoads
import PyProof.ReprLen
import HandS.DictComp
import HandS.SortInts
import HandS.TupAny
import HandS.SortKw
import KE.KMinBuiltin
import HandS.IsInst
import HandS.TryOnly
import KE.KMathG
import HandS.Gcd
import KE.DataFind
import KE.KIndexOf
import HandS.Lambda
import HandS.EndTab
import KE.KNestM
import HandS.ExcInit
import HandS.ExcField
import HandS.ExcIs
import HandS.WordsExc
import HandS.ExcValue
import KE.KExcInit
import KE.KExcIs
import PySem.Challenge.RW_slotfall_k18_nodes_freed_and_kept
set_option Elab.async false
set_option linter.all false
set_option maxRecDepth 100000
set_option maxHeartbeats 4000000
set_option autoImplicit false
namespace SF
open PySem PySem.Spec PyProof.Rows L2

/-! ### promises that may lean on an empty list of guards -/
structure FnG (P : Program) (w : World) (K : PySem.W.Frag) (mg : Str → Option Value) (base : Heap) (k : Nat) (f : Addr) (fd : FuncData) (ps : List Str) (sp : Sp) : Prop where
  len : ∀ vs H Q E, sp vs H Q E → vs.length = ps.length
  run : ∀ (A : Around) (outer : List Env) (s : Shared) (H : Hp) (args : Args) (us : List Value) (vs : List V) (Q : VK) (E : XK),
    A.guards = some [] → Room k A → Env0 P w K mg base A outer s H → BindsTo s fd args (ps.zip us) → Vals vs us → sp vs H Q E →
    codeAny (model P w) A (.call (.ref f) args) (CR CX0 outer P w H s Q E) s

section
variable {P : Program} {w : World} {K : PySem.W.Frag} {mg : Str → Option Value} {base : Heap}
theorem FnG.of {k : Nat} {f : Addr} {fd : FuncData} {ps : List Str} {sp : Sp} (F : FnOk P w K mg base CX0 k f fd ps sp) : FnG P w K mg base k f fd ps sp :=
  ⟨F.len, fun A o s H a us vs Q E _ hr => F.run A o s H a us vs Q E hr⟩
theorem fnG_of {k : Nat} {f : Addr} {name qual : Str} {params : Arguments} {body : List Stmt} {scope : Scope} {kV doc pm cdv ct oc : Value} {an od : Option Addr}
    {osl : Array (Option Value)} {N ps : List Str} {sp : Sp}
    (lk : K.lookup f = some ⟨oc, od, .func (PySem.W.fnOf name qual params body scope .none kV doc pm an cdv ct), osl⟩)
    (hcd : PySem.W.codeIn K cdv qual = true) (S : FnScope N ps scope)
    (len : ∀ vs H Q E, sp vs H Q E → vs.length = ps.length)
    (hbody : ∀ (A : Around) (outer : List Env) (s : Shared) (H : Hp) (vs : List V) (Q : VK) (E : XK),
      (A.deeper (envOfC qual scope s.heap.objs.size f cdv)).guards = some [] →
      Room k (A.deeper (envOfC qual scope s.heap.objs.size f cdv)) → sp vs H Q E →
      ∃ t, PSs (cxOf CX0 P w K mg base N qual scope f cdv A outer s H E) body t ∧ t { nx := fun _ H' => Q .non H', rt := Q } (start N vs) H) :
    FnG P w K mg base (k + 1) f (PySem.W.fnOf name qual params body scope .none kV doc pm an cdv ct) ps sp := by
  constructor
  · exact len
  intro A outer s H args us vs Q E hgd hr e0 hb r hsp
  have hl := len _ _ _ _ hsp
  have inK : K.In s.heap := e0.mod.kin.keeps fun b o e => (e0.bs b o e).1
  have lim : s.heap.NoLimit := e0.mod.nolimit.keeps fun b o e => (e0.bs b o e).1
  have kinds : ∀ y ∈ ps.zip us, scope.names.lookup y.1 = some .local ∨
      (scope.names.lookup y.1 = some .cell ∧ ((cellsFrom (s.heap.objs.size + 1) scope.names []).lookup y.1).isSome = true) := by
    rintro ⟨n, v⟩ hy
    rcases S.par n (List.of_mem_zip hy).1 with q | q
    · exact Or.inl q
    · exact Or.inr ⟨q, PySem.W.cellsFrom_some _ _ _ (.inl q)⟩
  have code := PySem.W.codeRec_of inK hcd
  refine codeAny_call_function hr.depth (inK _ _ lk) rfl S.co S.gen rfl code (hb _ _ _ _ ?_)
  refine wpAny_newFunctionEnv_cells S.kind kinds fun env he s1 x => ?_
  subst he
  refine ⟨lim.keeps x.toInCall.keep, codeAny_func ?_⟩
  obtain ⟨t, ht, hq⟩ := hbody A outer s H vs Q E hgd (hr.deeper _) hsp
  have I := inv_start (CX := CX0) (E := E) (N := N) S hr.hd e0 hl r x
  refine wpAny_mono (ht.run [] s1 (start N vs) H _ I hq) (fun fl s' hs => ?_) fun e s' hs => hs
  cases fl with
  | ret u =>
    obtain ⟨v, σ', H', J, rv, q⟩ := hs
    exact ⟨v, H', J.os, J.bare, J.base, J.hok, rv, q⟩
  | next =>
    obtain ⟨σ', H', J, q⟩ := hs
    exact ⟨V.non, H', J.os, J.bare, J.base, J.hok, rfl, q⟩
  | brk =>
    obtain ⟨_, _, _, q⟩ := hs
    exact q.elim
  | cont =>
    obtain ⟨_, _, _, q⟩ := hs
    exact q.elim
theorem FnG.body {x qual : Str} {st : Stmt} {f : Addr} {fd : FuncData} {N ps : List Str} {k : Nat} {sp : Sp} (F : Fun K x qual st f fd) (S : FnScope N ps (defScope st))
    (len : ∀ vs H Q E, sp vs H Q E → vs.length = ps.length)
    (hbody : ∀ (cdv : Value) (A : Around) (outer : List Env) (s : Shared) (H : Hp) (vs : List V) (Q : VK) (E : XK),
      (A.deeper (envOfC qual (defScope st) s.heap.objs.size f cdv)).guards = some [] → Room k (A.deeper (envOfC qual (defScope st) s.heap.objs.size f cdv)) → sp vs H Q E →
      ∃ t, PSs (cxOf CX0 P w K mg base N qual (defScope st) f cdv A outer s H E).nox (defBody st) t ∧ t { nx := fun _ H' => Q .non H', rt := Q } (start N vs) H) :
    FnG P w K mg base (k + 1) f fd ps sp := by
  obtain ⟨oc, od, kV, doc, pm, an, cdv, ct, osl, rfl, lk, hcd⟩ := F.ex
  refine fnG_of lk hcd S len fun A outer s H vs Q E hgd hr hsp => ?_
  obtain ⟨t, h, q⟩ := hbody cdv A outer s H vs Q E hgd hr hsp
  exact ⟨t, h.nox, q⟩
end

/-! ### links to a callee: its promise, its place, its binding -/
structure Lk (P : Program) (w : World) (K : PySem.W.Frag) (mg : Str → Option Value) (base : Heap) (x : Str) (k : Nat) (ps : List Str) (sp : Sp) : Prop where
  ex : ∃ (f : Addr) (fd : FuncData), FnG P w K mg base k f fd ps sp ∧ mg x = some (.ref f) ∧ PySem.W.keepIn K (.ref f) = true ∧ Binds K fd ps []
/-- a callee that asks nothing of the guards -/
structure Lo (P : Program) (w : World) (K : PySem.W.Frag) (mg : Str → Option Value) (base : Heap) (x : Str) (k : Nat) (ps : List Str) (sp : Sp) : Prop where
  ex : ∃ (f : Addr) (fd : FuncData), FnOk P w K mg base CX0 k f fd ps sp ∧ mg x = some (.ref f) ∧ PySem.W.keepIn K (.ref f) = true ∧ Binds K fd ps []
theorem Lo.lk {P : Program} {w : World} {K : PySem.W.Frag} {mg : Str → Option Value} {base : Heap} {x : Str} {k : Nat} {ps : List Str} {sp : Sp} (L : Lo P w K mg base x k ps sp) : Lk P w K mg base x k ps sp := by
  obtain ⟨f, fd, a, b, c, d⟩ := L.ex
  exact ⟨f, fd, .of a, b, c, d⟩
section
variable {X : Cx} {k : Nat} {ps : List Str} {sp : Sp} {x : Str} {p pos : Pos} {e : Expr} {es : List Expr} {t tk : TA} {kws : List Keyword}
/-- what the callee's run is -/
theorem runG {pins : List (Addr × Obj)} {σ : L2.St} {H : Hp} {s : Shared} {Q : VK} {f : Addr} {fd : FuncData} {us : List Value} {kw : List (Str × Value)} {vs : List V} {ws : List Value}
    (F : FnG X.prog X.w X.K X.mg X.base k f fd ps sp) (hgd : X.A.guards = some []) (hr : Room k X.A) (hb : BindsTo s fd ⟨us, kw⟩ (ps.zip ws)) (I : Inv X pins σ H s) (r : Vals vs ws) (h : sp vs H Q E0) :
    wpAny (model X.prog X.w) X.A (call (.ref f) us kw) (EP X pins σ Q) X.xe s := by
  refine wpAny_call (codeAny_mono (F.run X.A X.stack s H ⟨us, kw⟩ ws vs Q E0 hgd hr I.env0 hb r h) fun r s' hq => ?_)
  match r, hq with
  | .ok (.ret u), hq => exact I.after hq
  | .ok .next, hq => exact hq.elim
  | .ok .brk, hq => exact hq.elim
  | .ok .cont, hq => exact hq.elim
  | .error e, hq => exact False.elim hq
theorem run0 {pins : List (Addr × Obj)} {σ : L2.St} {H : Hp} {s : Shared} {Q : VK} {f : Addr} {fd : FuncData} {us : List Value} {kw : List (Str × Value)} {vs : List V} {ws : List Value}
    (F : FnOk X.prog X.w X.K X.mg X.base CX0 k f fd ps sp) (hr : Room k X.A) (hb : BindsTo s fd ⟨us, kw⟩ (ps.zip ws)) (I : Inv X pins σ H s) (r : Vals vs ws) (h : sp vs H Q E0) :
    wpAny (model X.prog X.w) X.A (call (.ref f) us kw) (EP X pins σ Q) X.xe s := by
  refine wpAny_call (codeAny_mono (F.run X.A X.stack s H ⟨us, kw⟩ ws vs Q E0 hr I.env0 hb r h) fun r s' hq => ?_)
  match r, hq with
  | .ok (.ret u), hq => exact I.after hq
  | .ok .next, hq => exact hq.elim
  | .ok .brk, hq => exact hq.elim
  | .ok .cont, hq => exact hq.elim
  | .error e, hq => exact False.elim hq
/-- x(e, ..) -/
theorem pe_lo (L : Lo X.prog X.w X.K X.mg X.base x k ps sp) (hr : Room k X.A) (hg : Gl X x) (ha : PA X (e :: es) t)
    (hdb : (x == ("__debug__" : Str)) = false := by decide) (he : starEach (e :: es) X.env = (false, eval e X.env) :: starEach es X.env := by rfl) (hpl : (backTo pos (starEach es X.env)).any (·.1) = false := by rfl) :
    PE X (.Call (.Name x p) (e :: es) [] pos) (tCall sp [] E0 t) := by
  obtain ⟨f, fd, F, hm, hk, hb⟩ := L.ex
  exact pe_call F hr hg hm hk hb .nil pass0 ha hdb he hpl
theorem pe_lk (L : Lk X.prog X.w X.K X.mg X.base x k ps sp) (hgd : X.A.guards = some []) (hr : Room k X.A) (hg : Gl X x) (ha : PA X (e :: es) t)
    (hdb : (x == ("__debug__" : Str)) = false := by decide) (he : starEach (e :: es) X.env = (false, eval e X.env) :: starEach es X.env := by rfl) (hpl : (backTo pos (starEach es X.env)).any (·.1) = false := by rfl) :
    PE X (.Call (.Name x p) (e :: es) [] pos) (tCall sp [] E0 t) := by
  obtain ⟨f, fd, F, hm, hk, hb⟩ := L.ex
  constructor
  intro pins s σ H Q I h
  refine wpAny_Call_Name_kw (ld_glob I hg hm ?_ hdb)
  refine PySem.W.callWith_K (h₀ := X.base) I.ok.mod.kin hk (thn (ha.run pos pins s σ H _ I h) ?_) he hpl
  rintro us s1 ⟨vs, H1, I1, r, q⟩
  have q' : sp vs H1 Q E0 := by simpa using q
  have hl : us.length = ps.length := r.length ▸ F.len _ _ _ _ q'
  have hb1 := hb s1 us I1.kIn (by simpa using hl)
  simp only [List.append_nil] at hb1
  exact ⟨I1.kIn, runG F hgd hr hb1 I1 r q'⟩
/-- the promise at the keywords' values in the parameters' order: gV -/
def tCallKw (sp : Sp) (gV : List V → List V) (tk : TA) : TE := fun σ H Q => tk σ H fun zs H1 => sp (gV zs) H1 Q E0
structure KB (K : PySem.W.Frag) (fd : FuncData) (ps ks : List Str) (g : List Value → List Value) (gV : List V → List V) : Prop where
  to : ∀ (s : Shared) (ws : List Value), K.In s.heap → (g ws).length = ps.length → BindsTo s fd ⟨[], ks.zip ws⟩ (ps.zip (g ws))
  rel : ∀ {zs : List V} {ws : List Value}, Vals zs ws → Vals (gV zs) (g ws)
/-- x(k = v, ..) -/
theorem pe_kw0 {f : Addr} {fd : FuncData} {ks : List Str} {g : List Value → List Value} {gV : List V → List V} (F : FnOk X.prog X.w X.K X.mg X.base CX0 k f fd ps sp) (hr : Room k X.A) (hg : Gl X x) (hm : X.mg x = some (.ref f)) (hk : PySem.W.keepIn X.K (.ref f) = true)
    (hb : KB X.K fd ps ks g gV) (hkw : PK X kws tk)
    (hall : (backToKw pos (keywordEach kws X.env)).all (·.1.isSome) = true := by rfl) (hks : (backToKw pos (keywordEach kws X.env)).filterMap (·.1) = ks := by rfl)
    (hdb : (x == ("__debug__" : Str)) = false := by decide)
    (hpl : ((backTo pos (starEach [] X.env)).any (·.1) || (backToKw pos (keywordEach kws X.env)).any (·.1.isNone)) = false := by rfl) :
    PE X (.Call (.Name x p) [] kws pos) (tCallKw sp gV tk) := by
  constructor
  intro pins s σ H Q I h
  refine wpAny_Call_Name_kw (ld_glob I hg hm ?_ hdb)
  refine PySem.W.callWith_KW0 (h₀ := X.base) I.ok.mod.kin hk hall ?_ hpl
  refine thn (hkw.run pos pins s σ H _ I h) ?_
  rintro ws s2 ⟨zs, H2, I2, rz, q2⟩
  refine ⟨I2.kIn, ?_⟩
  rw [hks]
  have r2 := hb.rel rz
  have hl : (g ws).length = ps.length := r2.length ▸ F.len _ _ _ _ q2
  exact run0 F hr (hb.to s2 ws I2.kIn hl) I2 r2 q2
end

/-! ### repr of data -/
section
variable {X : Cx}
def rRepr (K : PySem.W.Frag) : List V → Hp → VK → Prop := fun xs H Q => ∃ a d, xs = [.ref a] ∧ Dp K H (.ref a) d ∧ d.showable = true ∧ d.hasDict = false ∧ d.depth ≤ 60 ∧ d.shown.length ≤ sizeLine ∧ Q (.str d.shown) H
theorem call_repr (hgd : X.A.guards = some []) (hu : X.A.units + 64 < cLine) : CallR X (.builtin "repr") (rRepr X.K) := by
  intro pins s σ H xs us Q I r h
  obtain ⟨a, d, rfl, hd, h1, h2, h3, h4, q⟩ := h
  rw [Vals.ref1 r]
  obtain ⟨as, hr⟩ := Dp.reads I d _ (.ref a) hd rfl
  refine repr_of_reads' hr h1 (PyData.noDict_hsm h2) hgd (by omega) (fun _ _ e => e) (fun h' u tk hk => ?_) h4
  exact ⟨.str d.shown, H, I.kept hk, ⟨u, rfl⟩, q⟩
end


/-! ### enumerate(tuple) -/
theorem meets_enum_newT (l : Addr) (items : Array Value) :
    Meets (Builtin.«enumerate.__new__» ⟨[.type "enumerate", .ref l], []⟩) (fun _ R s => s.heap.IsTuple l items ∧
      R (.ok (.ret (.ref (s.heap.push { cls := .type "tuple_iterator", data := .fields #[.ref l, .int 0 0] }).objs.size)))
        { s with heap := (s.heap.push { cls := .type "tuple_iterator", data := .fields #[.ref l, .int 0 0] }).push { cls := .type "enumerate", data := .fields #[.none, .bool false, .ref s.heap.objs.size, rawInt 0, .none, .none] } }) :=
  .of_wp fun prog w A R s h => by
    obtain ⟨hp, g, d, tk, os⟩ := s
    obtain ⟨hl, h⟩ := h
    have hsub := sub_enumerate
    have hT : Heap.IsTuple (Shared.heap ⟨hp, g, d, tk, os⟩) l items := hl
    obtain ⟨⟨c, dct, dt, sl⟩, ho, hc, n, hd⟩ := id hl
    replace hc : c = .type "tuple" := hc
    replace hd : dt = .seq items n := hd
    subst hc hd
    wp_walk using AutoSeq1.wpAny_loadPart' ho
    refine wpAny_stack_any fun st => wpAny_pure ?_
    split
    · rename_i c _ _ _ _ _
      cases (c == Value.type "enumerate")
      · wp_walk using AutoSeq1.wpAny_loadPart' ho, wpAny_pyIter_tuple hT
        exact ⟨_, rfl, h⟩
      · wp_walk using AutoSeq1.wpAny_loadPart' ho, wpAny_pyIter_tuple hT
        exact ⟨_, rfl, h⟩
    · wp_walk using AutoSeq1.wpAny_loadPart' ho, wpAny_pyIter_tuple hT
      exact ⟨_, rfl, h⟩
theorem call_enum_tup {prog : Program} {w : World} {A : Around} {E : Value → Shared → Prop} {s : Shared} {l : Addr} {items : Array Value} {Q : Value → Shared → Prop} (hL : s.heap.IsTuple l items)
    (h : ∀ h', IsEnum h' (s.heap.objs.size + 1) s.heap.objs.size 0 .none → h'.IsTupleIter s.heap.objs.size l 0 → h'.objs.size = s.heap.objs.size + 2 →
      (∀ b o, s.heap.get? b = some o → h'.get? b = some o) → Q (.ref (s.heap.objs.size + 1)) { s with heap := h' }) :
    wpAny (model prog w) A (call (.type "enumerate") [.ref l]) Q E s := by
  refine callType_new F.called_enumerate (by decide) (F.typeCall_enumerate_1 _) (F.newCall_enumerate_1 _) (fun obj => F.args_object_init_2 obj _) F.entry_enumerate_new (meets_enum_newT l items) ⟨hL, ?_⟩
  have hz : (s.heap.push { cls := .type "tuple_iterator", data := .fields #[.ref l, .int 0 0] }).objs.size = s.heap.objs.size + 1 := Heap.size_push ..
  show _ ∧ _
  rw [hz]
  have he := Heap.get?_push_size (s.heap.push { cls := .type "tuple_iterator", data := .fields #[.ref l, .int 0 0] })
      (o := { cls := .type "enumerate", data := .fields #[.none, .bool false, .ref s.heap.objs.size, rawInt 0, .none, .none] }) rfl
  rw [hz] at he
  refine ⟨⟨_, he, rfl⟩, h _ he ⟨_, Heap.get?_push_of_some _ (Heap.get?_push_size _ rfl), rfl, rfl⟩ (by rw [Heap.size_push, hz]) ?_⟩
  exact fun b o x => Heap.get?_push_of_some _ (Heap.get?_push_of_some _ x)
def IteT (K : PySem.W.Frag) (a : Addr) : It where
  go := fun i H => ∃ (xs : List V) (x : V), SqT K H a xs ∧ xs[i]? = some x
  yld := fun i H v H' => ∃ T x, v = .ref T ∧ H T = none ∧ H' = upd H T (.tup [.int (i : Nat), x]) ∧ ∀ xs, SqT K H a xs → xs[i]? = some x
  stop := fun i H => ∃ xs : List V, SqT K H a xs ∧ xs.length ≤ i
theorem turn_enumT {P : Program} {w : World} {K : PySem.W.Frag} {elts : List Expr} {kk : Nat} {tpos : Pos} (a e it : Addr) :
    Turn P w K (.Tuple elts kk tpos) (IteT K a) [e, it] e (fun i h => (∃ old, IsEnum h e it ((i : Nat) : Int) old) ∧ h.IsTupleIter it a i ∧ e ≠ it) where
  mem := List.mem_cons_self
  obj := by
    rintro i h ⟨⟨old, he⟩, ⟨o, ho, hc, hd⟩, _⟩ b hb
    have cs : b = e ∨ b = it := by simpa using hb
    rcases cs with rfl | rfl
    · exact ⟨_, he, fun v q => nomatch q⟩
    · exact ⟨o, ho, fun v q => by rw [hd] at q; cases q⟩
  keep := by
    rintro i h h' ⟨⟨old, he⟩, hi, hne⟩ k
    exact ⟨⟨old, k e (by simp) _ he⟩, hi.at fun o q => k it (by simp) o q, hne⟩
  item := by
    intro X hP hw hK hc i pins s σ H E I hf st hg
    subst hP hw hK
    obtain ⟨⟨old, he⟩, hit, hne⟩ := st
    obtain ⟨xs, x, hq, hx⟩ := hg
    obtain ⟨its, rv, p, hz⟩ := I.tuple hq
    obtain ⟨u, hu, ru⟩ := rv.get hx
    have hel : e < s.heap.objs.size := Heap.lt_size he
    have hil : it < s.heap.objs.size := by
      obtain ⟨_, q, _⟩ := hit
      exact Heap.lt_size q
    have hha : X.A.in1.handled = none := I.ok.hd hc
    have pa : s.heap.IsTuple a its.toArray := p
    have nai : a ≠ it := by
      rintro rfl
      obtain ⟨o, q1, q2, q3⟩ := hit
      obtain ⟨o', q1', q2', n', q3'⟩ := pa
      rw [q1] at q1'
      cases q1'
      rw [q3] at q3'
      cases q3'
    have nae : a ≠ e := by
      rintro rfl
      obtain ⟨o', q1', q2', n', q3'⟩ := pa
      rw [show s.heap.get? a = _ from he] at q1'
      cases q1'
      cases q3'
    refine wpAny_pyNext_enum_itemD (n := its.toArray.size) (Draws.tuple hha it a nai its.toArray) he ⟨hit, pa⟩ (by have := List.getElem?_eq_some_iff.mp hu; obtain ⟨q, _⟩ := this; simpa using q) hne (by simp [hne, Ne.symm nae]) fun y h' tk hy ho hst hT hsz hk => ?_
    have ey : y = u := by
      have hy' : its.toArray[i]? = some y := hy
      have : its[i]? = some y := by simpa using hy'
      rw [hu] at this
      exact (Option.some.inj this).symm
    subst ey
    refine ⟨_, rfl, wpAny_letOwnedTupleGo_enum (s := { s with heap := h', toks := tk + 1 }) ho fun h'' he' sb => ?_⟩
    have hT2 : h''.get? s.heap.objs.size = some { cls := .type "tuple", data := .seq #[.int i tk, y] } := (sb.2 _ (Nat.ne_of_gt hel)).trans hT
    have new : ObjOk X.prog X.w (upd H s.heap.objs.size (.tup [.int (i : Nat), x])) h'' s.heap.objs.size (.tup [.int (i : Nat), x]) :=
      ⟨by show 2 ≤ sizeLine; decide, [.int i tk, y], .cons ⟨_, rfl⟩ (.cons ru .nil), ⟨_, hT2, rfl, _, rfl⟩⟩
    have I1 : Inv X pins σ (upd H s.heap.objs.size (.tup [.int (i : Nat), x])) { s with heap := h'', toks := tk + 1 } :=
      I.turnedNew (ch := [e, it]) (fun b ob hb q => (sb.2 b (fun z => hb (by simp [z]))).trans (hk b ob (fun z => hb (by simp [z])) (fun z => hb (by simp [z])) q)) hf (Nat.le_refl _) new
    refine ⟨.ref s.heap.objs.size, _, I1, rfl, ⟨_, x, rfl, I.hok.fresh (Nat.le_refl _), rfl, fun ys hy => by rw [I.tuple_inj hy hq]; exact hx⟩, ⟨⟨y, ?_⟩, hst.1.at fun o q => (sb.2 it (Ne.symm hne)).trans q, hne⟩, fun b hb => ?_⟩
    · have e1 : ((i + 1 : Nat) : Int) = (i : Int) + 1 := by omega
      rw [e1]
      exact he'
    · have cs : b = e ∨ b = it := by simpa using hb
      have hb' : b < s.heap.objs.size := by
        rcases cs with rfl | rfl
        · exact hel
        · exact hil
      rw [upd_ne (Nat.ne_of_lt hb')]
      exact (hf b hb).1
  done := by
    intro X hP hw hK hc i pins s σ H E I hf st hg
    subst hP hw hK
    obtain ⟨⟨old, he⟩, hit, hne⟩ := st
    obtain ⟨xs, hq, hx⟩ := hg
    obtain ⟨its, rv, p, hz⟩ := I.tuple hq
    obtain ⟨f0, f1, f2, f3, f4, f5⟩ := hf it (by simp)
    have pa : s.heap.IsTuple a its.toArray := p
    have hha : X.A.in1.handled = none := I.ok.hd hc
    have nai : a ≠ it := by
      rintro rfl
      obtain ⟨o, q1, q2, q3⟩ := hit
      obtain ⟨o', q1', q2', n', q3'⟩ := pa
      rw [q1] at q1'
      cases q1'
      rw [q3] at q3'
      cases q3'
    -- an iterator behind the end stands like one at the end: the next of it is told apart
    unfold pyNext
    have hT : s.TypeIs (.ref e) "enumerate" := ⟨_, he, rfl⟩
    refine wpAny_bind (wpAny_attempt (wpAny_callSpecial?_slot (name := Str.ofString "__next__") hT F.slot_enumerate_next
      (wpAny_call_entry F.slot_enumerate_next hT F.entry_enumerate_next ?_ (F.args_enumerate_next_1 _))))
    show wpAny _ _ (field (.ref e) 2 >>= _) _ _ _
    refine wpAny_bind (wpAny_field he rfl (x := .ref it) rfl ?_)
    refine wpAny_bind (wpAny_nextOf_tuple_end hha hit pa (by simp; have := rv.length; omega) fun h' x he' hx' => ?_)
    obtain ⟨o, ho, hc⟩ := hx'
    refine wpAny_bind (wpAny_isInstance (T := "StopIteration") (b := true) ⟨o, ho, hc⟩ isSubtype_stop ?_)
    exact wpAny_pure ⟨rfl, I.turned (t' := s.toks) (fun b o hb q => he' b o hb q) f0 f1 f3 f4 f5⟩
  self := fun A i s Q E st h => let ⟨⟨_, he⟩, _⟩ := st; wpAny_pyIter_enum he h
def iEnumT (K : PySem.W.Frag) (ta : TA) : TI := fun σ H R => ta σ H fun vs H1 => ∃ a xs, vs = [.ref a] ∧ SqT K H1 a xs ∧ R (IteT K a) H1
theorem pi_enumT {X : Cx} {e : Expr} {ta : TA} {p pos tpos : Pos} {elts : List Expr} {kk : Nat} (hg : Gl X "enumerate") (hm : X.mg "enumerate" = none) (ha : PA X [e] ta)
    (hs : starEach [e] X.env = [(false, eval e X.env)] := by rfl) : PI X (.Tuple elts kk tpos) (.Call (.Name "enumerate" p) [e] [] pos) (iEnumT X.K ta) := by
  constructor
  intro pins s σ H R I h
  refine Call_ (ld_blt I hg hm boot_enumerate (PyProof.Rows.callWith_type1 (thn (ha.run pos pins s σ H _ I h) ?_) hs rfl))
  rintro us s1 ⟨vs, H1, I1, r1, a, xs, ex, hq, q⟩
  subst ex
  rw [Vals.ref1 r1]
  obtain ⟨its, rv, p', hz⟩ := I1.tuple hq
  refine call_enum_tup p' fun h' he hit hsz hk => wpAny_pyIter_enum he ?_
  have I2 : Inv X pins σ H1 { s1 with heap := h' } := I1.kept (t' := s1.toks) hk
  refine ⟨s1.heap.objs.size + 1, [s1.heap.objs.size + 1, s1.heap.objs.size], _, _, H1, rfl, I2, turn_enumT a (s1.heap.objs.size + 1) s1.heap.objs.size, ⟨⟨.none, he⟩, hit, Nat.succ_ne_self _⟩, fun b hb => ?_, q⟩
  have cs : b = s1.heap.objs.size + 1 ∨ b = s1.heap.objs.size := by simpa using hb
  have hle : s1.heap.objs.size ≤ b := by
    rcases cs with z | z
    · rw [z]
      exact Nat.le_succ _
    · rw [z]
      exact Nat.le_refl _
  exact I1.fpOk hle (I1.hok.fresh hle)
theorem walk_enumT {K : PySem.W.Frag} {a : Addr} {xs : List V} : Walk (IteT K a) xs.length (fun H => SqT K H a xs) (YPair (fun i => some (.int (i : Nat))) (fun i => xs[i]?)) := by
  refine ⟨fun i _ hi q => ⟨xs, xs[i], q, by simp [hi]⟩, fun _ q => ⟨xs, q, Nat.le_refl _⟩, ?_⟩
  rintro i H v H' _ q ⟨T, x, h1, h2, h3, h4⟩
  exact ⟨T, .int (i : Nat), x, h1, h2, h3, rfl, h4 xs q⟩

/-! ### tuple.count of flat items -/
section
variable {X : Cx}
def rCountT (K : PySem.W.Frag) : V → List V → Hp → VK → Prop := fun x vs H Q => ∃ (a : Addr) (ys : List V) (y : V), x = V.ref a ∧ vs = [y] ∧ SqT K H a ys ∧ flatV y = true ∧ ys.all flatV = true ∧ Q (.int ((ys.countP fun z => eqV z y : Nat) : Int)) H
theorem countP_vals {y : V} : ∀ {xs : List V} {us : List Value}, Vals xs us → xs.all flatV = true → us.countP (eqU y) = xs.countP fun z => eqV z y
  | _, _, .nil, _ => rfl
  | x :: xs, u :: us, .cons r t, f => by
    rw [List.all_cons, Bool.and_eq_true] at f
    rw [List.countP_cons, List.countP_cons, countP_vals t f.2, eqU_of r f.1]
theorem mt_countT : MtR X "tuple.count" (rCountT X.K) := by
  intro pins s σ H x xs v us Q I rx rxs h
  obtain ⟨a, ys, y, rfl, rfl, hs, fy, fys, q⟩ := h
  cases rx
  cases rxs with
  | cons ry rt =>
    rename_i uy ut
    cases rt
    obtain ⟨its, rv, ⟨o, ho, hc, n, hd⟩, hlen⟩ := I.tuple hs
    obtain ⟨cls, dd, data, sl⟩ := o
    replace hc : cls = _ := hc
    replace hd : data = _ := hd
    subst hc hd
    refine call_meets PySem.F.slot_tuple_count ⟨_, ho, rfl⟩ PySem.F.entry_tuple_count (PySem.F.args_tuple_count_2 _ _)
      (SeqAt.tuple_countAt a its.toArray n dd sl uy (eqU y)) ⟨ho, fun u' hu' => mem_eqAt ry fy rv fys u' (by simpa using hu'), ?_⟩
    have e1 : its.toArray.toList.countP (eqU y) = ys.countP fun z => eqV z y := by
      rw [List.toList_toArray]
      exact countP_vals rv fys
    rw [e1]
    exact ⟨.int ((ys.countP fun z => eqV z y : Nat) : Int), H, I.tok _, ⟨_, rfl⟩, q⟩
end


/-- the law's own run from an abstract heap that knows the script alone, where the promise may lean on the empty list of guards -/
theorem lawG {P : Program} {w : World} {K : PySem.W.Frag} {mg mb : Str → Option Value} {k : Nat} {fa a : Addr} {fd : FuncData} {x : Str} {sp : Sp} {s₁ : Shared} {vs : List Value} {ns : List Int}
    (KX : K.In s₁.heap) (hns : s₁.heap.Ns mainGlobals mg) (hb : s₁.heap.Ns builtinsNs mb) (hbb : ∀ x : Str, x ≠ "__name__" → mb x = bootBuiltins x) (hlim : s₁.heap.NoLimit) (hg : s₁.gens = #[])
    (ha : s₁.heap.get? a = some { cls := .type "list", data := .seq vs.toArray }) (hi : IntsAre vs ns) (hl : ns.length ≤ sizeLine) (hr : Room k callerA)
    (F : ∀ base : Heap, K.In base → base.Ns mainGlobals mg → FnG P w K mg base k fa fd [x] sp) (hbind : ∀ (s : Shared) (u : Value), BindsTo s fd ⟨[u], []⟩ [(x, u)])
    (hsp : ∀ H : Hp, Only H → SqL K H a (ns.map V.int) → sp [.ref a] H (fun v _ => v = .bl true) E0) :
    codeAny (model P w) callerA (.call (.ref fa) ⟨[.ref a], []⟩)
      (fun r s' => r = .ok (.ret (.bool true)) ∧ OldK s₁.heap s'.heap ∧ s'.os = s₁.os ∧ AllBare s'.gens) s₁ := by
  have rv := vals_ints hi
  have lenV := hi.length
  have core : ∀ H : Hp, Only H → SqL K H a (ns.map V.int) → HOk P w H s₁.heap → (∀ b, H b ≠ none → b = a) → (H a ≠ none → K.lookup a = none) →
      codeAny (model P w) callerA (.call (.ref fa) ⟨[.ref a], []⟩)
        (fun r s' => r = .ok (.ret (.bool true)) ∧ OldK s₁.heap s'.heap ∧ s'.os = s₁.os ∧ AllBare s'.gens) s₁ := by
    intro H hO hS hok hA hK
    have dicts : ∀ {b : Addr} {o : Obj} {es : Array DictEntry} {ep : Nat}, s₁.heap.get? b = some o → o.data = .dict es ep → H b = none := by
      intro b o es ep e d
      match q : H b with
      | none => rfl
      | some u =>
        have eb : b = a := hA b (by rw [q]; simp)
        rw [eb, ha] at e
        rw [← Option.some.inj e] at d
        cases (show Data.seq vs.toArray _ = Data.dict es ep from d)
    have ns' : ∀ {b : Addr} {m : Str → Option Value}, s₁.heap.Ns b m → (hidT s₁.heap H).Ns b m := by
      rintro b m ⟨o, es, ep, e, d, r⟩
      exact ⟨o, es, ep, hidT_get e (dicts e d), d, r⟩
    have inK : K.In (hidT s₁.heap H) := by
      intro b o e
      refine hidT_get (KX b o e) ?_
      match q : H b with
      | none => rfl
      | some u =>
        have eb : b = a := hA b (by rw [q]; simp)
        rw [eb, hK (by rw [← eb, q]; simp)] at e
        cases e
    have md : Mod K mg (hidT s₁.heap H) := by
      obtain ⟨mc, h1, h2⟩ := hlim
      exact ⟨inK, ns' hns, ⟨mb, ns' hb, hbb⟩, ⟨mc, ns' h1, h2⟩⟩
    have e0 : Env0 P w K mg (hidT s₁.heap H) callerA [] s₁ H := by
      refine ⟨rfl, md, fun b o e => of_hidT e, ?_, trivial, ?_, hok, .of_eq hg⟩
      · exact Nat.le_of_eq (hidT_size _ _)
      · exact fun b hb => absurd (show b ∈ ([] : List Addr) from hb) (by simp)
    have run := (F _ inK (ns' hns)).run callerA [] s₁ H ⟨[.ref a], []⟩ [.ref a] [.ref a] _ _ rfl hr e0 (hbind s₁ (.ref a)) (.cons rfl .nil) (hsp H hO hS)
    refine codeAny_mono run fun r s' h => ?_
    match r, h with
    | .error e, h => exact False.elim h
    | .ok .next, h => exact False.elim h
    | .ok .brk, h => exact False.elim h
    | .ok .cont, h => exact False.elim h
    | .ok (.ret u), h =>
      obtain ⟨v, H', os, bare, un, hok', r', q⟩ := h
      replace q : v = .bl true := q
      subst q
      obtain rfl : u = Value.bool true := r'
      refine ⟨rfl, OldK.of_keep ?_, os, bare⟩
      intro b o e
      match q : H b with
      | none => exact un.keep b o e q (fun z => absurd (show b ∈ ([] : List Addr) from z) (by simp)) (by simp)
      | some u =>
        rcases hO b with z | ⟨ob, xs, z⟩
        · rw [q] at z
          cases z
        · obtain ⟨e1, _⟩ := hok b _ z
          obtain ⟨e2, _⟩ := hok' b _ (un.frzs b ob _ z)
          rw [e] at e1
          rw [Option.some.inj e1]
          exact e2
  match hk : K.lookup a with
  | some o =>
    have e := KX a o hk
    rw [ha] at e
    have eo := Option.some.inj e
    subst eo
    refine core (fun _ => none) (fun _ => .inl rfl) (.inr ⟨_, vs.toArray, _, hk, rfl, rfl, rfl, ?_, by simpa using rv⟩) (fun b u z => ?_) (fun b z => absurd rfl z) fun z => absurd rfl z
    · rw [List.size_toArray, lenV]
      exact hl
    · cases (show (none : Option HO) = some u from z)
  | none =>
    let Hs : Hp := fun b => if b = a then some (.frz { cls := .type "list", data := .seq vs.toArray } (.lst (ns.map V.int))) else none
    have hs1 : Hs a = some (.frz { cls := .type "list", data := .seq vs.toArray } (.lst (ns.map V.int))) := if_pos rfl
    have hs2 : ∀ b, b ≠ a → Hs b = none := fun b hb => if_neg hb
    have hs3 : ∀ b, Hs b ≠ none → b = a := fun b z => Classical.byContradiction fun hb => z (hs2 b hb)
    refine core Hs (fun b => ?_) (.inl (.inr ⟨{ cls := .type "list", data := .seq vs.toArray }, hs1⟩)) (fun b u z => ?_) hs3 fun _ => hk
    · by_cases hb : b = a
      · exact .inr ⟨_, _, hb ▸ hs1⟩
      · exact .inl (hs2 b hb)
    · have eb : b = a := hs3 b (by rw [z]; simp)
      rw [eb, hs1] at z
      rw [← Option.some.inj z, eb]
      exact ⟨ha, by rw [List.length_map]; exact hl, vs, _, rv, ha⟩
/-- the goal that k_head leaves, from such a promise of the law -/
theorem walkG {l : PySem.W.OpenLaw} {n k : Nat} {q : Program} {loose : List Str} {XP : (Str → Option Value) → Heap → Prop} {YP : World → Heap → Prop} {d : DefRec} {K : Params → PySem.W.Frag} {sp : PySem.W.Frag → Sp} {x : Str}
    (hn : l.most = some n) (hn2 : n ≤ sizeLine) (hdf : d.params.defaults = []) (hr : Room k callerA)
    (hY : ∀ (w : World) (h : Heap), YP w h → (K w.params).In h)
    (F : ∀ (w : World) (mg : Str → Option Value) (fa : Addr) (h : Heap), (K w.params).In h → h.Ns mainGlobals mg → mg d.name = some (.ref fa) →
      ∃ fd : FuncData, (∀ (s : Shared) (u : Value), BindsTo s fd ⟨[u], []⟩ [(x, u)]) ∧
        ∀ base : Heap, (K w.params).In base → base.Ns mainGlobals mg → FnG l.prog w (K w.params) mg base k fa fd [x] (sp (K w.params)))
    (hsp : ∀ (K : PySem.W.Frag) (H : Hp) (a : Addr) (ns : List Int), ns.length ≤ n → (∀ z ∈ ns, Builtin.Int.intBits z ≤ 1048576) → Only H → SqL K H a (ns.map V.int) → sp K [.ref a] H (fun v _ => v = .bl true) E0) :
    PySem.W.WalkO q loose XP YP l.row.toRowW d [] (fun f vs => PySem.call f vs) := by
  refine Att.attach_callB hn hdf ?_
  intro w s₀ s₁ mg mb fa o pm cd doc a vs ns G Y ho hd hcd hmg hobj hints hlen hbits hg
  have KX := hY w _ Y
  obtain ⟨fd, hb, hF⟩ := F w mg fa _ KX G.T.g hmg
  exact lawG KX G.T.g G.T.b G.T.builtins G.T.nolimit hg hobj hints (Nat.le_trans hlen hn2) hr hF hb fun H hO hS => hsp (K w.params) H a ns hlen hbits hO hS


/-! ### tuples whose very object is known: they have no dict, so their methods may be called -/
def tyF (T : String) (x : V) (H : Hp) : Prop := ∃ p o u, x = .ref p ∧ H p = some (.frz o u) ∧ o.cls = .type T ∧ o.dict = none
def FT (H : Hp) (a : Addr) (xs : List V) : Prop := ∃ o, H a = some (.frz o (.tup xs)) ∧ o.cls = .type "tuple" ∧ o.dict = none
theorem FT.seq {K : PySem.W.Frag} {H : Hp} {a : Addr} {xs : List V} (h : FT H a xs) : SqT K H a xs := by
  obtain ⟨o, h, _⟩ := h
  exact .inl (.inr ⟨o, h⟩)
theorem FT.ty {H : Hp} {a : Addr} {xs : List V} (h : FT H a xs) : tyF "tuple" (.ref a) H := by
  obtain ⟨o, h, c, d⟩ := h
  exact ⟨a, o, _, rfl, h, c, d⟩
def tBMF (T : String) (r : V → List V → Hp → VK → Prop) (to : TE) (t : TA) : TE := fun σ H Q => to σ H fun x H1 => tyF T x H1 ∧ t σ H1 fun xs H2 => r x xs H2 Q
section
variable {X : Cx} {o e : Expr} {es : List Expr} {to : TE} {t : TA} {name : Str} {apos cpos pos : Pos} {T id : String} {r : V → List V → Hp → VK → Prop}
theorem pe_bmF (pa : PlainAttrs T) (slot : Slot T name id) (hty : typeOf (.builtin id) = pure (.type "method_descriptor")) (hm : MtR X id r) (ho : PE X o to) (ha : PA X (e :: es) t)
    (hbase : attributeBase o name X.env (eval o X.env) = eval o X.env := by rfl)
    (hfew : ((backTo cpos (starEach (e :: es) X.env)).all (fun x => !x.1) && (backToKw cpos (keywordEach [] X.env)).all (fun x => x.1.isSome)
      && decide ((e :: es).length + ([] : List Keyword).length + (if ([] : List Keyword).isEmpty then 0 else 1) < 30)) = true := by rfl)
    (hline : (apos.endLine == cpos.line) = true := by rfl) (hs : starEach (e :: es) X.env = (false, eval e X.env) :: starEach es X.env := by rfl) (hplain : (backTo cpos (starEach es X.env)).any (·.1) = false := by rfl) :
    PE X (.Call (.Attribute o name apos) (e :: es) [] cpos) (tBMF T r to t) := by
  constructor
  intro pins s σ H Q I h
  refine wpAny_Call_method_late hbase hfew hline rfl (thn (ho.run pins s σ H _ I h) ?_)
  rintro v s1 ⟨x, H1, I1, r1, ⟨p, ob, u, rfl, hp, hc, hd⟩, q1⟩
  cases r1
  have hob := (I1.hok p _ hp).1
  refine ⟨T, id, pa, slot, hty, ⟨ob, hob, hc⟩, ?_, ?_⟩
  · intro a ea
    cases ea
    exact ⟨ob, hob, hd⟩
  have hA := ha.run cpos pins s1 σ H1 _ I1 q1
  rw [hs] at hA ⊢
  refine Calls.callWith_builtin ?_ (Calls.evalArgs_plain (thn hA fun us s2 ⟨vs, H2, I2, r2, q2⟩ => hm pins s2 σ H2 (.ref p) vs (.ref p) us Q I2 (show RelV (.ref p) (.ref p) from rfl) r2 q2))
  show (false || (backTo cpos (starEach es X.env)).any (·.1)) = false
  rw [hplain, Bool.false_or]
theorem call_tupF : CallR X (.type "tuple") (fun xs H Q => ∃ p ys, xs = [.ref p] ∧ SqL X.K H p ys ∧ ∀ l o, H l = none → o.cls = .type "tuple" → o.dict = none → Q (.ref l) (upd H l (.frz o (.tup ys)))) := by
  intro pins s σ H xs us Q I r h
  obtain ⟨p, ys, rfl, hq, q⟩ := h
  rw [Vals.ref1 r]
  obtain ⟨its, r', pl, hz⟩ := I.list hq
  have hlen := r'.length
  refine call_tuple_list pl.isList (fun h' kp => ?_) (by simp only [List.size_toArray] <;> omega)
  have I1 : Inv X pins σ H { s with heap := h' } := I.kept (t' := s.toks) kp
  let ob : Obj := { cls := .type "tuple", data := .seq its.toArray }
  have I2 : Inv X pins σ (upd H h'.objs.size (.frz ob (.tup ys))) { s with heap := h'.push ob } :=
    I1.laid (t' := s.toks) (fun b o e => Heap.get?_push_of_some _ e) (Nat.le_refl _) ⟨Heap.get?_push_size _ rfl, hz, its, r', IsTup.new _ _⟩
  exact ⟨.ref h'.objs.size, _, I2, rfl, q _ ob (I1.hok.fresh (Nat.le_refl _)) rfl rfl⟩
def tTupF (t : TA) : TE := fun σ H Q => t σ H fun xs H1 => xs.length ≤ sizeLine ∧ ∀ p o, H1 p = none → o.cls = .type "tuple" → o.dict = none → Q (.ref p) (upd H1 p (.frz o (.tup xs)))
theorem pe_tupF {x1} (h : PA X es t) : PE X (.Tuple es x1 pos) (tTupF t) := by
  constructor
  intro pins s σ H Q I hq
  refine wpAny_Tuple_spliced (thn (h.run pos pins s σ H _ I hq) ?_)
  rintro us s1 ⟨xs, H1, I1, r, z, q⟩
  refine ⟨by rw [← r.length]; exact z, ?_⟩
  have hf : H1 s1.heap.objs.size = none := I1.hok.fresh (Nat.le_refl _)
  refine ⟨.ref s1.heap.objs.size, upd H1 s1.heap.objs.size (.frz { cls := .type "tuple", data := .seq us.toArray } (.tup xs)), I1.laid (t' := s1.toks) (fun b u e => Heap.get?_push_of_some _ e) (Nat.le_refl _) ?_, rfl, q _ _ hf rfl rfl⟩
  exact ⟨Heap.get?_push_size _ rfl, z, us, r, ⟨_, Heap.get?_push_size _ rfl, rfl, _, rfl⟩⟩
end

/-! ### what an update of the list at a place leaves, for the reading of o[i] op= e -/
def rGetL (K : PySem.W.Frag) : V → V → Hp → VK → Prop := fun o i H Q => ∃ p xs k v, o = .ref p ∧ i = .int k ∧ SqL K H p xs ∧ atI xs k = some v ∧ Q v H

/-! ### steps of a reading -/
abbrev SS := L2.St
section
variable {K : PySem.W.Frag} {σ : SS} {H H' : Hp} {Q : VK} {QB : Bool → Hp → Prop} {QA : List V → Hp → Prop} {QS : SS → Hp → Prop} {x y v : V} {ta tb te : TE} {tt tu : TT} {t : TA} {xs : List V} {p : Addr} {i j : Int} {n : Nat}
theorem x_var (h : σ[n]? = some (some v)) (q : Q v H) : tVar n σ H Q := ⟨v, h, q⟩
theorem x_c (q : Q v H) : tC v σ H Q := q
theorem x_op {r : R2} (q : ta σ H fun x H1 => tb σ H1 fun y H2 => r x y H2 Q) : tOp r ta tb σ H Q := q
theorem x_un {r : V → Hp → VK → Prop} (q : ta σ H fun x H1 => r x H1 Q) : tUn r ta σ H Q := q
theorem x_I0 {g : Int → Int → V} (q : Q (g i j) H) : rI0 g (.int i) (.int j) H Q := ⟨i, j, rfl, rfl, q⟩
theorem x_I {C : Int → Int → Prop} {g : Int → Int → V} (c : C i j) (q : Q (g i j) H) : rI C g (.int i) (.int j) H Q := ⟨i, j, rfl, rfl, c, q⟩
theorem x_U {g : Int → V} (q : Q (g i) H) : rU g (.int i) H Q := ⟨i, rfl, q⟩
theorem x_eq (s : scal x y = true) (q : Q (.bl (decide (x = y))) H) : rEq x y H Q := ⟨s, q⟩
theorem x_ne (s : scal x y = true) (q : Q (.bl (!decide (x = y))) H) : rNe x y H Q := ⟨s, q⟩
theorem x_isN (q : Q (.bl (decide (x = .non))) H) : rIsN x .non H Q := ⟨rfl, q⟩
theorem x_notN (q : Q (.bl (!decide (x = .non))) H) : rNotN x .non H Q := ⟨rfl, q⟩
theorem x_ixL (h : SqL K H p xs) (a : atI xs i = some v) (q : Q v H) : rIxL K (.ref p) (.int i) H Q := ⟨p, xs, i, v, rfl, rfl, h, a, q⟩
theorem x_ixT (h : SqT K H p xs) (a : atI xs i = some v) (q : Q v H) : rIxT K (.ref p) (.int i) H Q := ⟨p, xs, i, v, rfl, rfl, h, a, q⟩
theorem x_nil (q : QA [] H) : tNil σ H QA := q
theorem x_cons {tr : TA} (q : ta σ H fun x H1 => tr σ H1 fun xs H2 => QA (x :: xs) H2) : tCons ta tr σ H QA := q
theorem x_lst (q : t σ H fun xs H1 => xs.length ≤ sizeLine ∧ ∀ p, H1 p = none → Q (.ref p) (upd H1 p (.lst xs))) : tLst t σ H Q := q
theorem x_tup (q : t σ H fun xs H1 => xs.length ≤ sizeLine ∧ ∀ p, H1 p = none → Q (.ref p) (upd H1 p (.tup xs))) : tTup t σ H Q := q
theorem x_tupF (q : t σ H fun xs H1 => xs.length ≤ sizeLine ∧ ∀ p o, H1 p = none → o.cls = .type "tuple" → o.dict = none → Q (.ref p) (upd H1 p (.frz o (.tup xs)))) : tTupF t σ H Q := q
theorem x_CB {r : List V → Hp → VK → Prop} (q : t σ H fun vs H1 => r vs H1 Q) : tCB r t σ H Q := q
theorem x_call {sp : Sp} {E : XK} (q : t σ H fun vs H1 => sp (vs ++ []) H1 Q E) : tCall sp [] E t σ H Q := q
theorem x_test (q : te σ H fun x H' => ∃ k, x = .bl k ∧ QB k H') : tTest te σ H QB := q
theorem x_bl {b : Bool} {R : Bool → Prop} (q : R b) : ∃ k, V.bl b = .bl k ∧ R k := ⟨b, rfl, q⟩
theorem x_B (q : te σ H fun x H1 => ∃ c, x = .bl c ∧ QB c H1) : tB te σ H QB := q
theorem x_andV (q : ta σ H fun x H1 => ∃ c, x = .bl c ∧ if c = true then tb σ H1 Q else Q (.bl false) H1) : tAndV ta tb σ H Q := q
theorem x_orV (q : ta σ H fun x H1 => ∃ c, x = .bl c ∧ if c = true then Q (.bl true) H1 else tb σ H1 Q) : tOrV ta tb σ H Q := q
theorem x_notV (q : ta σ H fun x H1 => ∃ c, x = .bl c ∧ Q (.bl (!c)) H1) : tNotV ta σ H Q := q
theorem x_and (q : tt σ H fun c H1 => if c = true then tu σ H1 QB else QB false H1) : tAnd tt tu σ H QB := q
theorem x_or (q : tt σ H fun c H1 => if c = true then QB true H1 else tu σ H1 QB) : tOr tt tu σ H QB := q
theorem x_not (q : tt σ H fun c H1 => QB (!c) H1) : tNot tt σ H QB := q
theorem x_if (q : tt σ H fun c H1 => if c = true then ta σ H1 Q else tb σ H1 Q) : tIf tt ta tb σ H Q := q
theorem x_sl {r : V → Option Int → Option Int → Hp → VK → Prop} {tl th : TO} (q : te σ H fun x H1 => tl σ H1 fun l H2 => th σ H2 fun u H3 => r x l u H3 Q) : tSl r te tl th σ H Q := q
theorem x_no {QO : Option Int → Hp → Prop} (q : QO none H) : tNoPart σ H QO := q
theorem x_part {QO : Option Int → Hp → Prop} (q : te σ H fun x H1 => ∃ i, x = .int i ∧ QO (some i) H1) : tPart te σ H QO := q
theorem x_int {R : Int → Prop} (q : R i) : ∃ k, V.int i = .int k ∧ R k := ⟨i, rfl, q⟩
theorem x_slL {lo hi : Option Int} (h : SqL K H p xs) (q : ∀ a, H a = none → Q (.ref a) (upd H a (.lst (cutV xs lo hi)))) : rSlL K (.ref p) lo hi H Q := ⟨p, xs, rfl, h, q⟩
/- statements: the ends written out -/
variable {nx bk ct : SS → Hp → Prop} {rt : VK} {s1 s2 : TS} {g : TG}
theorem x_seq (q : s1 ⟨s2 ⟨nx, rt, bk, ct⟩, rt, bk, ct⟩ σ H) : tSeq s1 s2 ⟨nx, rt, bk, ct⟩ σ H := q
theorem x_next (q : nx σ H) : tNext ⟨nx, rt, bk, ct⟩ σ H := q
theorem x_brk (q : bk σ H) : tBreak ⟨nx, rt, bk, ct⟩ σ H := q
theorem x_cont (q : ct σ H) : tCont ⟨nx, rt, bk, ct⟩ σ H := q
theorem x_drop (q : te σ H fun _ H1 => nx σ H1) : tDrop te ⟨nx, rt, bk, ct⟩ σ H := q
theorem x_ret (q : te σ H rt) : tRet te ⟨nx, rt, bk, ct⟩ σ H := q
theorem x_retN (q : rt .non H) : tRetN ⟨nx, rt, bk, ct⟩ σ H := q
theorem x_asg (q : te σ H fun x H1 => g x σ H1 nx) : tAsg te g ⟨nx, rt, bk, ct⟩ σ H := q
theorem x_name (q : QS (σ.set n (some v)) H) : gName n v σ H QS := q
theorem x_gtup {m : Nat} {u : TGs} (h : SqT K H p xs) (l : xs.length = m) (q : u xs σ H QS) : gTup K m u (.ref p) σ H QS := ⟨p, xs, rfl, h, l, q⟩
theorem x_gnil (q : QS σ H) : gNil [] σ H QS := ⟨rfl, q⟩
theorem x_gcons {u : TGs} (q : g v σ H fun σ' H' => u xs σ' H' QS) : gCons g u (v :: xs) σ H QS := ⟨v, xs, rfl, q⟩
theorem x_gsub {to ti : TE} {s : TSet} (q : to σ H fun o H1 => ti σ H1 fun i H2 => s o i v H2 fun H3 => QS σ H3) : gSub to ti s v σ H QS := q
theorem x_setL {QH : Hp → Prop} {k : Nat} (h : H p = some (.lst xs)) (a : ixN xs.length i = some k) (q : QH (upd H p (.lst (xs.set k v)))) : rSetL (.ref p) (.int i) v H QH := ⟨p, xs, i, k, rfl, rfl, h, a, q⟩
theorem x_par {k m : Nat} (q : t σ H fun vs H1 => ∃ v w, vs = [v, w] ∧ nx ((σ.set k (some v)).set m (some w)) H1) : tPar k m t ⟨nx, rt, bk, ct⟩ σ H := q
theorem x_two {R : V → V → Prop} (q : R x y) : ∃ v w, [x, y] = [v, w] ∧ R v w := ⟨x, y, rfl, q⟩
theorem x_ifS {c : TT} (q : c σ H fun b H1 => if b = true then s1 ⟨nx, rt, bk, ct⟩ σ H1 else s2 ⟨nx, rt, bk, ct⟩ σ H1) : tIfS c s1 s2 ⟨nx, rt, bk, ct⟩ σ H := q
theorem x_aug {ti : TIp} (h : σ[n]? = some (some x)) (q : te σ H fun y H1 => ti x y H1 fun z H2 => nx (σ.set n (some z)) H2) : tAug n te ti ⟨nx, rt, bk, ct⟩ σ H := ⟨x, h, q⟩
theorem x_ipI {f : Int → Int → Int} (q : Q (.int (f i j)) H) : ipI f (.int i) (.int j) H Q := ⟨i, j, rfl, rfl, q⟩
theorem x_augS {to ti : TE} {tget : V → V → Hp → VK → Prop} {tip : TIp} {tset : TSet} (q : to σ H fun o H1 => ti σ H1 fun i H2 => tget o i H2 fun x H3 => te σ H3 fun y H4 => tip x y H4 fun z H5 => tset o i z H5 fun H6 => nx σ H6) : tAugS to ti te tget tip tset ⟨nx, rt, bk, ct⟩ σ H := q
/- built-ins -/
theorem x_lenS {R : List V → Prop} (h : SqL K H p xs) (q : R xs) : ∃ p' ys, [V.ref p] = [.ref p'] ∧ (SqL K H p' ys ∨ SqT K H p' ys) ∧ R ys := ⟨p, xs, rfl, .inl h, q⟩
theorem x_lenT {R : List V → Prop} (h : SqT K H p xs) (q : R xs) : ∃ p' ys, [V.ref p] = [.ref p'] ∧ (SqL K H p' ys ∨ SqT K H p' ys) ∧ R ys := ⟨p, xs, rfl, .inr h, q⟩
theorem x_abs {R : Int → Prop} (q : R i) : ∃ k, [V.int i] = [.int k] ∧ R k := ⟨i, rfl, q⟩
theorem x_toI {R : Int → Prop} {R' : Bool → Prop} (q : R i) : (∃ k, [V.int i] = [.int k] ∧ R k) ∨ ∃ k, [V.int i] = [.bl k] ∧ R' k := .inl ⟨i, rfl, q⟩
theorem x_toIb {R : Int → Prop} {R' : Bool → Prop} {b : Bool} (q : R' b) : (∃ k, [V.bl b] = [.int k] ∧ R k) ∨ ∃ k, [V.bl b] = [.bl k] ∧ R' k := .inr ⟨b, rfl, q⟩
theorem x_min2 {R : Int → Int → Prop} (q : R i j) : ∃ a b, [V.int i, V.int j] = [.int a, .int b] ∧ R a b := ⟨i, j, rfl, q⟩
theorem x_tupS {Q1 Q2 : Addr → List V → Prop} (h : SqL K H p xs) (q : Q1 p xs) : ∃ p' ys, [V.ref p] = [.ref p'] ∧ ((SqL K H p' ys ∧ Q1 p' ys) ∨ (SqT K H p' ys ∧ Q2 p' ys)) := ⟨p, xs, rfl, .inl ⟨h, q⟩⟩
theorem x_tupF1 {R : List V → Prop} (h : SqL K H p xs) (q : R xs) : ∃ p' ys, [V.ref p] = [.ref p'] ∧ SqL K H p' ys ∧ R ys := ⟨p, xs, rfl, h, q⟩
theorem x_insert {R : Addr → List V → Int → V → Prop} (h : H p = some (.lst xs)) (l : xs.length < sizeLine) (h0 : 0 ≤ i) (h1 : i < 2 ^ 63) (q : R p xs i v) :
    ∃ (l : Addr) (ys : List V) (k : Int) (y : V), V.ref p = .ref l ∧ [V.int i, v] = [.int k, y] ∧ H l = some (.lst ys) ∧ ys.length < sizeLine ∧ 0 ≤ k ∧ k < 2 ^ 63 ∧ R l ys k y := ⟨p, xs, i, v, rfl, rfl, h, l, h0, h1, q⟩
theorem x_bm {r : V → List V → Hp → VK → Prop} {T : String} (q : ta σ H fun x H1 => tyV K T x H1 ∧ t σ H1 fun xs H2 => r x xs H2 Q) : tBM K T r ta t σ H Q := q
theorem x_bm0 {r : V → List V → Hp → VK → Prop} {T : String} (q : ta σ H fun x H1 => tyV K T x H1 ∧ r x [] H1 Q) : tBM0 K T r ta σ H Q := q
theorem x_bmF {r : V → List V → Hp → VK → Prop} {T : String} (q : ta σ H fun x H1 => tyF T x H1 ∧ t σ H1 fun xs H2 => r x xs H2 Q) : tBMF T r ta t σ H Q := q
theorem ty_list (h : SqL K H p xs) : tyV K "list" (.ref p) H := .inl ⟨rfl, xs, h⟩
theorem x_append {Q : VK} (h : H p = some (.lst xs)) (l : xs.length < sizeLine) (q : Q .non (upd H p (.lst (xs ++ [v])))) : rAppend (.ref p) [v] H Q := ⟨p, xs, v, rfl, rfl, h, l, q⟩
theorem x_reverse {Q : VK} (h : H p = some (.lst xs)) (q : Q .non (upd H p (.lst xs.reverse))) : rReverse (.ref p) [] H Q := ⟨p, xs, rfl, rfl, h, q⟩
theorem x_lrg {Q : VK} {te : SS → Hp → (Int → Int → Hp → Prop) → Prop} (q : te σ H fun a b H1 => RgOk a b ∧ ∀ q, H1 q = none → Q (.ref q) (upd H1 q (.lst (rgV a b)))) : tLstRg te σ H Q := q
theorem x_rg1 {QR : Int → Int → Hp → Prop} (q : ta σ H fun x H1 => ∃ n, x = .int n ∧ QR 0 n H1) : tRg1 ta σ H QR := q
end
section
variable {K : PySem.W.Frag} {H : Hp} {Q : VK} {n : Nat}
theorem x_new {R : Addr → Prop} (z : n ≤ sizeLine) (q : ∀ p, H p = none → R p) : n ≤ sizeLine ∧ ∀ p, H p = none → R p := ⟨z, q⟩
theorem x_newF {R : Addr → Obj → Prop} (z : n ≤ sizeLine) (q : ∀ p (o : Obj), H p = none → o.cls = .type "tuple" → o.dict = none → R p o) : n ≤ sizeLine ∧ ∀ p (o : Obj), H p = none → o.cls = .type "tuple" → o.dict = none → R p o := ⟨z, q⟩
theorem x_iteT {A B : Prop} (q : A) : if true = true then A else B := iteT q
theorem x_iteF {A B : Prop} (q : B) : if false = true then A else B := iteF q
theorem dp_ints {a : Addr} : ∀ cs : List Int, DpAll K H (cs.map V.int) (cs.map PyData.int)
  | [] => .nil
  | z :: r => .cons (.int z) (dp_ints (a := a) r)
theorem lay_ints : ∀ cs : List Int, PyData.canLayAll0 (cs.map PyData.int) = true
  | [] => by simp only [List.map_nil, PyData.canLayAll0]
  | z :: r => by simp only [List.map_cons, PyData.canLayAll0, PyData.canLay0, lay_ints r, Bool.and_self]
theorem deep_ints : ∀ cs : List Int, PyData.depthAll (cs.map PyData.int) = 0
  | [] => by simp only [List.map_nil, PyData.depthAll]
  | z :: r => by simp [List.map_cons, PyData.depthAll, PyData.depth, deep_ints r]
theorem shaped_ints (cs : List Int) : SeqAt.shaped (.list (cs.map PyData.int)) = true := by
  unfold SeqAt.shaped
  simp [PyData.canLay0, PyData.depth, lay_ints, deep_ints]
theorem x_neNil {a b : Addr} {cs : List Int} (h : SqL K H a (cs.map V.int)) (hb : SqL K H b []) (q : Q (.bl (!cs.isEmpty)) H) : rNeD K (.ref a) (.ref b) H Q := by
  refine ⟨.list (cs.map PyData.int), .list [], .lst h (dp_ints (a := a) cs), .lst hb .nil, shaped_ints cs, shaped_ints [], ?_⟩
  have e : PyData.eqv (.list (cs.map PyData.int)) (.list []) = cs.isEmpty := by
    cases cs <;> simp [PyData.eqv, PyData.eqvAll]
  rw [e]
  exact q
end
theorem natAbs_lt {i : Int} {n : Nat} (h : -(n : Int) < i) (h2 : i < n) : i.natAbs < n := by omega
/- looking up -/
theorem boot'_len : bootBuiltins "len" = some (.builtin "len") := by decide +kernel
theorem boot'_abs : bootBuiltins "abs" = some (.builtin "abs") := by decide +kernel
theorem boot'_int : bootBuiltins "int" = some (.type "int") := by decide +kernel
theorem boot'_bool : bootBuiltins "bool" = some (.type "bool") := by decide +kernel
theorem boot'_list : bootBuiltins "list" = some (.type "list") := by decide +kernel
theorem boot'_tuple : bootBuiltins "tuple" = some (.type "tuple") := by decide +kernel
theorem boot'_str : bootBuiltins "str" = some (.type "str") := by decide +kernel
theorem boot'_min : bootBuiltins "min" = some (.builtin "min") := by decide +kernel
theorem boot'_max : bootBuiltins "max" = some (.builtin "max") := by decide +kernel
theorem boot'_sum : bootBuiltins "sum" = some (.builtin "sum") := by decide +kernel
theorem boot'_any : bootBuiltins "any" = some (.builtin "any") := by decide +kernel
theorem boot'_all : bootBuiltins "all" = some (.builtin "all") := by decide +kernel
theorem boot'_repr : bootBuiltins "repr" = some (.builtin "repr") := by decide +kernel
theorem boot'_sorted : bootBuiltins "sorted" = some (.builtin "sorted") := by decide +kernel
theorem boot'_isinstance : bootBuiltins "isinstance" = some (.builtin "isinstance") := by decide +kernel
theorem boot'_range : bootBuiltins "range" = some (.type "range") := by decide +kernel
theorem boot'_enumerate : bootBuiltins "enumerate" = some (.type "enumerate") := by decide +kernel
theorem boot'_set : bootBuiltins "set" = some (.type "set") := by decide +kernel
theorem x_start {t : TS} {D : Ends} {σ σ' : SS} {H : Hp} (e : σ = σ') (q : t D σ' H) : t D σ H := e ▸ q

theorem lk_ne {H : Hp} {p q : Addr} {o u : HO} (h : H q = some u) (n : H p = none) : upd H p o q = some u := (upd_ne (ne_of_none h n)).trans h
theorem lk_ne2 {H : Hp} {p q : Addr} {o u : HO} (hne : q ≠ p) (h : H q = some u) : upd H p o q = some u := (upd_ne hne).trans h
/-- all but what stands in S is kept -/
def Kx (S : List Addr) (H H' : Hp) : Prop := ∀ b o, b ∉ S → H b = some o → H' b = some o
theorem Kx.refl (S : List Addr) (H : Hp) : Kx S H H := fun _ _ _ h => h
theorem Kx.trans {S : List Addr} {H H1 H2 : Hp} (a : Kx S H H1) (b : Kx S H1 H2) : Kx S H H2 := fun c o n h => b c o n (a c o n h)
theorem Kx.new {S : List Addr} {H H1 : Hp} {p : Addr} {o : HO} (a : Kx S H H1) (n : H1 p = none) : Kx S H (upd H1 p o) := fun b u hb h => lk_ne (a b u hb h) n
theorem Kx.fresh {S : List Addr} {H H1 : Hp} {p : Addr} (a : Kx S H H1) (hp : p ∉ S) (n : H1 p = none) : H p = none := by
  cases q : H p with
  | none => rfl
  | some o => rw [a p o hp q] at n; cases n
/-- a write at a thing that H did not know, or that S bears -/
theorem Kx.wr {S : List Addr} {H H1 : Hp} {p : Addr} {o : HO} (a : Kx S H H1) (n : H p = none ∨ p ∈ S) : Kx S H (upd H1 p o) := fun b u hb h => by
  have nb : b ≠ p := by
    rcases n with n | n
    · exact ne_of_none h n
    · exact fun e => hb (e ▸ n)
  rw [upd_ne nb]
  exact a b u hb h
theorem Kx.mono {S T : List Addr} {H H' : Hp} (a : Kx S H H') (h : ∀ b ∈ S, b ∈ T) : Kx T H H' := fun b o n e => a b o (fun z => n (h b z)) e
theorem lk_keep {S : List Addr} {H H' : Hp} {q : Addr} {u : HO} (k : Kx S H H') (hq : q ∉ S) (h : H q = some u) : H' q = some u := k q u hq h
theorem Kx.sqT {S : List Addr} {K : PySem.W.Frag} {H H' : Hp} {a : Addr} {xs : List V} (k : Kx S H H') (n : a ∉ S) (h : SqT K H a xs) : SqT K H' a xs := by
  rcases h with (h | ⟨o, h⟩) | h
  · exact .inl (.inl (k _ _ n h))
  · exact .inl (.inr ⟨o, k _ _ n h⟩)
  · exact .inr h
theorem Kx.sqL {S : List Addr} {K : PySem.W.Frag} {H H' : Hp} {a : Addr} {xs : List V} (k : Kx S H H') (n : a ∉ S) (h : SqL K H a xs) : SqL K H' a xs := by
  rcases h with (h | ⟨o, h⟩) | h
  · exact .inl (.inl (k _ _ n h))
  · exact .inl (.inr ⟨o, k _ _ n h⟩)
  · exact .inr h
theorem Kx.same {H H' : Hp} (h : Same H H') (S : List Addr) : Kx S H H' := fun b o _ e => h b o e


/-! ### loops and comprehensions: what each asks, by a word Pv of the turn -/
section
variable {K : PySem.W.Frag} {σ : SS} {H : Hp} {Q : VK} {nx bk ct : SS → Hp → Prop} {rt : VK} {g : TG} {tb : TS} {tl te : TE} {ta : TA} {tt : TT} {vs : List Nat}
/-- the asking of a for over n turns that give what Y tells while G holds -/
def AskF (n : Nat) (G : Hp → Prop) (Y : Nat → Hp → V → Hp → Prop) (g : TG) (tb : TS) (nx : SS → Hp → Prop) (rt : VK) (σ : SS) (H : Hp) : Prop :=
  ∃ Pv : Nat → SS → Hp → Prop, Pv 0 σ H ∧ (∀ i σ H, i ≤ n → Pv i σ H → G H) ∧
    (∀ i x σ H H', i < n → Pv i σ H → Y i H x H' → g x σ H' fun σ2 H2 => tb ⟨Pv (i + 1), rt, nx, Pv (i + 1)⟩ σ2 H2) ∧ ∀ σ H, Pv n σ H → nx σ H
def AskC (n : Nat) (G : Hp → Prop) (Y : Nat → Hp → V → Hp → Prop) (g : TG) (tt : TT) (te : TE) (vs : List Nat) (σ : SS) (H : Hp) (Q : VK) : Prop :=
  ∀ D, H D = none → ∃ Pv : Nat → Hp → Prop, Pv 0 (upd H D (.lst [])) ∧ (∀ i H, i ≤ n → Pv i H → G H) ∧
    (∀ i x H H', i < n → Pv i H → Y i H x H' → g x (wipe σ vs) H' fun σ2 H2 => wipe σ2 vs = wipe σ vs ∧ tt σ2 H2 fun b H3 =>
      if b = true then te σ2 H3 fun y H4 => ∃ acc, H4 D = some (.lst acc) ∧ acc.length < sizeLine ∧ Pv (i + 1) (upd H4 D (.lst (acc ++ [y]))) else Pv (i + 1) H3) ∧ ∀ H, Pv n H → Q (.ref D) H
theorem askF {J : It} {n : Nat} {G : Hp → Prop} {Y : Nat → Hp → V → Hp → Prop} (w : Walk J n G Y) (q : AskF n G Y g tb nx rt σ H) :
    ∃ W : Nat → Nat → SS → Hp → Prop, (∃ m, W 0 m σ H) ∧ ∀ i m σ H, W i m σ H → (J.stop i H ∧ nx σ H) ∨
      (J.go i H ∧ ∃ N : SS → Hp → Prop, (∀ σ' H', N σ' H' → ∃ m', m' < m ∧ W (i + 1) m' σ' H') ∧ ∀ x H', J.yld i H x H' → g x σ H' fun σ2 H2 => tb ⟨N, rt, nx, N⟩ σ2 H2) := by
  obtain ⟨Pv, h0, h1, h2, h3⟩ := q
  exact for_it (D := ⟨nx, rt, fun _ _ => False, fun _ _ => False⟩) w Pv h0 h1 h2 h3
theorem askC {J : It} {n : Nat} {G : Hp → Prop} {Y : Nat → Hp → V → Hp → Prop} (w : Walk J n G Y) (q : AskC n G Y g tt te vs σ H Q) :
    ∀ D, H D = none → ∃ W : Nat → Nat → Hp → Prop, (∃ m, W 0 m (upd H D (.lst []))) ∧ ∀ i m H, W i m H → (J.stop i H ∧ Q (.ref D) H) ∨
      (J.go i H ∧ ∃ Nx : Hp → Prop, (∀ H', Nx H' → ∃ m', m' < m ∧ W (i + 1) m' H') ∧ ∀ x H', J.yld i H x H' → g x (wipe σ vs) H' fun σ2 H2 => wipe σ2 vs = wipe σ vs ∧ tt σ2 H2 fun b H3 =>
        if b = true then te σ2 H3 fun y H4 => ∃ acc, H4 D = some (.lst acc) ∧ acc.length < sizeLine ∧ Nx (upd H4 D (.lst (acc ++ [y]))) else Nx H3) := by
  intro D hD
  obtain ⟨Pv, h0, h1, h2, h3⟩ := q D hD
  exact lc_it w Pv h0 h1 h2 h3
abbrev YA (xs : List V) := YAt xs
abbrev YE (xs : List V) := YPair (fun i => some (.int (i : Nat))) (fun i => xs[i]?)
def WF (J : It) (g : TG) (tb : TS) (nx : SS → Hp → Prop) (rt : VK) (σ : SS) (H : Hp) : Prop := ∃ W : Nat → Nat → SS → Hp → Prop, (∃ m, W 0 m σ H) ∧ ∀ i m σ H, W i m σ H → (J.stop i H ∧ nx σ H) ∨
      (J.go i H ∧ ∃ N : SS → Hp → Prop, (∀ σ' H', N σ' H' → ∃ m', m' < m ∧ W (i + 1) m' σ' H') ∧ ∀ x H', J.yld i H x H' → g x σ H' fun σ2 H2 => tb ⟨N, rt, nx, N⟩ σ2 H2)
def WC (J : It) (g : TG) (tt : TT) (te : TE) (vs : List Nat) (σ : SS) (H : Hp) (Q : VK) : Prop := ∀ D, H D = none → ∃ W : Nat → Nat → Hp → Prop, (∃ m, W 0 m (upd H D (.lst []))) ∧ ∀ i m H, W i m H → (J.stop i H ∧ Q (.ref D) H) ∨
      (J.go i H ∧ ∃ Nx : Hp → Prop, (∀ H', Nx H' → ∃ m', m' < m ∧ W (i + 1) m' H') ∧ ∀ x H', J.yld i H x H' → g x (wipe σ vs) H' fun σ2 H2 => wipe σ2 vs = wipe σ vs ∧ tt σ2 H2 fun b H3 =>
        if b = true then te σ2 H3 fun y H4 => ∃ acc, H4 D = some (.lst acc) ∧ acc.length < sizeLine ∧ Nx (upd H4 D (.lst (acc ++ [y]))) else Nx H3)
theorem x_for {wi : TI} (q : wi σ H fun J H1 => WF J g tb nx rt σ H1) : tFor wi g tb ⟨nx, rt, bk, ct⟩ σ H := q
theorem x_lc {wi : TI} (q : wi σ H fun J H1 => WC J g tt te vs σ H1 Q) : tLc wi g tt te vs σ H Q := q
theorem x_yes {QB : Bool → Hp → Prop} (q : QB true H) : tYes σ H QB := q
theorem x_iL {R : It → Hp → Prop} (q : tl σ H fun x H1 => ∃ a, x = .ref a ∧ (∃ xs, SqL K H1 a xs) ∧ R (Itl K a) H1) : iList K tl σ H R := q
theorem x_iT {R : It → Hp → Prop} (q : tl σ H fun x H1 => ∃ a, x = .ref a ∧ (∃ xs, SqT K H1 a xs) ∧ R (Itt K a) H1) : iTup K tl σ H R := q
theorem x_iR1 {R : It → Hp → Prop} (q : ta σ H fun vs H1 => ∃ j : Int, vs = [.int j] ∧ -(2 ^ 62) ≤ j ∧ j < 2 ^ 62 ∧ R (Itr 0 j.toNat) H1) : iRng1 ta σ H R := q
theorem x_iR2 {R : It → Hp → Prop} (q : ta σ H fun vs H1 => ∃ i j : Int, vs = [.int i, .int j] ∧ (-(2 ^ 62) ≤ i ∧ i < 2 ^ 62 ∧ -(2 ^ 62) ≤ j ∧ j < 2 ^ 62) ∧ R (Itr i (j - i).toNat) H1) : iRng2 ta σ H R := q
theorem x_iE {R : It → Hp → Prop} (q : ta σ H fun vs H1 => ∃ a xs, vs = [.ref a] ∧ SqL K H1 a xs ∧ R (Ite K a) H1) : iEnum K ta σ H R := q
theorem x_iET {R : It → Hp → Prop} (q : ta σ H fun vs H1 => ∃ a xs, vs = [.ref a] ∧ SqT K H1 a xs ∧ R (IteT K a) H1) : iEnumT K ta σ H R := q
/- the asking, at the end of the walked thing's value -/
variable {a : Addr} {xs : List V}
theorem y_forL (h : SqL K H a xs) (q : AskF xs.length (fun H => SqL K H a xs) (YA xs) g tb nx rt σ H) : ∃ b, V.ref a = .ref b ∧ (∃ xs, SqL K H b xs) ∧ WF (Itl K b) g tb nx rt σ H := ⟨a, rfl, ⟨xs, h⟩, askF walk_list q⟩
theorem y_forT (h : SqT K H a xs) (q : AskF xs.length (fun H => SqT K H a xs) (YA xs) g tb nx rt σ H) : ∃ b, V.ref a = .ref b ∧ (∃ xs, SqT K H b xs) ∧ WF (Itt K b) g tb nx rt σ H := ⟨a, rfl, ⟨xs, h⟩, askF walk_tup q⟩
theorem y_forR1 {j : Int} (h0 : 0 ≤ j) (h1 : j < 1000000) (q : AskF j.toNat (fun _ => True) (YFn fun i => .int (0 + i)) g tb nx rt σ H) : -(2 ^ 62) ≤ j ∧ j < 2 ^ 62 ∧ WF (Itr 0 j.toNat) g tb nx rt σ H :=
  ⟨by omega, by omega, askF walk_range q⟩
theorem y_forR2 {i j : Int} (h0 : -1000000 < i) (h1 : i < 1000000) (h2 : -1000000 < j) (h3 : j < 1000000) (q : AskF (j - i).toNat (fun _ => True) (YFn fun k => .int (i + k)) g tb nx rt σ H) : (-(2 ^ 62) ≤ i ∧ i < 2 ^ 62 ∧ -(2 ^ 62) ≤ j ∧ j < 2 ^ 62) ∧ WF (Itr i (j - i).toNat) g tb nx rt σ H :=
  ⟨⟨by omega, by omega, by omega, by omega⟩, askF walk_range q⟩
theorem y_forE (h : SqL K H a xs) (q : AskF xs.length (fun H => SqL K H a xs) (YE xs) g tb nx rt σ H) : ∃ b ys, [V.ref a] = [.ref b] ∧ SqL K H b ys ∧ WF (Ite K b) g tb nx rt σ H := ⟨a, xs, rfl, h, askF walk_enum q⟩
theorem y_forET (h : SqT K H a xs) (q : AskF xs.length (fun H => SqT K H a xs) (YE xs) g tb nx rt σ H) : ∃ b ys, [V.ref a] = [.ref b] ∧ SqT K H b ys ∧ WF (IteT K b) g tb nx rt σ H := ⟨a, xs, rfl, h, askF walk_enumT q⟩
theorem y_lcL (h : SqL K H a xs) (q : AskC xs.length (fun H => SqL K H a xs) (YA xs) g tt te vs σ H Q) : ∃ b, V.ref a = .ref b ∧ (∃ xs, SqL K H b xs) ∧ WC (Itl K b) g tt te vs σ H Q := ⟨a, rfl, ⟨xs, h⟩, askC walk_list q⟩
theorem y_lcT (h : SqT K H a xs) (q : AskC xs.length (fun H => SqT K H a xs) (YA xs) g tt te vs σ H Q) : ∃ b, V.ref a = .ref b ∧ (∃ xs, SqT K H b xs) ∧ WC (Itt K b) g tt te vs σ H Q := ⟨a, rfl, ⟨xs, h⟩, askC walk_tup q⟩
theorem y_lcR1 {j : Int} (h0 : 0 ≤ j) (h1 : j < 1000000) (q : AskC j.toNat (fun _ => True) (YFn fun i => .int (0 + i)) g tt te vs σ H Q) : -(2 ^ 62) ≤ j ∧ j < 2 ^ 62 ∧ WC (Itr 0 j.toNat) g tt te vs σ H Q :=
  ⟨by omega, by omega, askC walk_range q⟩
theorem y_lcE (h : SqL K H a xs) (q : AskC xs.length (fun H => SqL K H a xs) (YE xs) g tt te vs σ H Q) : ∃ b ys, [V.ref a] = [.ref b] ∧ SqL K H b ys ∧ WC (Ite K b) g tt te vs σ H Q := ⟨a, xs, rfl, h, askC walk_enum q⟩
theorem y_lcET (h : SqT K H a xs) (q : AskC xs.length (fun H => SqT K H a xs) (YE xs) g tt te vs σ H Q) : ∃ b ys, [V.ref a] = [.ref b] ∧ SqT K H b ys ∧ WC (IteT K b) g tt te vs σ H Q := ⟨a, xs, rfl, h, askC walk_enumT q⟩
end

/-! ### the same rules where the block's own K is told from outside -/
section
variable {X : Cx} {K : PySem.W.Frag}
theorem ix_listK (e : X.K = K := by rfl) : IxR X (rIxL K) := e ▸ ix_list
theorem ix_tupK (e : X.K = K := by rfl) : IxR X (rIxT K) := e ▸ ix_tup
theorem sl_listK (e : X.K = K := by rfl) : SlR X (rSlL K) := e ▸ sl_list
theorem call_lenK (e : X.K = K := by rfl) : CallR X (.builtin "len") (fun xs H Q => ∃ p ys, xs = [.ref p] ∧ (SqL K H p ys ∨ SqT K H p ys) ∧ Q (.int ys.length) H) := e ▸ call_len_seq
theorem call_tupFK (e : X.K = K := by rfl) : CallR X (.type "tuple") (fun xs H Q => ∃ p ys, xs = [.ref p] ∧ SqL K H p ys ∧ ∀ l o, H l = none → o.cls = .type "tuple" → o.dict = none → Q (.ref l) (upd H l (.frz o (.tup ys)))) := e ▸ call_tupF
theorem call_tuple_ofK (e : X.K = K := by rfl) : CallR X (.type "tuple") (fun xs H Q => ∃ p ys, xs = [.ref p] ∧ ((SqL K H p ys ∧ ∀ l, H l = none → Q (.ref l) (upd H l (.tup ys))) ∨ (SqT K H p ys ∧ Q (.ref p) H))) := e ▸ call_tuple_of
theorem call_list_ofK (e : X.K = K := by rfl) : CallR X (.type "list") (fun xs H Q => ∃ p ys, xs = [.ref p] ∧ (SqL K H p ys ∨ SqT K H p ys) ∧ ∀ l, H l = none → Q (.ref l) (upd H l (.lst ys))) := e ▸ call_list_of
theorem mt_countTK (e : X.K = K := by rfl) : MtR X "tuple.count" (rCountT K) := e ▸ mt_countT
theorem op_in_seqK (e : X.K = K := by rfl) : OpR X (compareOp .In) (rIn K false) := e ▸ op_in_seq
theorem op_notIn_seqK (e : X.K = K := by rfl) : OpR X (compareOp .NotIn) (rIn K true) := e ▸ op_notIn_seq
theorem pg_tupK {es : List Expr} {k : Nat} {pos : Pos} {t : TGs} {n : Nat} (e : X.K = K) (hc : X.calm = true) (h : PGs X es t)
    (hn : (assignEach es X.env).length = n := by rfl) (hst : (assignEach es X.env).findIdx? (·.1) = none := by rfl) : PG X (.Tuple es k pos) (gTup K n t) := e ▸ pg_tup hc h hn hst
end

/-! ### comprehensions whose turn gives one value f i, the heap but for what is new as it was -/
theorem cut63 (xs : List V) : cutV xs none (some 63) = xs.take 63 := by
  unfold cutV
  rw [HT.sIx_none, show HT.sIx xs.length xs.length (some 63) = min 63 xs.length from HT.sIx_nat xs.length xs.length 63]
  show List.take (min 63 xs.length - 0) (List.drop 0 xs) = _
  rw [Nat.sub_zero, List.drop_zero]
  rcases Nat.le_total 63 xs.length with h | h
  · rw [Nat.min_eq_left h]
  · rw [Nat.min_eq_right h, List.take_length, List.take_of_length_le h]


section
variable {X : Cx}
theorem get_list : PGet X (rGetL X.K) := by
  intro pins s σ H o i ov iv Q I ro ri h
  obtain ⟨p, xs, k, v, rfl, rfl, hq, he, q⟩ := h
  cases ro
  obtain ⟨t, rfl⟩ := ri
  obtain ⟨its, r, pl, hz⟩ := I.list hq
  obtain ⟨j, h1, h2, h3, h4, h5⟩ := atI_get he
  obtain ⟨w, ew, rw'⟩ := r.get h2
  have hl := r.length
  have hn := line63
  by_cases h0 : 0 ≤ k
  · have hj : k.toNat = j := by
      rw [seqIndex_of h0 h5] at h1
      exact Option.some.inj h1
    exact wpAny_getItem_list pl.isList h0 (by omega) (by rw [hj]; simpa using ew) ⟨v, H, I, rw', q⟩
  · have hj : (k + (its.toArray.size : Int)).toNat = j := by
      rw [seqIndex_neg (by omega) h4] at h1
      rw [List.size_toArray, ← hl]
      exact Option.some.inj h1
    exact wpAny_getItem_list_neg pl.isList (by omega) (by rw [List.size_toArray] <;> omega) (by omega) (by rw [hj]; simpa using ew) ⟨v, H, I, rw', q⟩
end
section
variable {K : PySem.W.Frag} {σ : SS} {H : Hp} {Q : VK} {v : V} {p : Addr} {xs : List V} {i : Int}
theorem x_getL (h : SqL K H p xs) (a : atI xs i = some v) (q : Q v H) : rGetL K (.ref p) (.int i) H Q := ⟨p, xs, i, v, rfl, rfl, h, a, q⟩
theorem x_rep {k : Int} {l : Addr} (h : H l = some (.lst xs)) (h0 : 0 ≤ k) (h1 : k < 1000000) (z : xs.length * k.toNat ≤ sizeLine) (q : ∀ p, H p = none → Q (.ref p) (upd H p (.lst (List.replicate k.toNat xs).flatten))) : rRep (.ref l) (.int k) H Q :=
  ⟨l, k, xs, rfl, rfl, h, by omega, by omega, z, q⟩
theorem x_sum {a : Addr} {ns : List Int} (h : SqL K H a (ns.map V.int)) (q : Q (.int ns.sum) H) : rSum K [.ref a] H Q := ⟨a, ns, rfl, h, q⟩
theorem x_countT {a : Addr} {ys : List V} {y : V} (h : SqT K H a ys) (f : flatV y = true) (fs : ys.all flatV = true) (q : Q (.int ((ys.countP fun z => eqV z y : Nat) : Int)) H) : rCountT K (.ref a) [y] H Q := ⟨a, ys, y, rfl, rfl, h, f, fs, q⟩
end

/-! ### data whose repr is told -/
structure Good (d : PyData) (dep w : Nat) : Prop where
  sh : d.showable = true
  nd : d.hasDict = false
  dp : d.depth ≤ dep
  sl : d.leavesShort 13 = true
  wt : d.weight ≤ w
theorem Good.mono {d : PyData} {a b w v : Nat} (g : Good d a w) (h : a ≤ b) (h2 : w ≤ v) : Good d b v := ⟨g.sh, g.nd, Nat.le_trans g.dp h, g.sl, Nat.le_trans g.wt h2⟩
theorem Good.none : Good .none 0 0 := ⟨rfl, rfl, Nat.le_refl _, rfl, Nat.le_refl _⟩
theorem Good.bool (b : Bool) : Good (.bool b) 0 0 := ⟨rfl, rfl, Nat.le_refl _, rfl, Nat.le_refl _⟩
theorem Good.int {z : Int} (h : z.natAbs < 10 ^ 9) : Good (.int z) 0 31 := by
  have hl : z.natAbs.log2 < 30 := PySem.Flt.log2_lt_of (by decide) (Nat.lt_of_lt_of_le h (by decide))
  refine ⟨?_, rfl, Nat.le_refl _, ?_, ?_⟩
  · simp only [PyData.showable, decide_eq_true_eq]
    omega
  · simp only [PyData.leavesShort, PyData.shown]
    have := int_text_length_le10 (k := 9) (by decide) h
    refine decide_eq_true ?_
    show (Str.ofString (toString z)).length ≤ 13
    rw [PySem.ofString_length]
    omega
  · simp only [PyData.weight]
    split <;> omega
theorem good_all {k w : Nat} : ∀ {ds : List PyData}, (∀ d ∈ ds, Good d k w) → PyData.showableAll ds = true ∧ PyData.hasDictAll ds = false ∧ PyData.depthAll ds ≤ k ∧ PyData.leavesShortAll 13 ds = true ∧ PyData.weightAll ds ≤ ds.length * (w + 1)
  | [], _ => ⟨rfl, rfl, Nat.zero_le _, rfl, Nat.zero_le _⟩
  | d :: ds, h => by
    obtain ⟨a1, a2, a3, a4, a5⟩ := good_all (ds := ds) fun x hx => h x (List.mem_cons_of_mem _ hx)
    have g := h d List.mem_cons_self
    refine ⟨?_, ?_, ?_, ?_, ?_⟩
    · simp only [PyData.showableAll, g.sh, a1, Bool.and_self]
    · simp only [PyData.hasDictAll, g.nd, a2, Bool.or_self]
    · simp only [PyData.depthAll]
      exact Nat.max_le.mpr ⟨g.dp, a3⟩
    · simp only [PyData.leavesShortAll, g.sl, a4, Bool.and_self]
    · simp only [PyData.weightAll, List.length_cons, Nat.add_mul]
      have := g.wt
      omega
theorem Good.list {ds : List PyData} {k w n : Nat} (h : ∀ d ∈ ds, Good d k w) (hn : ds.length ≤ n) : Good (.list ds) (k + 1) (n * (w + 1)) := by
  obtain ⟨a1, a2, a3, a4, a5⟩ := good_all h
  exact ⟨by simpa only [PyData.showable] using a1, by simpa only [PyData.hasDict] using a2, by simp only [PyData.depth]; omega, by simpa only [PyData.leavesShort] using a4, by simp only [PyData.weight]; exact Nat.le_trans a5 (Nat.mul_le_mul_right _ hn)⟩
theorem Good.tuple {ds : List PyData} {k w n : Nat} (h : ∀ d ∈ ds, Good d k w) (hn : ds.length ≤ n) : Good (.tuple ds) (k + 1) (n * (w + 1)) := by
  obtain ⟨a1, a2, a3, a4, a5⟩ := good_all h
  exact ⟨by simpa only [PyData.showable] using a1, by simpa only [PyData.hasDict] using a2, by simp only [PyData.depth]; omega, by simpa only [PyData.leavesShort] using a4, by simp only [PyData.weight]; exact Nat.le_trans a5 (Nat.mul_le_mul_right _ hn)⟩
theorem x_repr {K : PySem.W.Frag} {H : Hp} {Q : VK} {a : Addr} {d : PyData} {k w : Nat} (h : Dp K H (.ref a) d) (g : Good d k w) (hk : k ≤ 60) (hw : w ≤ 2 ^ 20) (q : Q (.str d.shown) H) : rRepr K [.ref a] H Q :=
  ⟨a, d, rfl, h, g.sh, g.nd, Nat.le_trans g.dp hk, PyData.shown_fits (by decide) (by decide) g.sl (Nat.le_trans g.wt hw), q⟩
/- what stands at an address as data is kept -/
theorem Kx.rd {S : List Addr} {H H' : Hp} {a : Addr} {u : HO} (k : Kx S H H') (n : a ∉ S) (h : Rd H a u) : Rd H' a u := by
  rcases h with h | ⟨o, h⟩
  · exact .inl (k _ _ n h)
  · exact .inr ⟨o, k _ _ n h⟩
mutual
theorem dp_keep {K : PySem.W.Frag} {H H' : Hp} (k : Kx [] H H') : ∀ (d : PyData) (v : V), Dp K H v d → Dp K H' v d
  | .none, _, h => by cases h; exact .non
  | .bool b, _, h => by cases h; exact .bl b
  | .int i, _, h => by cases h; exact .int i
  | .str x, _, h => by cases h; exact .str x
  | .list ds, _, h => by
    cases h with
    | lst h1 h2 => exact .lst (k.sqL (by simp) h1) (dp_keepAll k ds _ h2)
  | .tuple ds, _, h => by
    cases h with
    | tup h1 h2 => exact .tup (k.sqT (by simp) h1) (dp_keepAll k ds _ h2)
  | .dict _, _, h => by cases h
theorem dp_keepAll {K : PySem.W.Frag} {H H' : Hp} (k : Kx [] H H') : ∀ (ds : List PyData) (vs : List V), DpAll K H vs ds → DpAll K H' vs ds
  | [], _, h => by cases h; exact .nil
  | d :: ds, _, h => by
    cases h with
    | cons h1 h2 => exact .cons (dp_keep k d _ h1) (dp_keepAll k ds _ h2)
end

section
variable {X : Cx}
/-- sorted(d) of a dict whose keys are ints -/
def rSortedD : List V → Hp → VK → Prop := fun xs H Q => ∃ (a : Addr) (kvs : List (Key × V)) (ks : List Int), xs = [.ref a] ∧ H a = some (.dK kvs) ∧ kvs.map (·.1) = ks.map Sum.inl ∧
    ∀ (ns : List Int) (p : Addr), ns.Perm ks → ns.Pairwise (· ≤ ·) → H p = none → Q (.ref p) (upd H p (.lst (ns.map V.int)))
theorem cr_sortedDI (hcalm : X.calm = true) : CallR X (.builtin "sorted") rSortedD := by
  intro pins s σ H xs us Q I r q
  obtain ⟨a, kvs, ks, ex, hd, hks, q⟩ := q
  subst ex
  obtain ⟨u, eu, rx⟩ := vals1 r
  subst eu
  cases rx
  obtain ⟨z, lo, vs, rel, dd⟩ := dk_of I.hok hd
  obtain ⟨ep, hat⟩ := dd.dictAt
  have hkeys : vs.map (·.1) = ks.map Sum.inl := rel.keys.symm.trans hks
  have hl : vs.length = ks.length := by
    have e := congrArg List.length hkeys
    rw [List.length_map, List.length_map] at e
    exact e
  have h16 : vs.length ≤ sizeLine := by rw [← rel.length]; exact z
  refine Calls.call_function_entry PyProof.Rows.kind_sorted PyProof.Rows.plain_sorted PyProof.Rows.entry_sorted (PyProof.Rows.args_sorted1 _) ?_
  unfold Builtin.«sorted»
  refine wpAny_bind (m := checkCount "sorted" 1 1 _) (wpAny_pure ?_)
  refine wpAny_bind (PySem.W.kdu_collect (A := X.A.in1) (PySem.W.kdl_dict (knd := mixKind X.prog X.w) (kvs := vs) (ep := ep) lo) (I.ok.hd hcalm) hat h16 fun h' tk acc hk hacc => ?_)
  have hal : acc.toList.length = ks.length := by rw [Array.length_toList, hacc.1, hl]
  have hv : Vals (ks.map V.int) acc.toList := vals_of_at (by rw [List.length_map, hal]) fun j x w h1 h2 => by
    obtain ⟨k, y, e1, e2⟩ := hacc.2 j w (by rw [← Array.getElem?_toList]; exact h2)
    have e3 : (vs.map (·.1))[j]? = some k := by rw [List.getElem?_map, e1]; all_goals rfl
    rw [hkeys, List.getElem?_map] at e3
    rw [List.getElem?_map] at h1
    cases e4 : ks[j]? with
    | none => rw [e4] at e3; cases e3
    | some i =>
      rw [e4] at e3 h1
      have e5 : Sum.inl i = k := Option.some.inj e3
      subst e5
      have e6 : V.int i = x := Option.some.inj h1
      subst e6
      exact keyIs_rel (k := .inl i) e2
  have hi := hv.ints
  have I1 : Inv X pins σ H { s with heap := h', toks := tk } := I.kept hk
  have hz : acc.toList.length ≤ sizeLine := by rw [hal, ← hl]; exact h16
  refine wpAny_bind (wpAny_newList ?_ hz)
  have hoL : (h'.push (PyProof.Rows.seqObj "list" acc.toList.toArray 0)).get? h'.objs.size = some (PyProof.Rows.seqObj "list" acc.toList.toArray 0) := Heap.get?_push_size _ rfl
  show wpAny _ _ _ _ _ { s with heap := h'.push (PyProof.Rows.seqObj "list" acc.toList.toArray 0), toks := tk }
  refine wpAny_bind (wpAny_holding (wpAny_call_entry PyProof.Rows.slot_list_sort ⟨_, hoL, rfl⟩ PyProof.Rows.entry_list_sort
    (SrtO.list_sort_ord SrtO.swo_int hoL hz (fun h2 => SrtO.ints_sortable hi h2) fun out h1 h2 => ⟨_, rfl, ?_⟩) (PyProof.Rows.args_list_sort _)))
  obtain ⟨k1, k2, k3⟩ := SrtO.ints_out hi h1 h2
  obtain ⟨e', he'⟩ := PyProof.Rows.sortedHeap_at (vs := acc.toList) (out := out.toArray) hoL
  have hlen : ((out.map SrtO.iv).map V.int).length ≤ sizeLine := by
    rw [List.length_map, k2.length_eq, ← hal]
    exact hz
  refine wpAny_pure ⟨_, rfl, .ref h'.objs.size, upd H h'.objs.size (.lst ((out.map SrtO.iv).map V.int)), I1.laid (t' := tk) (fun b u e => ?_) (Nat.le_refl _)
    (show ObjOk X.prog X.w _ _ _ (.lst ((out.map SrtO.iv).map V.int)) from ⟨hlen, out, e', vals_of_ints k1, he'⟩), rfl, q _ _ k2 k3 (I1.hok.fresh (Nat.le_refl _))⟩
  have hb : b < h'.objs.size := Heap.lt_size e
  rw [PyProof.Rows.sortedHeap_old (Nat.ne_of_lt hb) (by rw [size_push']; exact Nat.lt_succ_of_lt hb)]
  exact Heap.get?_push_of_some _ e
end

section
variable {X : Cx}
theorem sw_trueD {kx vx : Expr} {gs : List Comprehension} {scope : Scope} {pos py : Pos} {y : Str} {l : Nat} {env : Env} (hk : env.scope.kind = .function) (hy : env.scope.names.lookup y = some .local) (hl : (py.line == pos.line) = true)
    (ha : (scope.names.any fun (n, k) => n == y && (k == .local || k == .cell)) = false) : swapsWith (.DictComp kx vx gs scope pos) (some (.Name y py)) l env = pure true := by
  have ky : env.kindOf y = some .local := hy
  have hb : env.blockKind = .function := by unfold Env.blockKind; rw [hk]; rfl
  unfold swapsWith
  simp only [hb, ky, ha, Expr.pos, hl]
  rfl
theorem ps_setDc {i : Nat} {y : Str} {py : Pos} {kx vx tg iter : Expr} {ifs : List Expr} {scope : Scope} {own : List (Str × Nat)} {pos spos : Pos} {wi : TI} {g : TG} {tt : TT} {tk tv : TE} (hc : X.calm = true) (hN : X.N.Nodup) (hy : X.N[i]? = some y) (hyl : X.env.scope.names.lookup y = some .local)
    (hsw : swapsWith (.DictComp kx vx [⟨tg, iter, ifs, 0⟩] scope pos) (some (.Name y py)) spos.line X.env = pure true) (hi : PI X tg iter wi) (ok : BlkOk X.N X.env.scope scope own)
    (hg : ∀ (s : Shared) (H : Hp) (C : Addr) (cl : List (Str × Addr)) (fp : List Addr), PG (X.blk s H scope (compEnvC scope cl C X.env) fp) tg g) (ht : ∀ (s : Shared) (H : Hp) (C : Addr) (cl : List (Str × Addr)) (fp : List Addr), PTs (X.blk s H scope (compEnvC scope cl C X.env) fp) ifs tt)
    (hk : ∀ (s : Shared) (H : Hp) (C : Addr) (cl : List (Str × Addr)) (fp : List Addr), PE (X.blk s H scope (compEnvC scope cl C X.env) fp) kx tk)
    (he : ∀ (s : Shared) (H : Hp) (C : Addr) (cl : List (Str × Addr)) (fp : List Addr), PE (X.blk s H scope (compEnvC scope cl C X.env) fp) vx tv) (hs : ∀ x, foldedSetIterable iter X.env x = pure x := by intro _; rfl) :
    PS X (.Assign [.Name y py] (.DictComp kx vx [⟨tg, iter, ifs, 0⟩] scope pos) spos) (tAsg (tDc wi g tt tk tv (own.map (·.2))) (gName i)) := by
  refine ⟨fun pins s σ H D I h => ?_⟩
  rw [exec_Assign_Name_used _ _ _ _ hsw]
  refine wpAny_bind (wpAny_standAt (wpAny_bind ?_))
  show wpAny _ X.A (do let _ ← comprehension (.DictComp kx vx [⟨tg, iter, ifs, 0⟩] scope pos) scope X.env (firstIterPos [⟨tg, iter, ifs, 0⟩] pos) newDict false (eval iter X.env) (some (assign (.Name y py) X.env))) _ _ s
  have h : tDc wi g tt tk tv (own.map (·.2)) σ H (fun x H1 => gName i x σ H1 D.nx) := h
  refine wpAny_bind (thn (dc_core (Qf := fun _ s' => SP X pins D .next s') hc hN I hi ok hg ht hk he hs h fun L C s' m H' I' q hn f => ?_) fun _ s' hq => wpAny_pure (wpAny_pure hq))
  show wpAny _ _ (assign (.Name y py) X.env (.ref L)) _ _ _
  refine wpAny_assign_Name (store_ok2 (v := V.ref L) I' hN hy (.inl hyl) rfl (fun s2 I2 ⟨a, sb, ha⟩ => ?_) (.inr hyl))
  obtain ⟨f0, f1, f2, f3, f4, f5⟩ := f
  have haC : C ≠ a := by
    rcases ha with z | z
    · rw [z]; exact f1
    · exact fun e => f4 y a z e.symm
  refine ⟨m, hn.sameBut sb haC, fun h3 sb3 => ?_⟩
  exact ⟨_, H', I2.turned (t' := s2.toks) (fun b o hb e => (sb3.2 b hb).trans e) f0 f1 f3 f4 f5, q⟩
end
section
variable {K : PySem.W.Frag} {σ : SS} {H : Hp} {Q : VK} {QB : Bool → Hp → Prop} {nx bk ct : SS → Hp → Prop} {rt : VK} {g : TG} {tb : TS} {tl te tk tv td ty ta : TE} {tA : TA} {tt : TT} {vs : List Nat} {v : V} {a : Addr} {xs ys : List V}
def AskD (n : Nat) (G : Hp → Prop) (Y : Nat → Hp → V → Hp → Prop) (g : TG) (tt : TT) (tk tv : TE) (vs : List Nat) (σ : SS) (H : Hp) (Q : VK) : Prop :=
  ∀ D, H D = none → ∃ Pv : Nat → Hp → Prop, Pv 0 (upd H D (.dK [])) ∧ (∀ i H, i ≤ n → Pv i H → G H) ∧
    (∀ i x H H', i < n → Pv i H → Y i H x H' → g x (wipe σ vs) H' fun σ2 H2 => wipe σ2 vs = wipe σ vs ∧ tt σ2 H2 fun b H3 =>
      if b = true then tk σ2 H3 fun y H4 => tv σ2 H4 fun z H5 => ∃ kvs k, y = kV k ∧ H5 D = some (.dK kvs) ∧ kvs.length < sizeLine ∧ Pv (i + 1) (upd H5 D (.dK (putK kvs k z))) else Pv (i + 1) H3) ∧ ∀ H, Pv n H → Q (.ref D) H
def WD (J : It) (g : TG) (tt : TT) (tk tv : TE) (vs : List Nat) (σ : SS) (H : Hp) (Q : VK) : Prop := ∀ D, H D = none → ∃ W : Nat → Nat → Hp → Prop, (∃ m, W 0 m (upd H D (.dK []))) ∧ ∀ i m H, W i m H →
  (J.stop i H ∧ Q (.ref D) H) ∨ (J.go i H ∧ ∃ Nx : Hp → Prop, (∀ H', Nx H' → ∃ m', m' < m ∧ W (i + 1) m' H') ∧ ∀ x H', J.yld i H x H' → g x (wipe σ vs) H' fun σ2 H2 => wipe σ2 vs = wipe σ vs ∧ tt σ2 H2 fun b H3 =>
    if b = true then tk σ2 H3 fun y H4 => tv σ2 H4 fun z H5 => ∃ kvs k, y = kV k ∧ H5 D = some (.dK kvs) ∧ kvs.length < sizeLine ∧ Nx (upd H5 D (.dK (putK kvs k z))) else Nx H3)
theorem askD {J : It} {n : Nat} {G : Hp → Prop} {Y : Nat → Hp → V → Hp → Prop} (w : Walk J n G Y) (q : AskD n G Y g tt tk tv vs σ H Q) : WD J g tt tk tv vs σ H Q := by
  intro D hD
  obtain ⟨Pv, h0, hG, hs, hd⟩ := q D hD
  refine ⟨fun i m H => m = n - i ∧ i ≤ n ∧ Pv i H, ⟨n, by simp, Nat.zero_le _, h0⟩, ?_⟩
  rintro i m H ⟨rfl, hi, p⟩
  have qG := hG i H hi p
  by_cases hlt : i < n
  · exact .inr ⟨w.goes i H hlt qG, Pv (i + 1), fun H' p' => ⟨n - (i + 1), by omega, rfl, hlt, p'⟩, fun x H' y => hs i x H H' hlt p (w.yields i H x H' hlt qG y)⟩
  · have e : i = n := by omega
    subst e
    exact .inl ⟨w.stops H qG, hd H p⟩
theorem x_dc {wi : TI} (q : wi σ H fun J H1 => WD J g tt tk tv vs σ H1 Q) : tDc wi g tt tk tv vs σ H Q := q
theorem y_dcL (h : SqL K H a xs) (q : AskD xs.length (fun H => SqL K H a xs) (YA xs) g tt tk tv vs σ H Q) : ∃ b, V.ref a = .ref b ∧ (∃ xs, SqL K H b xs) ∧ WD (Itl K b) g tt tk tv vs σ H Q := ⟨a, rfl, ⟨xs, h⟩, askD walk_list q⟩
/-- a while, by a word of the names and the heap, and a measure -/
theorem x_while {c : TT} (q : ∃ W : Nat → SS → Hp → Prop, (∃ m, W m σ H) ∧ ∀ m σ H, W m σ H → c σ H fun b H1 => if b = true then ∃ N : SS → Hp → Prop, (∀ σ' H', N σ' H' → ∃ m', m' < m ∧ W m' σ' H') ∧ tb ⟨N, rt, nx, N⟩ σ H1 else nx σ H1) : tWhile c tb ⟨nx, rt, bk, ct⟩ σ H := q
theorem x_turn {m : Nat} {W : Nat → SS → Hp → Prop} (q : tb ⟨fun σ' H' => ∃ m', m' < m ∧ W m' σ' H', rt, nx, fun σ' H' => ∃ m', m' < m ∧ W m' σ' H'⟩ σ H) : ∃ N : SS → Hp → Prop, (∀ σ' H', N σ' H' → ∃ m', m' < m ∧ W m' σ' H') ∧ tb ⟨N, rt, nx, N⟩ σ H := ⟨_, fun _ _ h => h, q⟩
theorem x_truthL {R : Bool → Prop} (h : SqL K H a xs) (q : R (!xs.isEmpty)) : ∃ k, TruV K (.ref a) H k ∧ R k := ⟨_, .inl ⟨xs, h, rfl⟩, q⟩
theorem x_pop {Q : VK} {y : V} (h : H a = some (.lst xs)) (e : xs[xs.length - 1]? = some y) (q : Q y (upd H a (.lst xs.dropLast))) : rPop (.ref a) [] H Q := ⟨a, xs, y, rfl, rfl, h, e, q⟩
theorem x_din (q : ty σ H fun y H1 => td σ H1 fun x H2 => ∃ a o, x = .ref a ∧ DGet H2 a y o ∧ Q (.bl o.isSome) H2) : tDIn ty td σ H Q := q
theorem x_dnotin (q : ty σ H fun y H1 => td σ H1 fun x H2 => ∃ a o, x = .ref a ∧ DGet H2 a y o ∧ Q (.bl (!o.isSome)) H2) : tDNotIn ty td σ H Q := q
theorem x_dput (q : tv σ H fun v H1 => td σ H1 fun x H2 => ty σ H2 fun y H3 => ∃ a H4, x = .ref a ∧ DPut H3 a y v H4 ∧ nx σ H4) : sDPut td ty tv ⟨nx, rt, bk, ct⟩ σ H := q
theorem x_dget (q : td σ H fun x H1 => ty σ H1 fun y H2 => ∃ a v, x = .ref a ∧ DGet H2 a y (some v) ∧ Q v H2) : tDGet td ty σ H Q := q
theorem x_dgI {kvs : List (Key × V)} {i : Int} {R : Option V → Prop} (h : H a = some (.dK kvs)) (q : R (valV kvs (.inl i))) : ∃ b o, V.ref a = .ref b ∧ DGet H b (.int i) o ∧ R o := ⟨a, _, rfl, DGet.k (k := .inl i) h, q⟩
theorem x_dpI {kvs : List (Key × V)} {i : Int} {R : Hp → Prop} (h : H a = some (.dK kvs)) (l : kvs.length < sizeLine) (q : R (upd H a (.dK (putK kvs (.inl i) v)))) : ∃ b H', V.ref a = .ref b ∧ DPut H b (.int i) v H' ∧ R H' := ⟨a, _, rfl, DPut.k (k := .inl i) h l, q⟩
theorem x_listD {kvs : List (Key × V)} {Q : VK} (h : H a = some (.dK kvs)) (q : ∀ p, H p = none → Q (.ref p) (upd H p (.lst (kvs.map fun kv => kV kv.1)))) : rListD [.ref a] H Q := ⟨a, kvs, rfl, h, q⟩
theorem x_sortedD {kvs : List (Key × V)} {ks : List Int} {Q : VK} (h : H a = some (.dK kvs)) (e : kvs.map (·.1) = ks.map Sum.inl)
    (q : ∀ (ns : List Int) (p : Addr), ns.Perm ks → ns.Pairwise (· ≤ ·) → H p = none → Q (.ref p) (upd H p (.lst (ns.map V.int)))) : rSortedD [.ref a] H Q := ⟨a, kvs, ks, rfl, h, e, q⟩
theorem x_sortedL {ks : List Int} {Q : VK} (h : SqL K H a (ks.map V.int))
    (q : ∀ (ns : List Int) (p : Addr), ns.Perm ks → ns.Pairwise (· ≤ ·) → H p = none → Q (.ref p) (upd H p (.lst (ns.map V.int)))) : rSortedI K [.ref a] H Q := ⟨a, ks, rfl, h, q⟩
theorem x_inL {x : V} (h : SqL K H a xs) (f : flatV x = true) (fs : xs.all flatV = true) (q : Q (.bl (inV x xs)) H) : rIn K false x (.ref a) H Q := ⟨a, xs, rfl, .inl h, f, fs, q⟩
theorem x_notInL {x : V} (h : SqL K H a xs) (f : flatV x = true) (fs : xs.all flatV = true) (q : Q (.bl (!inV x xs)) H) : rIn K true x (.ref a) H Q := ⟨a, xs, rfl, .inl h, f, fs, q⟩
theorem x_inT {x : V} (h : SqT K H a xs) (f : flatV x = true) (fs : xs.all flatV = true) (q : Q (.bl (inV x xs)) H) : rIn K false x (.ref a) H Q := ⟨a, xs, rfl, .inr h, f, fs, q⟩
theorem x_listL {Q : VK} (h : SqL K H a xs) (q : ∀ l, H l = none → Q (.ref l) (upd H l (.lst xs))) : ∃ p ys, [V.ref a] = [.ref p] ∧ (SqL K H p ys ∨ SqT K H p ys) ∧ ∀ l, H l = none → Q (.ref l) (upd H l (.lst ys)) := ⟨a, xs, rfl, .inl h, q⟩
theorem x_listT {Q : VK} (h : SqT K H a xs) (q : ∀ l, H l = none → Q (.ref l) (upd H l (.lst xs))) : ∃ p ys, [V.ref a] = [.ref p] ∧ (SqL K H p ys ∨ SqT K H p ys) ∧ ∀ l, H l = none → Q (.ref l) (upd H l (.lst ys)) := ⟨a, xs, rfl, .inr h, q⟩
/-- t + u: some tuple of both -/
theorem x_cat {b : Addr} {Q : VK} (h : SqT K H a xs) (h2 : SqT K H b ys) (z : xs.length + ys.length ≤ sizeLine) (q : ∀ (p : Addr) (H' : Hp), SqT K H' p (xs ++ ys) → Kx [] H H' → Q (.ref p) H') : rCatA K (.ref a) (.ref b) H Q := by
  refine ⟨a, b, xs, ys, rfl, rfl, h, h2, z, fun e => ?_, fun _ e => ?_, fun _ _ p hp => ?_⟩
  · subst e
    exact q b H h2 (Kx.refl _ _)
  · subst e
    exact q a H (by rwa [List.append_nil]) (Kx.refl _ _)
  · exact q p _ (SqT.of upd_same) ((Kx.refl _ _).new hp)
theorem in_int {n : Int} : ∀ ns : List Int, inV (.int n) (ns.map V.int) = decide (n ∈ ns)
  | [] => rfl
  | m :: r => by
    have ih := in_int (n := n) r
    unfold inV at ih ⊢
    rw [List.map_cons, List.any_cons, ih]
    by_cases e : m = n
    · subst e
      simp [eqV]
    · have e2 : ¬ n = m := fun z => e z.symm
      simp [eqV, e, e2]
theorem flat_ints : ∀ ns : List Int, (ns.map V.int).all flatV = true
  | [] => rfl
  | _ :: r => flat_ints r
theorem pt_truth' {X : Cx} {a : Expr} {t : TE} (ha : PE X a t) (he : ∀ whole, isTrue a X.env whole = (do let v ← whole; standAt a.pos; holding [v] (truthy v)) := by intro _; rfl) :
    PT X a (fun σ H QB => t σ H fun x H' => ∃ k, TruV X.K x H' k ∧ QB k H') := pt_truth ha he
end
structure Lkw (P : Program) (w : World) (K : PySem.W.Frag) (mg : Str → Option Value) (base : Heap) (x : Str) (k : Nat) (ps ks : List Str) (gV : List V → List V) (sp : Sp) : Prop where
  ex : ∃ (f : Addr) (fd : FuncData) (g : List Value → List Value), FnOk P w K mg base CX0 k f fd ps sp ∧ mg x = some (.ref f) ∧ PySem.W.keepIn K (.ref f) = true ∧ KB K fd ps ks g gV
theorem pe_lkw {X : Cx} {k : Nat} {ps ks : List Str} {sp : Sp} {x : Str} {p pos : Pos} {tk : TA} {kws : List Keyword} {gV : List V → List V} (L : Lkw X.prog X.w X.K X.mg X.base x k ps ks gV sp) (hr : Room k X.A) (hg : Gl X x) (hkw : PK X kws tk)
    (hall : (backToKw pos (keywordEach kws X.env)).all (·.1.isSome) = true := by rfl) (hks : (backToKw pos (keywordEach kws X.env)).filterMap (·.1) = ks := by rfl)
    (hdb : (x == ("__debug__" : Str)) = false := by decide)
    (hpl : ((backTo pos (starEach [] X.env)).any (·.1) || (backToKw pos (keywordEach kws X.env)).any (·.1.isNone)) = false := by rfl) :
    PE X (.Call (.Name x p) [] kws pos) (tCallKw sp gV tk) := by
  obtain ⟨f, fd, g, F, hm, hk, hb⟩ := L.ex
  exact pe_kw0 F hr hg hm hk hb hkw hall hks hdb hpl
theorem x_kw {σ : SS} {H : Hp} {Q : VK} {sp : Sp} {gV : List V → List V} {tk : TA} (q : tk σ H fun zs H1 => sp (gV zs) H1 Q E0) : tCallKw sp gV tk σ H Q := q
theorem op_catAK {X : Cx} {K : PySem.W.Frag} (e : X.K = K := by rfl) : OpR X (binaryOp .Add) (rCatA K) := e ▸ op_catA
theorem op_isN1K : True := trivial

/-! ### max(ints, default=d) -/
section
variable {prog : Program} {w : World} {A : Around} {E : Value → Shared → Prop} {R : Result → Shared → Prop} {I : Addr} {fp wr : List Addr} {G : Array GenState → Array GenState → Prop} {n : Nat} {P : Nat → Value → Prop} {St : Nat → Shared → Prop}
theorem maxkw_turns (kw : List (Str × Value)) (W : WalksS prog w A.in1 I fp wr G n P St) (bt : Nat → Nat → Bool) (hcmp : CmpOf prog w A.in1 .Gt P bt) (S : Addr) (hSf : S ∉ fp) :
    ∀ (k j : Nat) (s : Shared) (vb : Value) (c : Nat), n - (j + 1) = k → j + 1 ≤ n → St (j + 1) s → P (argBest bt j) vb → s.heap.get? S = some { cls := .type "list", dict := none, data := .seq #[vb, vb] c, slots := #[] } →
      (∀ v s', P (argBest bt (n - 1)) v → Moved (S :: wr) G s s' → R (.ok (.ret v)) s') → codeAny (model prog w) A (.builtin "max.loop" ⟨[.ref I, .none, .ref S], kw⟩) R s := by
  have nm : (toString "max" ++ toString ".loop" : String) = "max.loop" := by decide
  have w1 : S ∉ wr := fun h => hSf (W.sub _ h)
  have w2 : ∀ b ∈ wr, b ∈ S :: wr := fun b hb => List.mem_cons_of_mem _ hb
  have w3 : ∀ {b : Addr}, b ∉ S :: wr → S ≠ b := fun hb h => hb (h ▸ List.mem_cons_self)
  intro k
  induction k with
  | zero =>
    intro j s vb c hk hj hst hPb hS hR
    obtain rfl : j + 1 = n := by omega
    refine codeAny_builtin PySem.F.entry_max_loop ?_
    rw [Around.under_plainId PySem.F.plain_max_loop _]; show wpAny _ A.in1 (seqItems? (.ref S) >>= _) _ _ s
    refine wpAny_bind (wpAny_seqItems hS rfl ?_); show wpAny _ A.in1 (tryCatch (pyNext (.ref I)) _ >>= _) _ _ s
    refine wpAny_bind (wpAny_tryCatch (W.done s _ _ hst fun s' hm => ?_))
    have hS' := hm.heap S _ w1 hS
    show wpAny _ A.in1 (updateSeq S (fun _ => (#[] : Array Value)) >>= _) _ _ _
    refine wpAny_bind (wpAny_updateSeq hS' rfl (wpAny_bind (wpAny_letGo (wpAny_pure (hR vb _ hPb ?_)))))
    exact (hm.mono w2).then_heap (tk := s'.toks) (Nat.le_refl _) fun b o hb e => (Heap.get?_update_other _ _ (w3 hb)).trans e
  | succ k ih =>
    intro j s vb c hk hj hst hPb hS hR
    have hlt : j + 1 < n := by omega
    refine codeAny_builtin PySem.F.entry_max_loop ?_
    rw [Around.under_plainId PySem.F.plain_max_loop _]; show wpAny _ A.in1 (seqItems? (.ref S) >>= _) _ _ s
    refine wpAny_bind (wpAny_seqItems hS rfl ?_); show wpAny _ A.in1 (tryCatch (pyNext (.ref I)) _ >>= _) _ _ s
    refine wpAny_bind (wpAny_tryCatch (W.item (j + 1) s _ _ hlt hst fun v s' hP hst' hm => ?_))
    have hS' := hm.heap S _ w1 hS
    show wpAny _ A.in1 (tryCatch (holding [v, v] (richCompare .Gt v vb >>= _)) _ >>= _) _ _ _
    refine wpAny_bind (wpAny_tryCatch (wpAny_holding (wpAny_bind (hcmp (j + 1) (argBest bt j) v vb _ _ _ hP hPb ?_)))); refine wpAny_bind (wpAny_holding (wpAny_truthy_bool ?_))
    refine wpAny_bind (wpAny_letGo (wpAny_pure ?_))
    cases hb : bt (j + 1) (argBest bt j) with
    | true =>
      simp only [if_true]
      refine wpAny_bind (wpAny_updateSeq hS' rfl (wpAny_bind (wpAny_letGo ?_))); rw [nm]
      have far : ∀ {b : Addr}, b ∉ fp → True := fun _ => trivial
      refine wpAny_pure ⟨plainId_quiet PySem.F.plain_max_loop _, ih (j + 1) _ v _ (by omega) hlt (W.frame _ s' _ s'.toks hst' (Nat.le_refl _) fun b hbf o e => (Heap.get?_update_other _ _ (fun h : S = b => hSf (h ▸ hbf))).trans e) (by simp only [argBest, hb, if_true]; exact hP) (Heap.get?_update_self _ hS' rfl) fun v' s'' hP' hm'' => hR v' s'' hP' (Moved.trans W.gtrans ((hm.mono w2).then_heap (Nat.le_refl _) fun b o hb e => (Heap.get?_update_other _ _ (w3 hb)).trans e) hm'')⟩
    | false =>
      simp only [Bool.false_eq_true, if_false]
      refine wpAny_bind (wpAny_letGo ?_); rw [nm]
      exact wpAny_pure ⟨plainId_quiet PySem.F.plain_max_loop _, ih (j + 1) _ vb c (by omega) hlt hst' (by simp only [argBest, hb, Bool.false_eq_true, if_false]; exact hPb) hS' fun v' s'' hP' hm'' => hR v' s'' hP' (Moved.trans W.gtrans (hm.mono w2) hm'')⟩
/-- the first turn, none or one -/
theorem maxkw_first {d : Value} (W : WalksS prog w A.in1 I fp wr G n P St) (bt : Nat → Nat → Bool) (hcmp : CmpOf prog w A.in1 .Gt P bt) (S : Addr) (hSf : S ∉ fp) {s : Shared} {c : Nat} (hst : St 0 s) (hS : s.heap.get? S = some { cls := .type "list", dict := none, data := .seq #[] c, slots := #[] })
    (h0 : n = 0 → ∀ s', Moved (S :: wr) G s s' → R (.ok (.ret d)) s') (h1 : 0 < n → ∀ v s', P (argBest bt (n - 1)) v → Moved (S :: wr) G s s' → R (.ok (.ret v)) s') :
    codeAny (model prog w) A (.builtin "max.loop" ⟨[.ref I, .none, .ref S], [("default", d)]⟩) R s := by
  have nm : (toString "max" ++ toString ".loop" : String) = "max.loop" := by decide
  have w1 : S ∉ wr := fun h => hSf (W.sub _ h)
  have w2 : ∀ b ∈ wr, b ∈ S :: wr := fun b hb => List.mem_cons_of_mem _ hb
  have w3 : ∀ {b : Addr}, b ∉ S :: wr → S ≠ b := fun hb h => hb (h ▸ List.mem_cons_self)
  refine codeAny_builtin PySem.F.entry_max_loop ?_
  rw [Around.under_plainId PySem.F.plain_max_loop _]; show wpAny _ A.in1 (seqItems? (.ref S) >>= _) _ _ s
  refine wpAny_bind (wpAny_seqItems hS rfl ?_); show wpAny _ A.in1 (tryCatch (pyNext (.ref I)) _ >>= _) _ _ s
  by_cases hn : 0 < n
  · refine wpAny_bind (wpAny_tryCatch (W.item 0 s _ _ hn hst fun v s' hP hst' hm => ?_))
    have hS' := hm.heap S _ w1 hS
    show wpAny _ A.in1 (updateSeq S (fun _ => #[v, v]) >>= _) _ _ _
    refine wpAny_bind (wpAny_updateSeq hS' rfl ?_); rw [nm]
    refine wpAny_pure ⟨plainId_quiet PySem.F.plain_max_loop _, maxkw_turns _ W bt hcmp S hSf _ 0 _ v _ rfl hn (W.frame _ s' _ s'.toks hst' (Nat.le_refl _) fun b hbf o e => (Heap.get?_update_other _ _ (fun h : S = b => hSf (h ▸ hbf))).trans e) hP (Heap.get?_update_self _ hS' rfl) fun v' s'' hP' hm'' => h1 hn v' s'' hP' ?_⟩
    exact Moved.trans W.gtrans ((hm.mono w2).then_heap (Nat.le_refl _) fun b o hb e => (Heap.get?_update_other _ _ (w3 hb)).trans e) hm''
  · obtain rfl : n = 0 := by omega
    refine wpAny_bind (wpAny_tryCatch (W.done s _ _ hst fun s' hm => ?_))
    refine wpAny_bind (wpAny_rule ?_)
    exact wpAny_pure (h0 rfl s' (hm.mono w2))
theorem maxd_args (a v : Value) : argsOk "max" ⟨[a], [(Str.ofString "default", v)]⟩ := by unfold argsOk; kernel_rfl
theorem max_dflt {l : Addr} {its : List Value} {ns : List Int} {d : Value} {s : Shared} {Q : Value → Shared → Prop} (hh : A.handled = none) (hl : s.heap.IsList l its.toArray) (hi : IntsAre its ns)
    (h0 : ns = [] → ∀ h' tk, (∀ b o, s.heap.get? b = some o → h'.get? b = some o) → Q d { s with heap := h', toks := tk })
    (h1 : ∀ h' tk m t', (∀ b o, s.heap.get? b = some o → h'.get? b = some o) → m ∈ ns → (∀ a, a ∈ ns → a ≤ m) → Q (.int m t') { s with heap := h', toks := tk }) :
    wpAny (model prog w) A (call (.builtin "max") [.ref l] [(Str.ofString "default", d)]) Q E s := by
  obtain ⟨xs, e⟩ := hi.allInts.items
  have hn : numsOf (intItems xs).toList = ns := e ▸ hi.numsOf
  rw [nums_intItems] at hn
  subst hn
  rw [e] at hl
  have nm : (toString "max" ++ toString ".loop" : String) = "max.loop" := by decide
  refine kmb_tree PySem.F.kind_max PySem.F.plain_max PySem.F.entry_max (maxd_args _ _) ?_
  show wpAny _ A.in1 (Builtin.Builtins.bindParams "max" ["key", "default"] 0 ⟨[], [(Str.ofString "default", d)]⟩ >>= _) _ _ s
  refine wpAny_bind (wpAny_of_eq (show Builtin.Builtins.bindParams "max" ["key", "default"] 0 ⟨[], [(Str.ofString "default", d)]⟩ = pure [none, some d] from rfl) ?_)
  refine wpAny_bind (wpAny_pure (wpAny_bind ?_))
  refine PySem.iter_intList hl fun s2 e2 st hfp hlI => ?_
  subst e2
  refine wpAny_bind (wpAny_newObj_type ?_); rw [nm]
  have W := Walks.list (prog := prog) (w := w) (A := A.in1) hh s.heap.objs.size l hlI (intItems xs)
  have hsz : (s.heap.push { cls := .type "list_iterator", data := .fields #[.ref l, .int 0 0] }).objs.size = s.heap.objs.size + 1 := Heap.size_push ..
  have hSf : (s.heap.push { cls := .type "list_iterator", data := .fields #[.ref l, .int 0 0] }).objs.size ∉ [s.heap.objs.size, l] := fun hm => Nat.lt_irrefl _ (hfp _ hm)
  have hlen : (intItems xs).size = xs.size := by simp [intItems]
  have off : ∀ {b : Addr} {o : Obj}, s.heap.get? b = some o → b ∉ [(s.heap.push { cls := .type "list_iterator", data := .fields #[.ref l, .int 0 0] }).objs.size, s.heap.objs.size] := fun {b o} q hm => by
    have hlt : b < s.heap.objs.size := Heap.lt_size q
    rw [hsz] at hm
    rcases List.mem_cons.mp hm with z | z
    · exact absurd hlt (by rw [z]; exact Nat.not_lt.mpr (Nat.le_succ _))
    · exact absurd hlt (by rw [List.mem_singleton.mp z]; exact Nat.lt_irrefl _)
  refine wpAny_pure ⟨plainId_quiet PySem.F.plain_max_loop _, maxkw_first W.toS _ (CmpOf.ints_gt (numAt xs) (fun _ _ => intItems_at)) _ hSf (W.toS.frame 0 _ _ s.toks st (Nat.le_refl _) fun b _ o q => Heap.get?_push_of_some _ q) (Heap.get?_push_size _ rfl) (fun hz s' hm => ?_) (fun hz v s' hP hm => ?_)⟩
  · rw [Moved.eq_with hm]
    exact h0 (by rw [hlen] at hz; rw [Array.eq_empty_of_size_eq_zero hz]; rfl) s'.heap s'.toks fun b o q => hm.heap b o (off q) (Heap.get?_push_of_some _ (Heap.get?_push_of_some _ q))
  · rw [Moved.eq_with hm]
    have hne : 0 < xs.size := by rwa [hlen] at hz
    have hP : (intItems xs)[argBest (fun i j => decide (numAt xs i > numAt xs j)) (xs.size - 1)]? = some v := by simpa [intItems] using hP
    obtain ⟨t, rfl⟩ := intItems_at hP
    obtain ⟨g1, g2⟩ := argBest_gt (numAt xs) (xs.size - 1)
    refine h1 s'.heap s'.toks _ t (fun b o q => hm.heap b o (off q) (Heap.get?_push_of_some _ (Heap.get?_push_of_some _ q))) ?_ fun a ha => ?_
    · rw [numAt_eq]
      exact PySem.getD_mem (by rw [List.length_map, Array.length_toList]; omega)
    · obtain ⟨j, hj, rfl⟩ := mem_getD ha
      rw [List.length_map, Array.length_toList] at hj
      exact numAt_eq xs j ▸ g2 j (by omega)
end
section
variable {X : Cx}
def rMaxD (K : PySem.W.Frag) : List V → List V → Hp → VK → Prop := fun xs zs H Q => ∃ (a : Addr) (ns : List Int) (d : Int), xs = [.ref a] ∧ zs = [.int d] ∧ SqL K H a (ns.map V.int) ∧ (ns = [] → Q (.int d) H) ∧ ∀ m, m ∈ ns → (∀ b, b ∈ ns → b ≤ m) → Q (.int m) H
theorem cr_maxD (hc : X.calm = true) : CallRK X (.builtin "max") [Str.ofString "default"] (rMaxD X.K) := by
  intro pins s σ H xs zs us ws Q I r rz h
  obtain ⟨a, ns, d, rfl, rfl, hs, q0, q1⟩ := h
  obtain ⟨its, rv, hl, _⟩ := I.list hs
  obtain ⟨u, rfl, ru⟩ := vals1 rz
  rw [Vals.ref1 r]
  exact max_dflt (I.ok.hd hc) hl.isList rv.ints (fun e h' tk hk => ⟨.int d, H, I.kept hk, ru, q0 e⟩) fun h' tk m t' hk h1 h2 => ⟨.int m, H, I.kept hk, ⟨_, rfl⟩, q1 m h1 h2⟩
end

/-! ### own classes -/
/-- a method, by its promise (self first) -/
structure Lm (P : Program) (w : World) (K : PySem.W.Frag) (mg : Str → Option Value) (base : Heap) (C : Addr) (m : Str) (k : Nat) (ps : List Str) (sp : Sp) : Prop where
  ex : ∃ (f : Addr) (fd : FuncData), FnOk P w K mg base CX0 k f fd ps sp ∧ Meth K C m f ∧ Binds K fd ps []
/-- a class that is made, by its __init__'s promise -/
structure Ln (P : Program) (w : World) (K : PySem.W.Frag) (mg : Str → Option Value) (base : Heap) (C : Addr) (x : Str) (k : Nat) (ps : List Str) (sp : Sp) : Prop where
  ex : ∃ (f : Addr) (fd : FuncData), FnOk P w K mg base CX0 k f fd ps sp ∧ Mk K C f ∧ mg x = some (.ref C) ∧ Binds K fd ps []
section
variable {X : Cx} {k : Nat} {C : Addr} {m x : Str} {ps : List Str} {sp : Sp} {o e : Expr} {es : List Expr} {apos p pos : Pos} {ta : TE} {t : TA}
theorem pe_lm {pl : Sem Bool} (L : Lm X.prog X.w X.K X.mg X.base C m k ps sp) (c : Cls X.K C) (hr : Room k X.A) (ho : PE X o ta) (ha : PA X (e :: es) t)
    (hst : starEach (e :: es) X.env = (false, eval e X.env) :: starEach es X.env := by rfl) (hpl : (backTo pos (starEach es X.env)).any (·.1) = false := by rfl)
    (ht : eval (.Call (.Attribute o m apos) (e :: es) [] pos) X.env = (do let ov ← eval o X.env; standAt apos.atName; let (f, first) ← holding [ov] (getMethod ov m pl); callWith pos f first (backTo pos (starEach (e :: es) X.env)) (backToKw pos (keywordEach [] X.env))) := by rfl) :
    PE X (.Call (.Attribute o m apos) (e :: es) [] pos) (tMeth C m sp [] E0 ta t) := by
  obtain ⟨f, fd, F, hm, hb⟩ := L.ex
  exact pe_meth (pl := pl) ho c hm F hr hb .nil pass0 ha hst hpl ht
theorem pe_lm0 {pl : Sem Bool} (L : Lm X.prog X.w X.K X.mg X.base C m k ps sp) (c : Cls X.K C) (hr : Room k X.A) (ho : PE X o ta)
    (ht : eval (.Call (.Attribute o m apos) [] [] pos) X.env = (do let ov ← eval o X.env; standAt apos.atName; let (f, first) ← holding [ov] (getMethod ov m pl); callWith pos f first (backTo pos (starEach [] X.env)) (backToKw pos (keywordEach [] X.env))) := by rfl) :
    PE X (.Call (.Attribute o m apos) [] [] pos) (tMeth C m sp [] E0 ta tNil) := by
  obtain ⟨f, fd, F, hm, hb⟩ := L.ex
  exact pe_meth0 (pl := pl) ho c hm F hr hb .nil pass0 ht
theorem pe_ln (L : Ln X.prog X.w X.K X.mg X.base C x k ps sp) (hr : Room (k + 1) X.A) (hg : Gl X x) (ha : PA X (e :: es) t) (hdb : (x == ("__debug__" : Str)) = false := by decide)
    (he : starEach (e :: es) X.env = (false, eval e X.env) :: starEach es X.env := by rfl) (hpl : (backTo pos (starEach es X.env)).any (·.1) = false := by rfl) : PE X (.Call (.Name x p) (e :: es) [] pos) (tMake C sp [] E0 t) := by
  obtain ⟨f, fd, F, hm, hg2, hb⟩ := L.ex
  exact pe_make hm F hr hg hg2 hb .nil pass0 ha hdb he hpl
end
section
variable {K : PySem.W.Frag} {σ : SS} {H : Hp} {Q : VK} {nx bk ct : SS → Hp → Prop} {rt : VK} {C a dx : Addr} {fs : List (Str × V)} {f m : Str} {v : V} {ta te : TE} {t tk : TA} {sp : Sp}
theorem x_meth (q : ta σ H fun x H1 => ∃ a dx fs, x = .ref a ∧ H1 a = some (.ins C dx fs) ∧ fs.lookup m = none ∧ t σ H1 fun vs H2 => sp (x :: (vs ++ [])) H2 Q E0) : tMeth C m sp [] E0 ta t σ H Q := q
theorem x_insM {R : Prop} (h : H a = some (.ins C dx fs)) (l : fs.lookup m = none) (q : R) : ∃ a' dx' fs', V.ref a = .ref a' ∧ H a' = some (.ins C dx' fs') ∧ List.lookup m fs' = none ∧ R := ⟨a, dx, fs, rfl, h, l, q⟩
theorem x_fld (q : ta σ H fun x H1 => ∃ a C dx fs v, x = .ref a ∧ H1 a = some (.ins C dx fs) ∧ Cls K C ∧ NoAttr K C f ∧ fs.lookup f = some v ∧ Q v H1) : tFld K ta f σ H Q := q
theorem x_insF {R : V → Prop} (h : H a = some (.ins C dx fs)) (c : Cls K C) (n : NoAttr K C f) (l : fs.lookup f = some v) (q : R v) : ∃ a' C' dx' fs' v', V.ref a = .ref a' ∧ H a' = some (.ins C' dx' fs') ∧ Cls K C' ∧ NoAttr K C' f ∧ List.lookup f fs' = some v' ∧ R v' :=
  ⟨a, C, dx, fs, v, rfl, h, c, n, l, q⟩
theorem x_sfld (q : te σ H fun y H1 => ta σ H1 fun x H2 => ∃ a C dx fs, x = .ref a ∧ H2 a = some (.ins C dx fs) ∧ Cls K C ∧ NoAttr K C f ∧ fs.length < 1000 ∧ nx σ (upd H2 a (.ins C dx (putF f y fs)))) : sFld K ta te f ⟨nx, rt, bk, ct⟩ σ H := q
theorem x_make (q : t σ H fun vs H1 => ∀ x dx, H1 x = none → H1 dx = none → dx ≠ x → sp (.ref x :: (vs ++ [])) (upd (upd H1 dx (.own x)) x (.ins C dx [])) (fun v H2 => v = .non ∧ Q (.ref x) H2) E0) : tMake C sp [] E0 t σ H Q := q
theorem x_ckw {r : List V → List V → Hp → VK → Prop} (q : t σ H fun vs H1 => tk σ H1 fun zs H2 => r vs zs H2 Q) : tCKw r t tk σ H Q := q
theorem x_maxD {ns : List Int} {d : Int} (h : SqL K H a (ns.map V.int)) (q0 : ns = [] → Q (.int d) H) (q1 : ∀ m, m ∈ ns → (∀ b, b ∈ ns → b ≤ m) → Q (.int m) H) : rMaxD K [.ref a] [.int d] H Q := ⟨a, ns, d, rfl, rfl, h, q0, q1⟩
/-- a range with a step -/
theorem x_iR3 {R : It → Hp → Prop} (q : t σ H fun vs H1 => ∃ (i j c : Int) (n : Nat), vs = [.int i, .int j, .int c] ∧ RgC i j c n ∧ R (Itc i c n) H1) : iRng3 t σ H R := q
theorem y_forDown {g : TG} {tb : TS} {i : Int} (h0 : -1 ≤ i) (h1 : i < 1000000) (q : AskF (i + 1).toNat (fun _ => True) (YFn fun k => .int (i + (k : Nat) * (-1))) g tb nx rt σ H) :
    ∃ (i' j c : Int) (n : Nat), [V.int i, V.int (-1), V.int (-1)] = [.int i', .int j, .int c] ∧ RgC i' j c n ∧ WF (Itc i' c n) g tb nx rt σ H := by
  refine ⟨i, -1, -1, (i + 1).toNat, rfl, ?_, askF walk_rangeC q⟩
  have := RgC.neg (i := i) (j := -1) (by omega) (by omega) (by decide) (by decide)
  rwa [show (i - -1) = i + 1 by omega] at this
end
theorem iteP {c : Bool} {A B : Prop} (h : c = true) (q : A) : if c = true then A else B := by rw [if_pos h]; exact q
theorem iteN {c : Bool} {A B : Prop} (h : c = false) (q : B) : if c = true then A else B := by rw [h]; exact q
section
variable {K : PySem.W.Frag} {σ : SS} {H : Hp} {Q : VK} {x y : V} {ta tb tc : TE} {r r' : R2} {QB : Bool → Hp → Prop}
theorem x_chain (q : ta σ H fun x H1 => tb σ H1 fun y H2 => r x y H2 fun z H3 => ∃ k, z = .bl k ∧ (if k = true then tc σ H3 fun w' H4 => r' y w' H4 Q else Q (.bl false) H3)) : tChain r r' ta tb tc σ H Q := q
theorem x_isi {n : String} {t : Value} {b : Bool} (ty : TyX K H x t) (k : PySem.W.kitOne K t (.type n) = some b) (q : Q (.bl b) H) : rIsi K [x, .ty n] H Q := ⟨x, .ty n, t, .type n, b, rfl, .ty n, ty, k, q⟩
theorem x_isiII {i : Int} (q : Q (.bl true) H) : rIsi K [.int i, .ty "int"] H Q := x_isi (.base (.int i)) (kit_ty (by decide +kernel)) q
theorem x_isiIB {i : Int} (q : Q (.bl false) H) : rIsi K [.int i, .ty "bool"] H Q := x_isi (.base (.int i)) (kit_ty (by decide +kernel)) q
end
section
variable {K : PySem.W.Frag} {σ : SS} {H : Hp} {Q : VK} {QS : SS → Hp → Prop} {nx bk ct : SS → Hp → Prop} {rt : VK} {s1 s2 : TS} {ta tb : TE} {tA : TA} {a b : Addr} {xs : List V} {ds : List PyData}
theorem x_par3 {i j l : Nat} (q : tA σ H fun vs H1 => ∃ u v w, vs = [u, v, w] ∧ nx (((σ.set i (some u)).set j (some v)).set l (some w)) H1) : tPar3 i j l tA ⟨nx, rt, bk, ct⟩ σ H := q
theorem x_three {R : V → V → V → Prop} {x y z : V} (q : R x y z) : ∃ u v w, [x, y, z] = [u, v, w] ∧ R u v w := ⟨x, y, z, rfl, q⟩
theorem x_orT (q : ta σ H fun x H1 => ∃ k, TruV K x H1 k ∧ if k = true then Q x H1 else tb σ H1 Q) : tOrT K ta tb σ H Q := q
theorem x_truN {R : Bool → Prop} (q : R false) : ∃ k, TruV K .non H k ∧ R k := ⟨false, rfl, q⟩
theorem x_truT {R : Bool → Prop} (h : SqT K H a xs) (q : R (!xs.isEmpty)) : ∃ k, TruV K (.ref a) H k ∧ R k := ⟨_, .inr (.inl ⟨xs, h, rfl⟩), q⟩
theorem x_glst {m : Nat} {u : TGs} (h : SqL K H a xs) (l : xs.length = m) (q : u xs σ H QS) : gLst K m u (.ref a) σ H QS := ⟨a, xs, rfl, h, l, q⟩
/-- a part of a block that may end in more than one way: what comes behind it, once -/
theorem x_seqG (P : SS → Hp → Prop) (q : ∀ G : SS → Hp → Prop, (∀ σ H, P σ H → G σ H) → s1 ⟨G, rt, bk, ct⟩ σ H) (r : ∀ σ H, P σ H → s2 ⟨nx, rt, bk, ct⟩ σ H) : tSeq s1 s2 ⟨nx, rt, bk, ct⟩ σ H := q _ r
theorem eqv_nil (ds : List PyData) : PyData.eqv (.list ds) (.list []) = ds.isEmpty := by
  cases ds <;> rfl
theorem x_neNilD (h : SqL K H a xs) (hd : DpAll K H xs ds) (sh : SeqAt.shaped (.list ds) = true) (hb : SqL K H b []) (q : Q (.bl (!ds.isEmpty)) H) : rNeD K (.ref a) (.ref b) H Q := ⟨.list ds, .list [], .lst h hd, .lst hb .nil, sh, by decide, by rw [eqv_nil]; exact q⟩
theorem x_eqNilD (h : SqL K H a xs) (hd : DpAll K H xs ds) (sh : SeqAt.shaped (.list ds) = true) (hb : SqL K H b []) (q : Q (.bl ds.isEmpty) H) : rEqD K (.ref a) (.ref b) H Q := ⟨.list ds, .list [], .lst h hd, .lst hb .nil, sh, by decide, by rw [eqv_nil]; exact q⟩
theorem x_catL {ys : List V} (h : H a = some (.lst xs)) (h2 : H b = some (.lst ys)) (z : xs.length + ys.length ≤ sizeLine) (q : ∀ p, H p = none → Q (.ref p) (upd H p (.lst (xs ++ ys)))) : rCat (.ref a) (.ref b) H Q := ⟨a, b, xs, ys, rfl, rfl, h, h2, z, q⟩
end

/-! ### the rules that speak of X.K, with K told from outside -/
section
variable {X : Cx} {K : PySem.W.Frag}
theorem op_eqDK (hu : X.A.units + 64 < cLine) (e : X.K = K := by rfl) : OpR X (compareOp .Eq) (rEqD K) := e ▸ op_eqD hu
theorem op_neDK (hu : X.A.units + 64 < cLine) (e : X.K = K := by rfl) : OpR X (compareOp .NotEq) (rNeD K) := e ▸ op_neD hu
end
section
variable {X : Cx} {K : PySem.W.Frag} {o e : Expr} {es : List Expr} {to : TE} {t : TA} {name : Str} {apos cpos : Pos} {T id : String} {r : V → List V → Hp → VK → Prop}
theorem pe_bmK (pa : PlainAttrs T) (slot : Slot T name id) (hty : typeOf (.builtin id) = pure (.type "method_descriptor")) (hm : MtR X id r) (ho : PE X o to) (ha : PA X (e :: es) t) (eK : X.K = K := by rfl)
    (hbase : attributeBase o name X.env (eval o X.env) = eval o X.env := by rfl)
    (hfew : ((backTo cpos (starEach (e :: es) X.env)).all (fun x => !x.1) && (backToKw cpos (keywordEach [] X.env)).all (fun x => x.1.isSome)
      && decide ((e :: es).length + ([] : List Keyword).length + (if ([] : List Keyword).isEmpty then 0 else 1) < 30)) = true := by rfl)
    (hline : (apos.endLine == cpos.line) = true := by rfl) (hs : starEach (e :: es) X.env = (false, eval e X.env) :: starEach es X.env := by rfl) (hplain : (backTo cpos (starEach es X.env)).any (·.1) = false := by rfl) :
    PE X (.Call (.Attribute o name apos) (e :: es) [] cpos) (tBM K T r to t) := eK ▸ pe_bm pa slot hty hm ho ha hbase hfew hline hs hplain
theorem pe_bm0K (pa : PlainAttrs T) (slot : Slot T name id) (hty : typeOf (.builtin id) = pure (.type "method_descriptor")) (hm : MtR X id r) (ho : PE X o to) (eK : X.K = K := by rfl)
    (hbase : attributeBase o name X.env (eval o X.env) = eval o X.env := by rfl) (hline : (apos.endLine == cpos.line) = true := by rfl) : PE X (.Call (.Attribute o name apos) [] [] cpos) (tBM0 K T r to) := eK ▸ pe_bm0 pa slot hty hm ho hbase hline
end
/-! ### all that is no list is kept -/
def Kt (H H' : Hp) : Prop := ∀ b o, H b = some o → (∀ xs, o ≠ .lst xs) → H' b = some o
theorem Kt.refl (H : Hp) : Kt H H := fun _ _ h _ => h
theorem Kt.trans {H H1 H2 : Hp} (a : Kt H H1) (b : Kt H1 H2) : Kt H H2 := fun c o h n => b c o (a c o h n) n
theorem Kt.of {S : List Addr} {H H' : Hp} (k : Kx S H H') (h : ∀ q ∈ S, ∃ xs, H q = some (.lst xs)) : Kt H H' := fun b o e n => by
  refine k b o (fun z => ?_) e
  obtain ⟨xs, hq⟩ := h b z
  rw [e] at hq
  exact n xs (Option.some.inj hq)
theorem Kt.of0 {H H' : Hp} (k : Kx [] H H') : Kt H H' := fun b o e _ => k b o (by simp) e
theorem Kt.of1 {H H' : Hp} {p : Addr} (k : Kx [p] H H') {xs : List V} (h : H p = some (.lst xs)) : Kt H H' := Kt.of k fun q hq => by rw [List.mem_singleton.mp hq]; exact ⟨xs, h⟩
theorem Kt.wr {H H' : Hp} {q : Addr} {o : HO} (k : Kt H H') {xs : List V} (h : H' q = some (.lst xs)) : Kt H (upd H' q o) := fun b u e n => by
  have e2 := k b u e n
  by_cases hb : b = q
  · subst hb
    rw [h] at e2
    exact absurd (Option.some.inj e2).symm (n xs)
  · rw [upd_ne hb]
    exact e2
theorem Kt.new {H H' : Hp} {q : Addr} {o : HO} (k : Kt H H') (h : H' q = none) : Kt H (upd H' q o) := fun b u e n => lk_ne (k b u e n) h
theorem Kt.sqT {K : PySem.W.Frag} {H H' : Hp} {a : Addr} {xs : List V} (k : Kt H H') (h : SqT K H a xs) : SqT K H' a xs := by
  rcases h with (h | ⟨o, h⟩) | h
  · exact .inl (.inl (k _ _ h (by intro ys z; cases z)))
  · exact .inl (.inr ⟨o, k _ _ h (by intro ys z; cases z)⟩)
  · exact .inr h
theorem Kx.cmb {S : List Addr} {H H1 H2 : Hp} {Z : Addr} (a : Kx S H H1) (b : Kx [Z] H1 H2) (n : H Z = none) : Kx S H H2 := fun q o hq h =>
  b q o (fun z => by rw [List.mem_singleton.mp z, n] at h; cases h) (a q o hq h)
/-! ### numbers -/
def oV : Option Nat → V
  | none => .non
  | some n => .int (n : Int)
def oD : Option Nat → PyData
  | none => .none
  | some n => .int (n : Int)
theorem dp_o {K : PySem.W.Frag} {H : Hp} : ∀ o : Option Nat, Dp K H (oV o) (oD o)
  | none => .non
  | some n => .int n
theorem dp_os {K : PySem.W.Frag} {H : Hp} : ∀ l : List (Option Nat), DpAll K H (l.map oV) (l.map oD)
  | [] => .nil
  | o :: r => .cons (dp_o o) (dp_os r)
theorem good_os {l : List (Option Nat)} (h : ∀ o ∈ l, ∀ n, o = some n → n < 10 ^ 9) (hl : l.length ≤ 40) : Good (.tuple (l.map oD)) 1 (40 * 32) := by
  refine Good.tuple (k := 0) (w := 31) (n := 40) ?_ (by rw [List.length_map]; exact hl)
  intro d hd
  obtain ⟨o, ho, rfl⟩ := List.mem_map.mp hd
  cases o with
  | none => exact Good.none.mono (Nat.le_refl _) (by decide)
  | some n =>
    have := h _ ho n rfl
    exact Good.int (by omega)
abbrev natV (l : List Nat) : List V := l.map fun (n : Nat) => V.int (n : Int)
theorem natV_get {l : List Nat} {i n : Nat} (h : l[i]? = some n) : (natV l)[i]? = some (V.int (n : Int)) := by
  unfold natV
  rw [List.getElem?_map, h]
  rfl
theorem natV_at {l : List Nat} {i n : Nat} (h : l[i]? = some n) : atI (natV l) (i : Int) = some (.int (n : Int)) := atI_nat (natV_get h)
theorem natV_int (l : List Nat) : natV l = (l.map fun (n : Nat) => (n : Int)).map V.int := by
  unfold natV
  rw [List.map_map]
  rfl
theorem natV_len (l : List Nat) : (natV l).length = l.length := List.length_map ..
theorem cast_back {N : Nat} : ∀ {zs : List Int}, (∀ z ∈ zs, z ∈ (List.range N).map fun (i : Nat) => (i : Int)) → natV (zs.map Int.toNat) = zs.map V.int
  | [], _ => rfl
  | z :: r, h => by
    obtain ⟨m, _, e⟩ := List.mem_map.mp (h z List.mem_cons_self)
    have ih := cast_back (zs := r) fun y hy => h y (List.mem_cons_of_mem _ hy)
    unfold natV at ih ⊢
    rw [List.map_cons, List.map_cons, List.map_cons, ih, ← e]
    rfl
theorem perm_nat {zs : List Int} {N : Nat} (h : zs.Perm ((List.range N).map fun (i : Nat) => (i : Int))) : ∃ ns : List Nat, zs.map V.int = natV ns ∧ ns.Perm (List.range N) := by
  refine ⟨zs.map Int.toNat, (cast_back fun z hz => h.mem_iff.mp hz).symm, ?_⟩
  have e := h.map Int.toNat
  rw [List.map_map] at e
  have e2 : (List.range N).map (Int.toNat ∘ fun (i : Nat) => (i : Int)) = List.range N := by
    rw [show (Int.toNat ∘ fun (i : Nat) => (i : Int)) = id from funext fun n => Int.toNat_natCast n, List.map_id]
  rwa [e2] at e
theorem rg_nat (N : Nat) : rgV 0 (N : Int) = natV (List.range N) := by
  unfold rgV natV
  rw [show ((N : Int) - 0).toNat = N by omega]
  refine List.map_congr_left fun i _ => ?_
  show V.int (0 + (i : Int)) = V.int i
  rw [Int.zero_add]
theorem erase_nat : ∀ (zs : List Nat) (i : Nat), (natV zs).eraseIdx i = natV (zs.eraseIdx i)
  | [], _ => rfl
  | _ :: _, 0 => rfl
  | z :: r, i + 1 => congrArg (V.int (z : Int) :: ·) (erase_nat r i)
theorem at_i {zs : List Int} {w : Int} (h0 : 0 ≤ w) (h1 : w < zs.length) : ∃ z ∈ zs, zs[w.toNat]? = some z ∧ atI (zs.map V.int) w = some (.int z) := by
  obtain ⟨i, rfl⟩ : ∃ i : Nat, w = i := ⟨w.toNat, by omega⟩
  have hi : i < zs.length := by omega
  have e1 := List.getElem?_eq_getElem hi
  refine ⟨zs[i], List.getElem_mem hi, by simpa using e1, atI_nat ?_⟩
  rw [List.getElem?_map, e1]
  rfl
theorem ix_n {n j : Nat} (hj : j < n) : ixN n (j : Int) = some j := by
  unfold ixN
  rw [if_pos (by omega), if_pos (by omega), Int.toNat_natCast]
theorem erase_perm0 {z : Nat} : ∀ {zs : List Nat} {i : Nat}, zs[i]? = some z → (z :: zs.eraseIdx i).Perm zs
  | [], _, h => by cases h
  | y :: r, 0, h => by
    cases Option.some.inj h
    exact .refl _
  | y :: r, i + 1, h => (List.Perm.swap y z _).trans ((erase_perm0 (zs := r) (i := i) h).cons y)
theorem erase_perm {zs : List Nat} {i : Nat} {z : Nat} (h : zs[i]? = some z) (as : List Nat) : (as ++ [z] ++ zs.eraseIdx i).Perm (as ++ zs) := by
  rw [List.append_assoc]
  exact List.Perm.append_left as (erase_perm0 h)
section
variable {K : PySem.W.Frag} {σ : SS} {H : Hp} {Q : VK} {te : TE} {a : Addr} {xs : List V} {y : V} {i : Nat} {j : Int}
theorem x_revL (q : te σ H fun x H1 => ∃ a xs, x = .ref a ∧ SqL K H1 a xs ∧ ∀ p, H1 p = none → Q (.ref p) (upd H1 p (.lst xs.reverse))) : tRevL K te σ H Q := q
theorem x_revR {R : Addr → List V → Prop} (h : SqL K H a xs) (q : ∀ p, H p = none → R p xs) : ∃ a' ys, V.ref a = .ref a' ∧ SqL K H a' ys ∧ ∀ p, H p = none → R p ys := ⟨a, xs, rfl, h, q⟩
theorem x_popAt (h : H a = some (.lst xs)) (e : j = (i : Int)) (b : i < 1000000) (s : xs[i]? = some y) (q : Q y (upd H a (.lst (xs.eraseIdx i)))) : rPopAt (.ref a) [.int j] H Q := by
  subst e
  have hi := (List.getElem?_eq_some_iff.mp s).1
  exact ⟨a, xs, i, i, y, rfl, rfl, h, by omega, by omega, seqIndex_of (by omega) (by omega), s, q⟩
theorem dp_nats : ∀ l : List Nat, DpAll K H (natV l) (l.map fun (n : Nat) => PyData.int (n : Int))
  | [] => .nil
  | n :: r => .cons (.int n) (dp_nats r)
end
theorem shaped_int2 (p s : Int) : SeqAt.shaped (.tuple [.int p, .int s]) = true := by
  unfold SeqAt.shaped
  simp [PyData.canLay0, PyData.canLayAll0, PyData.depth, PyData.depthAll]
theorem dpAll_i {K : PySem.W.Frag} {H : Hp} : ∀ {vs : List V} {ds : List PyData}, vs.length = ds.length → (∀ (i : Nat) (d : PyData), ds[i]? = some d → ∃ v, vs[i]? = some v ∧ Dp K H v d) → DpAll K H vs ds
  | [], [], _, _ => .nil
  | [], _ :: _, h, _ => by cases h
  | _ :: _, [], h, _ => by cases h
  | v :: vs, d :: ds, h, q => by
    obtain ⟨v', e, hd⟩ := q 0 d rfl
    cases Option.some.inj e
    exact .cons hd (dpAll_i (Nat.succ.inj h) fun i d' hi => q (i + 1) d' hi)

theorem in_nat {n : Nat} (ns : List Nat) : inV (.int (n : Int)) (natV ns) = decide (n ∈ ns) := by
  rw [natV_int, in_int]
  congr 1
  rw [List.mem_map]
  refine propext ⟨?_, fun h => ⟨n, h, rfl⟩⟩
  rintro ⟨m, hm, e⟩
  rwa [← Int.ofNat.inj e]
theorem flat_nats (ns : List Nat) : (natV ns).all flatV = true := by rw [natV_int]; exact flat_ints _
theorem x_neNilN {K : PySem.W.Frag} {H : Hp} {Q : VK} {a b : Addr} {l : List Nat} (h : SqL K H a (natV l)) (hb : SqL K H b []) (q : Q (.bl (!l.isEmpty)) H) : rNeD K (.ref a) (.ref b) H Q := by
  rw [natV_int] at h
  refine x_neNil h hb ?_
  cases l with
  | nil => exact q
  | cons _ _ => exact q
theorem set_range {α : Type} {n j : Nat} {f g : Nat → α} (hj : j < n) (h1 : ∀ i, i ≠ j → g i = f i) : ((List.range n).map f).set j (g j) = (List.range n).map g := by
  refine List.ext_getElem? fun i => ?_
  by_cases e : i = j
  · subst e
    rw [List.getElem?_set_self (by rw [List.length_map, List.length_range]; exact hj), List.getElem?_map, List.getElem?_range hj]
    rfl
  · rw [List.getElem?_set_ne (Ne.symm e), List.getElem?_map, List.getElem?_map]
    cases h : (List.range n)[i]? with
    | none => rfl
    | some k =>
      obtain ⟨h2, h3⟩ := List.getElem?_eq_some_iff.mp h
      rw [List.getElem_range] at h3
      show some (f k) = some (g k)
      rw [h1 k (by omega)]

open PySem PySem.Spec PySem.Calls PyProof.Rows L2
/-! ### min(ints, default=d) -/
section
variable {prog : Program} {w : World} {A : Around} {E : Value → Shared → Prop} {R : Result → Shared → Prop} {I : Addr} {fp wr : List Addr} {G : Array GenState → Array GenState → Prop} {n : Nat} {P : Nat → Value → Prop} {St : Nat → Shared → Prop}
theorem minkw_turns (kw : List (Str × Value)) (W : WalksS prog w A.in1 I fp wr G n P St) (bt : Nat → Nat → Bool) (hcmp : CmpOf prog w A.in1 .Lt P bt) (S : Addr) (hSf : S ∉ fp) :
    ∀ (k j : Nat) (s : Shared) (vb : Value) (c : Nat), n - (j + 1) = k → j + 1 ≤ n → St (j + 1) s → P (argBest bt j) vb → s.heap.get? S = some { cls := .type "list", dict := none, data := .seq #[vb, vb] c, slots := #[] } →
      (∀ v s', P (argBest bt (n - 1)) v → Moved (S :: wr) G s s' → R (.ok (.ret v)) s') → codeAny (model prog w) A (.builtin "min.loop" ⟨[.ref I, .none, .ref S], kw⟩) R s := by
  have nm : (toString "min" ++ toString ".loop" : String) = "min.loop" := by decide
  have w1 : S ∉ wr := fun h => hSf (W.sub _ h)
  have w2 : ∀ b ∈ wr, b ∈ S :: wr := fun b hb => List.mem_cons_of_mem _ hb
  have w3 : ∀ {b : Addr}, b ∉ S :: wr → S ≠ b := fun hb h => hb (h ▸ List.mem_cons_self)
  intro k
  induction k with
  | zero =>
    intro j s vb c hk hj hst hPb hS hR
    obtain rfl : j + 1 = n := by omega
    refine codeAny_builtin PySem.F.entry_min_loop ?_
    rw [Around.under_plainId PySem.F.plain_min_loop _]; show wpAny _ A.in1 (seqItems? (.ref S) >>= _) _ _ s
    refine wpAny_bind (wpAny_seqItems hS rfl ?_); show wpAny _ A.in1 (tryCatch (pyNext (.ref I)) _ >>= _) _ _ s
    refine wpAny_bind (wpAny_tryCatch (W.done s _ _ hst fun s' hm => ?_))
    have hS' := hm.heap S _ w1 hS
    show wpAny _ A.in1 (updateSeq S (fun _ => (#[] : Array Value)) >>= _) _ _ _
    refine wpAny_bind (wpAny_updateSeq hS' rfl (wpAny_bind (wpAny_letGo (wpAny_pure (hR vb _ hPb ?_)))))
    exact (hm.mono w2).then_heap (tk := s'.toks) (Nat.le_refl _) fun b o hb e => (Heap.get?_update_other _ _ (w3 hb)).trans e
  | succ k ih =>
    intro j s vb c hk hj hst hPb hS hR
    have hlt : j + 1 < n := by omega
    refine codeAny_builtin PySem.F.entry_min_loop ?_
    rw [Around.under_plainId PySem.F.plain_min_loop _]; show wpAny _ A.in1 (seqItems? (.ref S) >>= _) _ _ s
    refine wpAny_bind (wpAny_seqItems hS rfl ?_); show wpAny _ A.in1 (tryCatch (pyNext (.ref I)) _ >>= _) _ _ s
    refine wpAny_bind (wpAny_tryCatch (W.item (j + 1) s _ _ hlt hst fun v s' hP hst' hm => ?_))
    have hS' := hm.heap S _ w1 hS
    show wpAny _ A.in1 (tryCatch (holding [v, v] (richCompare .Lt v vb >>= _)) _ >>= _) _ _ _
    refine wpAny_bind (wpAny_tryCatch (wpAny_holding (wpAny_bind (hcmp (j + 1) (argBest bt j) v vb _ _ _ hP hPb ?_)))); refine wpAny_bind (wpAny_holding (wpAny_truthy_bool ?_))
    refine wpAny_bind (wpAny_letGo (wpAny_pure ?_))
    cases hb : bt (j + 1) (argBest bt j) with
    | true =>
      simp only [if_true]
      refine wpAny_bind (wpAny_updateSeq hS' rfl (wpAny_bind (wpAny_letGo ?_))); rw [nm]
      have far : ∀ {b : Addr}, b ∉ fp → True := fun _ => trivial
      refine wpAny_pure ⟨plainId_quiet PySem.F.plain_min_loop _, ih (j + 1) _ v _ (by omega) hlt (W.frame _ s' _ s'.toks hst' (Nat.le_refl _) fun b hbf o e => (Heap.get?_update_other _ _ (fun h : S = b => hSf (h ▸ hbf))).trans e) (by simp only [argBest, hb, if_true]; exact hP) (Heap.get?_update_self _ hS' rfl) fun v' s'' hP' hm'' => hR v' s'' hP' (Moved.trans W.gtrans ((hm.mono w2).then_heap (Nat.le_refl _) fun b o hb e => (Heap.get?_update_other _ _ (w3 hb)).trans e) hm'')⟩
    | false =>
      simp only [Bool.false_eq_true, if_false]
      refine wpAny_bind (wpAny_letGo ?_); rw [nm]
      exact wpAny_pure ⟨plainId_quiet PySem.F.plain_min_loop _, ih (j + 1) _ vb c (by omega) hlt hst' (by simp only [argBest, hb, Bool.false_eq_true, if_false]; exact hPb) hS' fun v' s'' hP' hm'' => hR v' s'' hP' (Moved.trans W.gtrans (hm.mono w2) hm'')⟩
/-- the first turn, none or one -/
theorem minkw_first {d : Value} (W : WalksS prog w A.in1 I fp wr G n P St) (bt : Nat → Nat → Bool) (hcmp : CmpOf prog w A.in1 .Lt P bt) (S : Addr) (hSf : S ∉ fp) {s : Shared} {c : Nat} (hst : St 0 s) (hS : s.heap.get? S = some { cls := .type "list", dict := none, data := .seq #[] c, slots := #[] })
    (h0 : n = 0 → ∀ s', Moved (S :: wr) G s s' → R (.ok (.ret d)) s') (h1 : 0 < n → ∀ v s', P (argBest bt (n - 1)) v → Moved (S :: wr) G s s' → R (.ok (.ret v)) s') :
    codeAny (model prog w) A (.builtin "min.loop" ⟨[.ref I, .none, .ref S], [("default", d)]⟩) R s := by
  have nm : (toString "min" ++ toString ".loop" : String) = "min.loop" := by decide
  have w1 : S ∉ wr := fun h => hSf (W.sub _ h)
  have w2 : ∀ b ∈ wr, b ∈ S :: wr := fun b hb => List.mem_cons_of_mem _ hb
  have w3 : ∀ {b : Addr}, b ∉ S :: wr → S ≠ b := fun hb h => hb (h ▸ List.mem_cons_self)
  refine codeAny_builtin PySem.F.entry_min_loop ?_
  rw [Around.under_plainId PySem.F.plain_min_loop _]; show wpAny _ A.in1 (seqItems? (.ref S) >>= _) _ _ s
  refine wpAny_bind (wpAny_seqItems hS rfl ?_); show wpAny _ A.in1 (tryCatch (pyNext (.ref I)) _ >>= _) _ _ s
  by_cases hn : 0 < n
  · refine wpAny_bind (wpAny_tryCatch (W.item 0 s _ _ hn hst fun v s' hP hst' hm => ?_))
    have hS' := hm.heap S _ w1 hS
    show wpAny _ A.in1 (updateSeq S (fun _ => #[v, v]) >>= _) _ _ _
    refine wpAny_bind (wpAny_updateSeq hS' rfl ?_); rw [nm]
    refine wpAny_pure ⟨plainId_quiet PySem.F.plain_min_loop _, minkw_turns _ W bt hcmp S hSf _ 0 _ v _ rfl hn (W.frame _ s' _ s'.toks hst' (Nat.le_refl _) fun b hbf o e => (Heap.get?_update_other _ _ (fun h : S = b => hSf (h ▸ hbf))).trans e) hP (Heap.get?_update_self _ hS' rfl) fun v' s'' hP' hm'' => h1 hn v' s'' hP' ?_⟩
    exact Moved.trans W.gtrans ((hm.mono w2).then_heap (Nat.le_refl _) fun b o hb e => (Heap.get?_update_other _ _ (w3 hb)).trans e) hm''
  · obtain rfl : n = 0 := by omega
    refine wpAny_bind (wpAny_tryCatch (W.done s _ _ hst fun s' hm => ?_))
    refine wpAny_bind (wpAny_rule ?_)
    exact wpAny_pure (h0 rfl s' (hm.mono w2))
theorem mind_args (a v : Value) : argsOk "min" ⟨[a], [(Str.ofString "default", v)]⟩ := by unfold argsOk; kernel_rfl
theorem min_dflt {l : Addr} {its : List Value} {ns : List Int} {d : Value} {s : Shared} {Q : Value → Shared → Prop} (hh : A.handled = none) (hl : s.heap.IsList l its.toArray) (hi : IntsAre its ns)
    (h0 : ns = [] → ∀ h' tk, (∀ b o, s.heap.get? b = some o → h'.get? b = some o) → Q d { s with heap := h', toks := tk })
    (h1 : ∀ h' tk m t', (∀ b o, s.heap.get? b = some o → h'.get? b = some o) → m ∈ ns → (∀ a, a ∈ ns → m ≤ a) → Q (.int m t') { s with heap := h', toks := tk }) :
    wpAny (model prog w) A (call (.builtin "min") [.ref l] [(Str.ofString "default", d)]) Q E s := by
  obtain ⟨xs, e⟩ := hi.allInts.items
  have hn : numsOf (intItems xs).toList = ns := e ▸ hi.numsOf
  rw [nums_intItems] at hn
  subst hn
  rw [e] at hl
  have nm : (toString "min" ++ toString ".loop" : String) = "min.loop" := by decide
  refine kmb_tree PySem.F.kind_min PySem.F.plain_min PySem.F.entry_min (mind_args _ _) ?_
  show wpAny _ A.in1 (Builtin.Builtins.bindParams "min" ["key", "default"] 0 ⟨[], [(Str.ofString "default", d)]⟩ >>= _) _ _ s
  refine wpAny_bind (wpAny_of_eq (show Builtin.Builtins.bindParams "min" ["key", "default"] 0 ⟨[], [(Str.ofString "default", d)]⟩ = pure [none, some d] from rfl) ?_)
  refine wpAny_bind (wpAny_pure (wpAny_bind ?_))
  refine PySem.iter_intList hl fun s2 e2 st hfp hlI => ?_
  subst e2
  refine wpAny_bind (wpAny_newObj_type ?_); rw [nm]
  have W := Walks.list (prog := prog) (w := w) (A := A.in1) hh s.heap.objs.size l hlI (intItems xs)
  have hsz : (s.heap.push { cls := .type "list_iterator", data := .fields #[.ref l, .int 0 0] }).objs.size = s.heap.objs.size + 1 := Heap.size_push ..
  have hSf : (s.heap.push { cls := .type "list_iterator", data := .fields #[.ref l, .int 0 0] }).objs.size ∉ [s.heap.objs.size, l] := fun hm => Nat.lt_irrefl _ (hfp _ hm)
  have hlen : (intItems xs).size = xs.size := by simp [intItems]
  have off : ∀ {b : Addr} {o : Obj}, s.heap.get? b = some o → b ∉ [(s.heap.push { cls := .type "list_iterator", data := .fields #[.ref l, .int 0 0] }).objs.size, s.heap.objs.size] := fun {b o} q hm => by
    have hlt : b < s.heap.objs.size := Heap.lt_size q
    rw [hsz] at hm
    rcases List.mem_cons.mp hm with z | z
    · exact absurd hlt (by rw [z]; exact Nat.not_lt.mpr (Nat.le_succ _))
    · exact absurd hlt (by rw [List.mem_singleton.mp z]; exact Nat.lt_irrefl _)
  refine wpAny_pure ⟨plainId_quiet PySem.F.plain_min_loop _, minkw_first W.toS _ (CmpOf.ints_lt (numAt xs) (fun _ _ => intItems_at)) _ hSf (W.toS.frame 0 _ _ s.toks st (Nat.le_refl _) fun b _ o q => Heap.get?_push_of_some _ q) (Heap.get?_push_size _ rfl) (fun hz s' hm => ?_) (fun hz v s' hP hm => ?_)⟩
  · rw [Moved.eq_with hm]
    exact h0 (by rw [hlen] at hz; rw [Array.eq_empty_of_size_eq_zero hz]; rfl) s'.heap s'.toks fun b o q => hm.heap b o (off q) (Heap.get?_push_of_some _ (Heap.get?_push_of_some _ q))
  · rw [Moved.eq_with hm]
    have hne : 0 < xs.size := by rwa [hlen] at hz
    have hP : (intItems xs)[argBest (fun i j => decide (numAt xs i < numAt xs j)) (xs.size - 1)]? = some v := by simpa [intItems] using hP
    obtain ⟨t, rfl⟩ := intItems_at hP
    obtain ⟨g1, g2⟩ := argBest_lt (numAt xs) (xs.size - 1)
    refine h1 s'.heap s'.toks _ t (fun b o q => hm.heap b o (off q) (Heap.get?_push_of_some _ (Heap.get?_push_of_some _ q))) ?_ fun a ha => ?_
    · rw [numAt_eq]
      exact PySem.getD_mem (by rw [List.length_map, Array.length_toList]; omega)
    · obtain ⟨j, hj, rfl⟩ := mem_getD ha
      rw [List.length_map, Array.length_toList] at hj
      exact numAt_eq xs j ▸ g2 j (by omega)
end
section
variable {X : Cx}
def rMinD (K : PySem.W.Frag) : List V → List V → Hp → VK → Prop := fun xs zs H Q => ∃ (a : Addr) (ns : List Int) (d : V), xs = [.ref a] ∧ zs = [d] ∧ SqL K H a (ns.map V.int) ∧ (ns = [] → Q d H) ∧ ∀ m, m ∈ ns → (∀ b, b ∈ ns → m ≤ b) → Q (.int m) H
theorem cr_minD (hc : X.calm = true) : CallRK X (.builtin "min") [Str.ofString "default"] (rMinD X.K) := by
  intro pins s σ H xs zs us ws Q I r rz h
  obtain ⟨a, ns, d, rfl, rfl, hs, q0, q1⟩ := h
  obtain ⟨its, rv, hl, _⟩ := I.list hs
  obtain ⟨u, rfl, ru⟩ := vals1 rz
  rw [Vals.ref1 r]
  exact min_dflt (I.ok.hd hc) hl.isList rv.ints (fun e h' tk hk => ⟨d, H, I.kept hk, ru, q0 e⟩) fun h' tk m t' hk h1 h2 => ⟨.int m, H, I.kept hk, ⟨_, rfl⟩, q1 m h1 h2⟩
end

theorem cr_minDK {X : Cx} {K : PySem.W.Frag} (hc : X.calm = true) (e : X.K = K := by rfl) : CallRK X (.builtin "min") [Str.ofString "default"] (rMinD K) := e ▸ cr_minD hc
theorem x_minD {K : PySem.W.Frag} {H : Hp} {Q : VK} {a : Addr} {ns : List Int} {d : V} (h : SqL K H a (ns.map V.int)) (q0 : ns = [] → Q d H) (q1 : ∀ m, m ∈ ns → (∀ b, b ∈ ns → m ≤ b) → Q (.int m) H) : rMinD K [.ref a] [d] H Q := ⟨a, ns, d, rfl, rfl, h, q0, q1⟩
/-! ### math.lcm -/
section
variable {X : Cx}
def rLcm : List V → Hp → VK → Prop := fun vs H Q => ∃ a b : Int, vs = [.int a, .int b] ∧ a.natAbs < 2 ^ 10000 ∧ b.natAbs < 2 ^ 10000 ∧ (Nat.lcm a.natAbs b.natAbs) < 2 ^ 20000 ∧ Q (.int ((Nat.lcm a.natAbs b.natAbs : Nat) : Int)) H
theorem log_lt {n k : Nat} (h : n < 2 ^ k) (hk : 0 < k) : n.log2 < k := by
  by_cases h0 : n = 0
  · subst h0
    rw [Nat.log2_zero]
    exact hk
  · exact (Nat.log2_lt h0).mpr h
theorem max_lt2 {a b k : Nat} (ha : a < 2 ^ k) (hb : b < 2 ^ k) : max a b < 2 ^ k := Nat.max_lt.mpr ⟨ha, hb⟩
theorem cr_lcm : CallR X (.builtin "math.lcm") rLcm := by
  intro pins s σ H vs us Q I r h
  obtain ⟨a, b, rfl, ha, hb, hl, q⟩ := h
  obtain ⟨t, u, rfl⟩ := Vals.int2 r
  have e1 : Nat.lcm 1 a.natAbs = a.natAbs := Nat.lcm_one_left _
  have h1 : (max 1 a.natAbs).log2 < 10000 := log_lt (max_lt2 (Nat.one_lt_two_pow (by decide)) ha) (by decide)
  have h2 : (max a.natAbs b.natAbs).log2 < 10000 := log_lt (max_lt2 ha hb) (by decide)
  have h3 : (Nat.lcm a.natAbs b.natAbs).log2 < 20000 := log_lt hl (by decide)
  have h4 : (((((Nat.lcm 1 a.natAbs).lcm b.natAbs : Nat) : Int)).natAbs).log2 < bitsLine := by
    rw [e1, Int.natAbs_natCast]
    exact Nat.lt_of_lt_of_le h3 (by decide)
  refine call_function_meets PySem.W.MGF.kind_lcm PySem.W.MGF.plain_lcm PySem.W.MGF.entry_lcm (PySem.W.MGF.args_lcm _ _) (PySem.W.mg_run_lcm a t b u (by omega) (by omega) h4).meets ?_
  rw [e1]
  exact ⟨.int _, H, I.tok _, ⟨_, rfl⟩, q⟩
end
/-! ### a comprehension in a comprehension -/
def relabel' (scope sc : Scope) : Scope := { scope with names := scope.names.map fun (n, k) => if k == NameKind.free && sc.kind == .function && sc.names.lookup n == some .cell then (n, NameKind.cell) else (n, k) }
theorem relabel_eq (scope : Scope) (env : Env) : relabel scope env = relabel' scope env.scope := rfl
theorem blkOk_byN {N : List Str} {scope0 scope : Scope} {env0 : Env} {own : List (Str × Nat)} (h : blkC N (relabel' scope0 env0.scope) scope own = true) : BlkOk N (relabel scope0 env0) scope own := blkOk_by h
section
variable {X : Cx} {K : PySem.W.Frag} {tg e : Expr} {tl : TE}
theorem pi_listK (h : PE X e tl) (eK : X.K = K := by rfl) : PI X tg e (iList K tl) := eK ▸ pi_list h
theorem pi_tupK (h : PE X e tl) (eK : X.K = K := by rfl) : PI X tg e (iTup K tl) := eK ▸ pi_tup h
end

/-! ### calls by position and by name -/
structure Lkx (P : Program) (w : World) (K : PySem.W.Frag) (mg : Str → Option Value) (base : Heap) (x : Str) (k : Nat) (ps ks : List Str) (gV : List V → List V → List V) (sp : Sp) : Prop where
  ex : ∃ (f : Addr) (fd : FuncData) (g : List Value → List Value → List Value), FnOk P w K mg base CX0 k f fd ps sp ∧ mg x = some (.ref f) ∧ PySem.W.keepIn K (.ref f) = true ∧ KBinds K fd ps ks g gV
section
variable {X : Cx} {k : Nat} {x : Str} {ps ks : List Str} {sp : Sp} {e : Expr} {es : List Expr} {p pos : Pos} {t tk : TA} {kws : List Keyword} {gV : List V → List V → List V}
theorem pe_lkx (L : Lkx X.prog X.w X.K X.mg X.base x k ps ks gV sp) (hr : Room k X.A) (hg : Gl X x) (ha : PA X (e :: es) t) (hkw : PK X kws tk)
    (hall : (backToKw pos (keywordEach kws X.env)).all (·.1.isSome) = true := by rfl) (hks : (backToKw pos (keywordEach kws X.env)).filterMap (·.1) = ks := by rfl)
    (hdb : (x == ("__debug__" : Str)) = false := by decide) (he : starEach (e :: es) X.env = (false, eval e X.env) :: starEach es X.env := by rfl)
    (hpl : ((backTo pos (starEach (e :: es) X.env)).any (·.1) || (backToKw pos (keywordEach kws X.env)).any (·.1.isNone)) = false := by rfl) :
    PE X (.Call (.Name x p) (e :: es) kws pos) (tCallK sp gV E0 t tk) := by
  obtain ⟨f, fd, g, F, hm, hk, hb⟩ := L.ex
  exact pe_callK F hr hg hm hk hb pass0 ha hkw hall hks hdb he hpl
end
theorem x_kwx {σ : SS} {H : Hp} {Q : VK} {sp : Sp} {gV : List V → List V → List V} {t tk : TA} (q : t σ H fun vs H1 => tk σ H1 fun zs H2 => sp (gV vs zs) H2 Q E0) : tCallK sp gV E0 t tk σ H Q := q
/-- n by position, then m by name in their order -/
def gApp (n m : Nat) {α : Type} (us ws : List α) : List α := if us.length = n ∧ ws.length = m then us ++ ws else []
/-- n by name, the other way round -/
def gRev (n : Nat) {α : Type} (ws : List α) : List α := if ws.length = n then ws.reverse else []
theorem vals_app {vs zs : List V} {us ws : List Value} (r : Vals vs us) (q : Vals zs ws) : Vals (vs ++ zs) (us ++ ws) := by
  induction r with
  | nil => exact q
  | cons h _ ih => exact .cons h ih
theorem vals_rev {vs : List V} {us : List Value} (r : Vals vs us) : Vals vs.reverse us.reverse := by
  induction r with
  | nil => exact .nil
  | cons h _ ih =>
    rw [List.reverse_cons, List.reverse_cons]
    exact vals_app ih (.cons h .nil)
theorem gApp_rel {n m : Nat} {vs zs : List V} {us ws : List Value} (r : Vals vs us) (q : Vals zs ws) : Vals (gApp n m vs zs) (gApp n m us ws) := by
  unfold gApp
  rw [r.length, q.length]
  split
  · exact vals_app r q
  · exact .nil
theorem gRev_rel {n : Nat} {zs : List V} {ws : List Value} (q : Vals zs ws) : Vals (gRev n zs) (gRev n ws) := by
  unfold gRev
  rw [q.length]
  split
  · exact vals_rev q
  · exact .nil
theorem gApp_to {n m : Nat} {α : Type} {us ws : List α} (h : (gApp n m us ws).length = n + m) (h0 : 0 < n + m) : us.length = n ∧ ws.length = m := by
  unfold gApp at h
  split at h
  · assumption
  · rw [List.length_nil] at h; omega
theorem gRev_to {n : Nat} {α : Type} {ws : List α} (h : (gRev n ws).length = n) (h0 : 0 < n) : ws.length = n := by
  unfold gRev at h
  split at h
  · assumption
  · rw [List.length_nil] at h; omega
theorem len1 {α : Type} {l : List α} (h : l.length = 1) : ∃ a, l = [a] := by
  match l, h with
  | [a], _ => exact ⟨a, rfl⟩
theorem len2 {α : Type} {l : List α} (h : l.length = 2) : ∃ a b, l = [a, b] := by
  match l, h with
  | [a, b], _ => exact ⟨a, b, rfl⟩
theorem len3 {α : Type} {l : List α} (h : l.length = 3) : ∃ a b c, l = [a, b, c] := by
  match l, h with
  | [a, b, c], _ => exact ⟨a, b, c, rfl⟩
theorem len4 {α : Type} {l : List α} (h : l.length = 4) : ∃ a b c d, l = [a, b, c, d] := by
  match l, h with
  | [a, b, c, d], _ => exact ⟨a, b, c, d, rfl⟩
theorem x_rg2 {σ : SS} {H : Hp} {ta tb : TE} {QR : Int → Int → Hp → Prop} (q : ta σ H fun x H1 => tb σ H1 fun y H2 => ∃ n m, x = .int n ∧ y = .int m ∧ QR n m H2) : tRg2 ta tb σ H QR := q
theorem x_int2 {i j : Int} {R : Int → Int → Prop} (q : R i j) : ∃ n m, V.int i = .int n ∧ V.int j = .int m ∧ R n m := ⟨i, j, rfl, rfl, q⟩
theorem x_isIf {c : TT} {s1 s2 s3 : TS} {D : Ends} {σ : SS} {H : Hp} (q : tSeq (tIfS c s1 s2) s3 D σ H) : tSeq (tIfS c s1 s2) s3 D σ H := q

/-! ### own exception classes over any built-in base, whose __init__ stores -/
structure ExB (K : PySem.W.Frag) (C : Addr) (bmB : List Value) (newId : String) : Prop where
  inn : PySem.W.excInitIn K C bmB newId = true
  ov : PySem.W.excOver K C bmB = true
  hd : PySem.W.hasDictIn K C = true
  sa : PySem.W.findIn K (.ref C) "__setattr__" = some (some (.builtin "object.__setattr__"))
  exC : PySem.W.subIn K (.ref C) (.type "BaseException") = some true
  tyC : PySem.W.typeIn K (.ref C) = some (.type "type")
  kC : PySem.W.keepIn K (.ref C) = true
/-- the three bases' facts -/
structure ExF (B newId initId : String) (bmB : List Value) : Prop where
  so : StoreFacts B bmB "object.__setattr__" "object"
  ba : ExcBaseFacts B newId initId bmB
section
variable {X : Cx} {pins : List (Addr × Obj)} {σ : L2.St} {H : Hp} {s : Shared} {a C : Addr} {f : Str} {y : V} {u : Value} {Q : Unit → Shared → Prop} {E : Value → Shared → Prop} {A : Around} {B newId initId : String} {bmB : List Value}
/-- self.f = y, the first store into a new exception -/
theorem stB_new (FB : ExF B newId initId bmB) (T : ExB X.K C bmB newId) (I : Inv X pins σ H s) (e : H a = some (exo a C none)) (hno : PySem.W.takerIn X.K C f = some none) (ry : RelV y u)
    (h : ∀ dx s', H dx = none → dx ≠ a → Inv X pins σ (upd (upd H dx (exd dx [(f, y)])) a (exo a C (some dx))) s' → Q () s') : wpAny (model X.prog X.w) A (setAttr (.ref a) f u) Q E s := by
  obtain ⟨t1, ho⟩ := exo_at I.hok e
  obtain ⟨cd, hc, hdct⟩ := PySem.W.any_some T.hd
  obtain ⟨hp, g, d, t, os⟩ := s
  have lt : a < hp.objs.size := Heap.lt_size ho
  refine PySem.W.set_plain I.kIn (ox := { cls := .ref C, dict := none, data := .fields #[.ref t1, .none, .none, .none, .bool false, .none] }) (od := none) ⟨ho, rfl, rfl, trivial⟩ T.sa ?_
  refine PySem.W.osa_openX (od := none) FB.so I.kIn ⟨ho, rfl, rfl, trivial⟩ T.ov hno fun b => ?_
  refine wpAny_bind (wpAny_pure (wpAny_bind (PySem.W.instanceDict_exc ho (PySem.W.looks_clsIn I.kIn hc) hdct ?_)))
  show wpAny _ _ (Builtin.ObjectAttr.storeInDict hp.objs.size (.str f _) f u) _ _ _
  have hne : a ≠ hp.objs.size := Nat.ne_of_lt lt
  refine PySem.HandSPX.store_in_new ⟨_, #[], _, (Heap.get?_update_ne _ _ _ _ hne.symm).trans (Heap.get?_push_at rfl rfl), rfl, fun e he => absurd he (by simp), fun _ => rfl⟩ fun h' tk' hn' hs => ?_
  have ha1 : (hp.push (PySem.W.dictOf [] 0)).get? a = some { cls := .ref C, dict := none, data := .fields #[.ref t1, .none, .none, .none, .bool false, .none] } := Heap.get?_push_of_some _ ho
  have kp : ∀ b o, b ≠ a → hp.get? b = some o → h'.get? b = some o := fun b o hb q =>
    (hs.2 b (Nat.ne_of_lt (Heap.lt_size q))).trans ((Heap.get?_update_ne _ _ _ _ hb).trans (Heap.get?_push_of_some _ q))
  have hx : h'.get? a = some { cls := .ref C, dict := some hp.objs.size, data := .fields #[.ref t1, .none, .none, .none, .bool false, .none] } := (hs.2 a hne).trans (Heap.get?_update_self _ ha1 rfl)
  have nx : H hp.objs.size = none := I.hok.fresh (Nat.le_refl _)
  have nb : ∀ {b : Addr} {o : Obj}, hp.get? b = some o → b ≠ hp.objs.size := fun q => Nat.ne_of_lt (Heap.lt_size q)
  have na : ∀ {b : Addr}, H b = none → b ≠ a := fun n z => by rw [z, e] at n; cases n
  have two : ∀ {b : Addr} {o : HO}, H b = some o → (exo a C none ≠ o) → upd (upd H hp.objs.size (exd hp.objs.size [(f, y)])) a (exo a C (some hp.objs.size)) b = some o := fun {b o} q n => by
    rw [upd_ne (at_ne e q n), upd_ne (ne_of_none q nx)]
    exact q
  refine h hp.objs.size ⟨h', g, d, tk', os⟩ nx hne.symm (I.un (t' := tk') ⟨fun b o q n _ _ => kp b o (na n) q, fun b o q n _ _ => ⟨o.slots, kp b o (na n) q⟩, fun b o q n _ => by rw [upd_ne (na n), upd_ne (nb q)]; exact n, fun b o q _ => ?_, fun b xs q => two q exo_tup, fun b o v q => two q exo_frz, fun b ps q => ⟨#[], by rw [two q exo_tbl]; simp⟩⟩ fun b o q => ?_)
  · by_cases hb : b = a
    · exact ⟨_, by rw [hb]; exact hx⟩
    · exact ⟨o, kp b o hb q⟩
  · by_cases hb : b = a
    · subst hb
      rw [upd_same] at q
      cases q
      exact exo_ok hx
    · rw [upd_ne hb] at q
      by_cases hd : b = hp.objs.size
      · subst hd
        rw [upd_same] at q
        cases q
        exact exd_ok hn' (relO_put (fs := []) ry fun _ => True.intro)
      · rw [upd_ne hd] at q
        refine (I.hok b o q).stay (fun c v hc z => kp c v ?_ z) (fun c hc => two hc exo_own) fun c xs hc => two hc exo_tup
        rcases hc with hc | hc
        · rw [hc]; exact hb
        · exact at_ne e hc exo_own
end
section
variable {X : Cx} {o e : Expr} {es : List Expr} {to te : TE} {ta : TA} {f : Str} {p p' p1 p2 pos : Pos} {B newId initId : String} {bmB : List Value}
/-- self.f = e -/
def tStB (K : PySem.W.Frag) (bmB : List Value) (newId : String) (f : Str) (to te : TE) : TS := fun D σ H => te σ H fun y H1 => to σ H1 fun x H2 => ∃ a C : Addr, x = .ref a ∧ ExB K C bmB newId ∧ PySem.W.takerIn K C f = some none ∧ H2 a = some (exo a C none) ∧
  ∀ dx, H2 dx = none → dx ≠ a → D.nx σ (upd (upd H2 dx (exd dx [(f, y)])) a (exo a C (some dx)))
theorem ps_stB (FB : ExF B newId initId bmB) (ho : PE X o to) (he : PE X e te) (hs : swapsWith e (some (.Attribute o f p')) pos.line X.env = pure false := by rfl) : PS X (.Assign [.Attribute o f p'] e pos) (tStB X.K bmB newId f to te) := by
  refine ⟨fun pins s σ H D I h => ?_⟩
  refine plainObj_wpAny_Assign_Attribute (thn (he.run pins s σ H _ I h) fun v s1 hv => ?_) hs
  obtain ⟨y, H1, I1, r1, q1⟩ := hv
  refine thn (ho.run pins s1 σ H1 _ I1 q1) fun u s2 hu => ?_
  obtain ⟨x, H2, I2, r2, a, C, rfl, T, hno, ea, q⟩ := hu
  obtain rfl : u = Value.ref a := r2
  exact stB_new FB T I2 ea hno r1 fun dx s' n ne J => ⟨σ, _, J, q dx n ne⟩
/-- C(e, ..): by the promise of its __init__ -/
def tMkB (C : Addr) (sp : Sp) (ta : TA) : L2.St → Hp → XK → Prop := fun σ H Q => ta σ H fun vs H1 => vs.length ≤ 1000 ∧ ∀ a, H1 a = none → sp (.ref a :: vs) (upd H1 a (exo a C none))
  (fun v H2 => v = .non ∧ ∃ (d : Addr) (fs : List (Str × V)), H2 a = some (exo a C (some d)) ∧ H2 d = some (exd d fs) ∧ H1 d = none ∧ Q (.ref C) (some d) (upd (del H2 a) d (.xd fs))) (fun _ _ _ => False)
theorem pmk_B {x : Str} {C fI : Addr} {k : Nat} {fd : FuncData} {ps : List Str} {sp : Sp} (FB : ExF B newId initId bmB) (T : ExB X.K C bmB newId) (iC : PySem.W.findIn X.K (.ref C) "__init__" = some (some (.ref fI))) (tI : PySem.W.typeIn X.K (.ref fI) = some (.type "function"))
    (F1 : FnOk X.prog X.w X.K X.mg X.base CX0 k fI fd ps sp) (hr : Room (k + 1) X.A) (hb : Binds X.K fd ps []) (hg : Gl X x) (hm : X.mg x = some (.ref C)) (ha : PA X (e :: es) ta)
    (hdb : (x == ("__debug__" : Str)) = false := by decide) (he : starEach (e :: es) X.env = (false, eval e X.env) :: starEach es X.env := by rfl) (hpl : (backTo pos (starEach es X.env)).any (·.1) = false := by rfl) :
    PMk X (.Call (.Name x p) (e :: es) [] pos) (tMkB C sp ta) := by
  intro pins s σ H Q I h
  refine wpAny_Call_Name_kw (ld_glob I hg hm ?_ hdb)
  refine PySem.W.callWith_K (h₀ := X.base) I.ok.mod.kin T.kC (thn (ha.run pos pins s σ H _ I h) fun us s1 hu => ?_) he hpl
  obtain ⟨vs, H1, I1, r1, hz, q1⟩ := hu
  refine ⟨I1.kIn, ?_⟩
  show wpAny _ _ (call (.ref C) us) _ _ _
  obtain ⟨nm, N, qn, bs, bm, hdct, sn, sub, ab, col, dd, k0, k1, k2, k3, k5, hC, hT⟩ := PySem.W.excInit_of I1.kIn T.inn
  obtain ⟨hp, g, dr, tk, os⟩ := s1
  have up1 : hp.objs.size ≤ hp.objs.size + 1 := Nat.le_succ _
  have hq := q1 (hp.objs.size + 1) (I1.hok.fresh up1)
  have keep2 : ∀ b o, hp.get? b = some o → ((hp.push (PySem.W.kdv_tup us)).push (PySem.HandSPX.excO C hp.objs.size)).get? b = some o := fun b o q => Heap.get?_push_of_some _ (Heap.get?_push_of_some _ q)
  have at2 : ((hp.push (PySem.W.kdv_tup us)).push (PySem.HandSPX.excO C hp.objs.size)).get? (hp.objs.size + 1) = some (PySem.HandSPX.excO C hp.objs.size) := by heap_get
  have I2 : Inv X pins σ (upd H1 (hp.objs.size + 1) (exo (hp.objs.size + 1) C none)) ⟨(hp.push (PySem.W.kdv_tup us)).push (PySem.HandSPX.excO C hp.objs.size), g, dr, tk, os⟩ :=
    I1.laid (t' := tk) (a := hp.objs.size + 1) (o := exo (hp.objs.size + 1) C none) keep2 up1 (exo_ok at2)
  have r2 : Vals (V.ref (hp.objs.size + 1) :: vs) (Value.ref (hp.objs.size + 1) :: us) := .cons rfl r1
  have hl : (Value.ref (hp.objs.size + 1) :: us).length = ps.length := r2.length ▸ F1.len _ _ _ _ hq
  have hb' := hb ⟨(hp.push (PySem.W.kdv_tup us)).push (PySem.HandSPX.excO C hp.objs.size), g, dr, tk, os⟩ (Value.ref (hp.objs.size + 1) :: us) I2.kIn (by simpa using hl)
  simp only [List.append_nil] at hb'
  have hus : us.length ≤ sizeLine := by
    rw [← Paired.length r1, sizeLine_eq]
    omega
  refine wpAny_call (PySem.HandSPX.call_own FB.ba hT hC (PySem.W.looks_findIn I1.kIn iC) (fun self => PySem.W.bind_fn I1.kIn self tI) hus (codeAny_mono (F1.run _ X.stack _ _ ⟨Value.ref (hp.objs.size + 1) :: us, []⟩ _ _ _ (fun _ _ _ => False) (hr.make C us []) (I2.env0.make C us []) hb' r2 hq) fun r s' hq' => ?_))
  match r, hq' with
  | .ok (.ret u), hq' =>
    obtain ⟨v, H2, os2, bare2, un2, hok2, rv, rfl, d, fs, ea, ed, hd1, q2⟩ := hq'
    obtain ⟨h2, g2, d2, t2, os'⟩ := s'
    exact ⟨rv, mk_end (raises_own T.exC T.tyC) I1 up1 keep2 un2 hok2 os2 bare2 ea ed hd1 q2⟩
  | .ok .next, hq' => exact hq'.elim
  | .ok .brk, hq' => exact hq'.elim
  | .ok .cont, hq' => exact hq'.elim
  | .error e, hq' => exact hq'.elim
end

abbrev bmVE : List Value := [.type "ValueError", .type "Exception", .type "BaseException", .type "object"]
abbrev bmLE : List Value := [.type "LookupError", .type "Exception", .type "BaseException", .type "object"]
theorem exF_VE : ExF "ValueError" "ValueError.__new__" "ValueError.__init__" bmVE := ⟨PySem.F.store_ValueError, PySem.F.excBase_ValueError⟩
theorem exF_LE : ExF "LookupError" "LookupError.__new__" "LookupError.__init__" bmLE := ⟨PySem.F.store_LookupError, PySem.F.excBase_LookupError⟩
/-! ### calls that may raise -/
section
variable {X : Cx} {k : Nat} {ps ks : List Str} {sp : Sp} {x : Str} {p pos : Pos} {e : Expr} {es : List Expr} {t tk : TA} {kws : List Keyword} {W : WX}
theorem runE {pins : List (Addr × Obj)} {σ : L2.St} {H : Hp} {s : Shared} {Q : VK} {f : Addr} {fd : FuncData} {us : List Value} {kw : List (Str × Value)} {vs : List V} {ws : List Value}
    (F : FnOk X.prog X.w X.K X.mg X.base (L2.CX X.prog X.w) k f fd ps sp) (hr : Room k X.A) (hb : BindsTo s fd ⟨us, kw⟩ (ps.zip ws)) (I : Inv X pins σ H s) (r : Vals vs ws) (tk : Takes X W) (h : sp vs H Q (WE W σ)) :
    wpAny (model X.prog X.w) X.A (call (.ref f) us kw) (EP X pins σ Q) X.xe s := by
  refine wpAny_call (codeAny_mono (F.run X.A X.stack s H ⟨us, kw⟩ ws vs Q (WE W σ) hr I.env0 hb r h) fun r s' hq => ?_)
  match r, hq with
  | .ok (.ret u), hq => exact I.after hq
  | .ok .next, hq => exact hq.elim
  | .ok .brk, hq => exact hq.elim
  | .ok .cont, hq => exact hq.elim
  | .error e, hq => exact passAt tk σ pins H s e s' I hq
/-- a callee that may raise -/
structure LoX (P : Program) (w : World) (K : PySem.W.Frag) (mg : Str → Option Value) (base : Heap) (x : Str) (k : Nat) (ps : List Str) (sp : Sp) : Prop where
  ex : ∃ (f : Addr) (fd : FuncData), FnOk P w K mg base (L2.CX P w) k f fd ps sp ∧ mg x = some (.ref f) ∧ PySem.W.keepIn K (.ref f) = true ∧ Binds K fd ps []
structure LkxX (P : Program) (w : World) (K : PySem.W.Frag) (mg : Str → Option Value) (base : Heap) (x : Str) (k : Nat) (ps ks : List Str) (gV : List V → List V → List V) (sp : Sp) : Prop where
  ex : ∃ (f : Addr) (fd : FuncData) (g : List Value → List Value → List Value), FnOk P w K mg base (L2.CX P w) k f fd ps sp ∧ mg x = some (.ref f) ∧ PySem.W.keepIn K (.ref f) = true ∧ KBinds K fd ps ks g gV
structure LkwX (P : Program) (w : World) (K : PySem.W.Frag) (mg : Str → Option Value) (base : Heap) (x : Str) (k : Nat) (ps ks : List Str) (gV : List V → List V) (sp : Sp) : Prop where
  ex : ∃ (f : Addr) (fd : FuncData) (g : List Value → List Value), FnOk P w K mg base (L2.CX P w) k f fd ps sp ∧ mg x = some (.ref f) ∧ PySem.W.keepIn K (.ref f) = true ∧ KB K fd ps ks g gV
def tCallW (sp : Sp) (W : WX) (t : TA) : TE := fun σ H Q => t σ H fun vs H1 => sp vs H1 Q (WE W σ)
def tCallKW (sp : Sp) (gV : List V → List V → List V) (W : WX) (t tk : TA) : TE := fun σ H Q => t σ H fun vs H1 => tk σ H1 fun zs H2 => sp (gV vs zs) H2 Q (WE W σ)
def tCallNW (sp : Sp) (gV : List V → List V) (W : WX) (tk : TA) : TE := fun σ H Q => tk σ H fun zs H1 => sp (gV zs) H1 Q (WE W σ)
theorem pe_loX (L : LoX X.prog X.w X.K X.mg X.base x k ps sp) (tw : Takes X W) (hr : Room k X.A) (hg : Gl X x) (ha : PA X (e :: es) t)
    (hdb : (x == ("__debug__" : Str)) = false := by decide) (he : starEach (e :: es) X.env = (false, eval e X.env) :: starEach es X.env := by rfl) (hpl : (backTo pos (starEach es X.env)).any (·.1) = false := by rfl) :
    PE X (.Call (.Name x p) (e :: es) [] pos) (tCallW sp W t) := by
  obtain ⟨f, fd, F, hm, hk, hb⟩ := L.ex
  refine ⟨fun pins s σ H Q I h => ?_⟩
  refine wpAny_Call_Name_kw (ld_glob I hg hm ?_ hdb)
  refine PySem.W.callWith_K (h₀ := X.base) I.ok.mod.kin hk (thn (ha.run pos pins s σ H _ I h) fun us s1 hu => ?_) he hpl
  obtain ⟨vs, H1, I1, r, q⟩ := hu
  have hb1 := hb s1 us I1.kIn (by have := r.length ▸ F.len _ _ _ _ q; simpa using this)
  simp only [List.append_nil] at hb1
  exact ⟨I1.kIn, runE F hr hb1 I1 r tw q⟩
theorem pe_lkxX {gV : List V → List V → List V} (L : LkxX X.prog X.w X.K X.mg X.base x k ps ks gV sp) (tw : Takes X W) (hr : Room k X.A) (hg : Gl X x) (ha : PA X (e :: es) t) (hkw : PK X kws tk)
    (hall : (backToKw pos (keywordEach kws X.env)).all (·.1.isSome) = true := by rfl) (hks : (backToKw pos (keywordEach kws X.env)).filterMap (·.1) = ks := by rfl)
    (hdb : (x == ("__debug__" : Str)) = false := by decide) (he : starEach (e :: es) X.env = (false, eval e X.env) :: starEach es X.env := by rfl)
    (hpl : ((backTo pos (starEach (e :: es) X.env)).any (·.1) || (backToKw pos (keywordEach kws X.env)).any (·.1.isNone)) = false := by rfl) :
    PE X (.Call (.Name x p) (e :: es) kws pos) (tCallKW sp gV W t tk) := by
  obtain ⟨f, fd, g, F, hm, hk, hb⟩ := L.ex
  refine ⟨fun pins s σ H Q I h => ?_⟩
  refine wpAny_Call_Name_kw (ld_glob I hg hm ?_ hdb)
  refine PySem.W.callWith_KW (h₀ := X.base) I.ok.mod.kin hk hall (thn (ha.run pos pins s σ H _ I h) fun us s1 hu => ?_) hpl he
  obtain ⟨vs, H1, I1, r, q⟩ := hu
  refine thn (hkw.run pos pins s1 σ H1 _ I1 q) fun ws s2 hw => ?_
  obtain ⟨zs, H2, I2, rz, q2⟩ := hw
  refine ⟨I2.kIn, ?_⟩
  rw [hks]
  have r2 := hb.rel r rz
  exact runE F hr (hb.to s2 us ws I2.kIn (r2.length ▸ F.len _ _ _ _ q2)) I2 r2 tw q2
theorem pe_lkwX {gV : List V → List V} (L : LkwX X.prog X.w X.K X.mg X.base x k ps ks gV sp) (tw : Takes X W) (hr : Room k X.A) (hg : Gl X x) (hkw : PK X kws tk)
    (hall : (backToKw pos (keywordEach kws X.env)).all (·.1.isSome) = true := by rfl) (hks : (backToKw pos (keywordEach kws X.env)).filterMap (·.1) = ks := by rfl)
    (hdb : (x == ("__debug__" : Str)) = false := by decide)
    (hpl : ((backTo pos (starEach [] X.env)).any (·.1) || (backToKw pos (keywordEach kws X.env)).any (·.1.isNone)) = false := by rfl) :
    PE X (.Call (.Name x p) [] kws pos) (tCallNW sp gV W tk) := by
  obtain ⟨f, fd, g, F, hm, hk, hb⟩ := L.ex
  refine ⟨fun pins s σ H Q I h => ?_⟩
  refine wpAny_Call_Name_kw (ld_glob I hg hm ?_ hdb)
  refine PySem.W.callWith_KW0 (h₀ := X.base) I.ok.mod.kin hk hall ?_ hpl
  refine thn (hkw.run pos pins s σ H _ I h) fun ws s2 hw => ?_
  obtain ⟨zs, H2, I2, rz, q2⟩ := hw
  refine ⟨I2.kIn, ?_⟩
  rw [hks]
  have r2 := hb.rel rz
  exact runE F hr (hb.to s2 ws I2.kIn (r2.length ▸ F.len _ _ _ _ q2)) I2 r2 tw q2
end
theorem x_cW {σ : SS} {H : Hp} {Q : VK} {sp : Sp} {W : WX} {t : TA} (q : t σ H fun vs H1 => sp vs H1 Q (WE W σ)) : tCallW sp W t σ H Q := q
theorem x_cKW {σ : SS} {H : Hp} {Q : VK} {sp : Sp} {W : WX} {gV : List V → List V → List V} {t tk : TA} (q : t σ H fun vs H1 => tk σ H1 fun zs H2 => sp (gV vs zs) H2 Q (WE W σ)) : tCallKW sp gV W t tk σ H Q := q
theorem x_cNW {σ : SS} {H : Hp} {Q : VK} {sp : Sp} {W : WX} {gV : List V → List V} {tk : TA} (q : tk σ H fun zs H1 => sp (gV zs) H1 Q (WE W σ)) : tCallNW sp gV W tk σ H Q := q
/-! ### a caught exception as an object of the heap -/
def exk (a : Addr) (cls : Value) (d : Option Addr) : HO := .ext fun h => ∃ (oe : Obj) (vs : Array Value), h.get? a = some oe ∧ Zc cls d oe ∧ oe.data = .fields vs
theorem exk_ok {P : Program} {w : World} {H : Hp} {h : Heap} {a : Addr} {cls : Value} {d : Option Addr} {oe : Obj} {vs : Array Value} (e : h.get? a = some oe) (z : Zc cls d oe) (dt : oe.data = .fields vs) : ObjOk P w H h a (exk a cls d) :=
  ⟨⟨oe, vs, e, z, dt⟩, ⟨oe, e⟩, fun h1 h2 y k => by
    obtain ⟨oe, vs, e, z, dt⟩ := y
    exact ⟨oe, vs, k _ e, z, dt⟩⟩
theorem exk_at {P : Program} {w : World} {H : Hp} {h : Heap} {a : Addr} {cls : Value} {d : Option Addr} (hok : HOk P w H h) (e : H a = some (exk a cls d)) : ∃ (oe : Obj) (vs : Array Value), h.get? a = some oe ∧ Zc cls d oe ∧ oe.data = .fields vs := by
  have x : ObjOk P w H h a (.ext fun h => ∃ (oe : Obj) (vs : Array Value), h.get? a = some oe ∧ Zc cls d oe ∧ oe.data = .fields vs) := hok a _ e
  exact x.1
section
variable {X : Cx} {pins : List (Addr × Obj)} {σ : L2.St} {H : Hp} {s : Shared}
/-- what stands in the heap beside ours is taken among ours -/
theorem Inv.track {a : Addr} {oe : Obj} {vs : Array Value} {cls : Value} {d : Option Addr} (I : Inv X pins σ H s) (e : s.heap.get? a = some oe) (z : Zc cls d oe) (dt : oe.data = .fields vs) (hn : H a = none) (nL : a ≠ X.env.locals) (n0 : X.s_0.heap.get? a = none)
    (np : ∀ p ∈ X.pn ++ pins, p.1 ≠ a) : Inv X pins σ (upd H a (exk a cls d)) s := by
  refine ⟨I.ok, I.os, I.bare, ⟨I.base.keep, I.base.slot, fun b o q n x => ?_, I.base.there, fun b xs q => ?_, fun b o xs q => ?_, fun b ps q => ?_⟩, I.loc, I.cell, ?_, fun x c q => ?_, fun p hp => ?_, ?_, I.len⟩
  · rw [upd_ne (fun y => by rw [y, n0] at q; cases q)]
    exact I.base.free b o q n x
  · have := I.base.tups b xs q
    rw [upd_ne (ne_of_none this hn)]
    exact this
  · have := I.base.frzs b o xs q
    rw [upd_ne (ne_of_none this hn)]
    exact this
  · obtain ⟨more, h⟩ := I.base.tbls b ps q
    exact ⟨more, by rw [upd_ne (ne_of_none h hn)]; exact h⟩
  · rw [upd_ne nL.symm]
    exact I.free
  · obtain ⟨v, hc⟩ := I.cell x c q
    have : c ≠ a := fun y => by
      obtain ⟨o, h1, h2⟩ := hc
      rw [y, e] at h1
      cases h1
      rw [dt] at h2
      cases h2
    rw [upd_ne this]
    exact I.freeC x c q
  · obtain ⟨h1, h2, h3⟩ := I.pin p hp
    exact ⟨h1, by rw [upd_ne (np p hp)]; exact h2, h3⟩
  · exact HOk.laidN I.hok (fun _ _ q => q) hn (exk_ok e z dt)
end

/-! ### try: body, except c as n: suite; behind it the exception stands among ours -/
/-- the clause takes it; behind a suite that runs through, the exception at a is kept -/
def wKp (K : PySem.W.Frag) (c : Value) (i : Nat) (ts : Addr → Value → Option Addr → TS) (D : Ends) : WX := fun cls d σ H =>
  PySem.W.exmOne K cls c = some true ∧ ∀ a, H a = none → ts a cls d { nx := fun σ' H' => D.nx (σ'.set i none) (upd H' a (exk a cls d)), rt := D.rt, bk := fun σ' H' => D.bk (σ'.set i none) H', ct := fun σ' H' => D.ct (σ'.set i none) H' } (σ.set i (some (.ref a))) H
section
variable {X : Cx} {x n : Str} {c : Value} {i : Nat} {body suite : List Stmt} {b₀ : Stmt} {np pos pos' : Pos} {tb : WX → TS} {ts : Addr → Value → Option Addr → TS}
theorem ps_try_kp (hs : X.stack = X.env :: X.outer) (hf : X.env.frame = some X.env.locals) (hx : X.ex = []) (hN : X.N.Nodup) (hi : X.N[i]? = some n) (hln : X.env.kindOf n = some .local) (hc : Names X x c)
    (hb : ∀ (W : WX) (pn : List (Addr × Obj)) (xe : Value → Shared → Prop), Takes (X.tr pn xe) W → PassesOwn (model X.prog X.w) X.A X.env xe → PSs (X.tr pn xe) body (tb W))
    (hsu : ∀ (a : Addr) (oe : Obj) (cls : Value) (d : Option Addr) (pn : List (Addr × Obj)), Zc cls d oe → (∃ vs, oe.data = .fields vs) → PSs (X.suite a ((a, oe) :: pn)) (b₀ :: suite) (ts a cls d)) :
    PS X (.Try body [.ExceptHandler (some (.Name x np)) (some n) (b₀ :: suite) pos'] [] [] pos) (fun D σ H => tb (wKp X.K c i ts D) D σ H) := by
  refine ⟨fun pins s σ H D I h => ?_⟩
  have okX := I.ok
  have frm : X.A.frames = some (X.env :: X.outer) := hs ▸ okX.frames
  refine wpAny_Try_except (wpAny_mono ((hb (wKp X.K c i ts D) (X.pn ++ pins)
    (fun v t => wpAny (model X.prog X.w) X.A (noteFrame v X.env) (fun _ t1 => wpAny (model X.prog X.w) X.A (setFlight v none)
      (fun _ t2 => wpAny (model X.prog X.w) X.A (handleBy v X.env [.ExceptHandler (some (.Name x np)) (some n) (b₀ :: suite) pos']) (SP X pins D) X.xe t2) X.xe t1) X.xe t)
    (fun v t air => ?air) PassesOwn.looking).run [] s σ H D (I.toTry _) h) (fun fl t q => ?thru) fun _ _ z => z)
  case thru =>
    cases fl with
    | next =>
      obtain ⟨σ1, H1, J, q⟩ := q
      exact wpAny_execs_nil ⟨σ1, H1, J.ofTry okX, q⟩
    | ret v =>
      obtain ⟨v1, σ1, H1, J, r, q⟩ := q
      exact ⟨v1, σ1, H1, J.ofTry okX, r, q⟩
    | brk =>
      obtain ⟨σ1, H1, J, q⟩ := q
      exact ⟨σ1, H1, J.ofTry okX, q⟩
    | cont =>
      obtain ⟨σ1, H1, J, q⟩ := q
      exact ⟨σ1, H1, J.ofTry okX, q⟩
  case air =>
    obtain ⟨a, B, sI, pins1, σ1, H1, cls, d, rfl, J0, nb, up, sky, na, os, ag, hm, hyes⟩ := air
    have J : Inv X pins σ1 H1 sI := J0.ofTry okX
    have sky1 : Sky B (X.env :: X.outer) a (Zc cls d) X.env.locals t.heap := hs ▸ sky
    refine Sky.land Zc.steady frm hf sky1 fun h3 fl3 up3 => ?_
    have J3 : Inv X pins σ1 H1 { t with heap := h3 } := J.landed nb fl3.1 (up.trans up3) os ag
    obtain ⟨oe3, vs3, he3, hz3, hd3⟩ := fl3.there
    have off : ∀ {hh : Heap} {o : Obj} {vs : Array Value}, hh.FunFrames B (X.env :: X.outer) → hh.get? a = some o → o.data = .fields vs → a ∉ frs (X.env :: X.outer) := fun ff e1 e2 hm => by
      obtain ⟨_, o', e3, nf⟩ := ff.mem hm
      rw [e1] at e3
      cases e3
      exact nf _ e2
    have offS := off fl3.2.2.1 he3 hd3
    have nL : a ≠ X.env.locals := fun y => offS (List.mem_filterMap.mpr ⟨X.env, List.mem_cons_self, by rw [hf, y]⟩)
    have nF : a ∉ X.fs := fun hm => by
      obtain ⟨e1, m1, m2⟩ := List.mem_filterMap.mp hm
      exact offS (List.mem_filterMap.mpr ⟨e1, List.mem_cons_of_mem _ m1, m2⟩)
    -- it is new since the entry
    have newI : sI.heap.get? a = none := by
      cases q : sI.heap.get? a with
      | none => rfl
      | some o =>
        have := nb a o q (hs ▸ offS)
        rw [fl3.2.1] at this
        cases this
    have new0 : X.s_0.heap.get? a = none := by
      cases q : X.s_0.heap.get? a with
      | none => rfl
      | some o =>
        obtain ⟨o', q'⟩ := J.base.there a o q (by rw [hx]; simp)
        rw [newI] at q'
        cases q'
    have newP : ∀ p ∈ X.pn ++ pins, p.1 ≠ a := fun p hp y => by
      have := (J.pin p hp).1
      rw [y, newI] at this
      cases this
    have S3 := J3.suite he3 hd3 na nL nF
    refine wpAny_handleBy_cons (codeAny_handlers_test ?_) (by intro q; cases q)
    have look : PySem.W.Looks (model X.prog X.w) h3 (typeOf (.ref a)) cls := fun _ _ _ _ k q => wpAny_typeOf_ref (k _ _ he3) (hz3.1 ▸ q)
    have LM := PySem.W.exm_one (M := model X.prog X.w) J3.kIn look hm
    have name : ∀ {Q : Value → Shared → Prop} {E : Value → Shared → Prop}, Q c { t with heap := h3 } → wpAny (model X.prog X.w) (X.A.mark (some (.ref a))) (eval (.Name x np) X.env) Q E { t with heap := h3 } := fun q => by
      obtain ⟨g1, g2, g3 | ⟨g3, g4, g5⟩⟩ := hc
      · exact ld_glob (X := X.suite a ((a, oe3) :: (X.pn ++ pins))) S3 g1 g3 q g2
      · exact ld_blt (X := X.suite a ((a, oe3) :: (X.pn ++ pins))) S3 g1 g3 g4 q g5 g2
    refine name (LM.here (codeAny_handlers_suite_as (HandSPX.lands_againZ fl3 fun h4 fl4 up4 => ?_)))
    have J4 : Inv X pins σ1 H1 { t with heap := h4 } := J.landed nb fl4.1 ((up.trans up3).trans up4) os ag
    obtain ⟨oe4, vs4, he4, hz4, hd4⟩ := fl4.there
    have S4 := J4.suite he4 hd4 na nL nF
    refine store_ok (X := X.suite a ((a, oe4) :: (X.pn ++ pins))) (v := .ref a) S4 hN hi (.inl hln) rfl (fun s5 S5 => ?_) (.inr hln)
    refine wpAny_mono ((hsu a oe4 cls d (X.pn ++ pins) hz4 ⟨_, hd4⟩).run [] s5 _ H1 _ S5 (hyes a na)) (fun fl s6 q => ?_) (fun _ _ z => z.elim)
    have leave : ∀ {σ6 : L2.St} {H6 : Hp} {Q : Shared → Prop}, Inv (X.suite a ((a, oe4) :: (X.pn ++ pins))) [] σ6 H6 s6 → (∀ s7, Inv (X.suite a ((a, oe4) :: (X.pn ++ pins))) [] (σ6.set i none) H6 s7 → Q s7) →
        wpAny (model X.prog X.w) X.A (do bindName X.env n .none; unbindBehindTheSuite X.env n pos') (fun _ s7 => Q s7) X.xe s6 := fun S6 g => gone_ok (X := X.suite a ((a, oe4) :: (X.pn ++ pins))) S6 hN hi hln g
    cases fl with
    | next =>
      obtain ⟨σ6, H6, S6, q6⟩ := q
      refine leave S6 fun s7 S7 => ⟨_, _, ?_, q6⟩
      obtain ⟨p1, p2, p3, _⟩ := S7.pin (a, oe4) (List.mem_append_left _ List.mem_cons_self)
      exact Inv.track (S7.unsuite okX) p1 hz4 hd4 p2 nL new0 newP
    | brk =>
      obtain ⟨σ6, H6, S6, q6⟩ := q
      exact leave S6 fun s7 S7 => ⟨_, _, S7.unsuite okX, q6⟩
    | cont =>
      obtain ⟨σ6, H6, S6, q6⟩ := q
      exact leave S6 fun s7 S7 => ⟨_, _, S7.unsuite okX, q6⟩
    | ret u =>
      obtain ⟨v6, σ6, H6, S6, r6, q6⟩ := q
      exact leave S6 fun s7 S7 => ⟨_, _, _, S7.unsuite okX, r6, q6⟩
end
/-! ### what is asked of a kept exception -/
section
variable {X : Cx}
theorem dict_there {pins : List (Addr × Obj)} {σ : L2.St} {H : Hp} {s : Shared} {dd : Addr} {fs : List (Str × V)} (I : Inv X pins σ H s) (e : H dd = some (.xd fs)) : ∃ (od : Obj) (mA : Str → Option Value), s.heap.Ns1 dd mA ∧ (∀ f, RelO (fs.lookup f) (mA f)) ∧ s.heap.get? dd = some od := by
  have hx : ObjOk X.prog X.w H s.heap dd (.xd fs) := I.hok dd _ e
  obtain ⟨mA, hns, hr⟩ := hx
  obtain ⟨od, ho, _⟩ := lookIn_ns hns
  exact ⟨od, mA, hns, hr, ho⟩
/-- e.f of a kept exception -/
def tXk (K : PySem.W.Frag) (f : Str) (te : TE) : TE := fun σ H Q => te σ H fun x H1 => ∃ (a C dd : Addr) (fs : List (Str × V)) (v : V), x = .ref a ∧ XfC K C ∧ PySem.W.findIn K (.ref C) f = some none ∧ H1 a = some (exk a (.ref C) (some dd)) ∧ H1 dd = some (.xd fs) ∧ fs.lookup f = some v ∧ Q v H1
theorem pe_xk {e : Expr} {te : TE} {pos : Pos} {f : Str} (he : PE X e te) (hb : attributeBase e f X.env (eval e X.env) = eval e X.env := by rfl) : PE X (.Attribute e f pos) (tXk X.K f te) := by
  refine ⟨fun pins s σ H Q I h => ?_⟩
  refine attr_of hb (thn (he.run pins s σ H _ I h) fun u s1 hu => ?_)
  obtain ⟨x, H1, I1, rx, a, C, dd, fs, v, rfl, T, hno, ea, ed, l, q⟩ := hu
  obtain rfl : u = Value.ref a := rx
  obtain ⟨oe, vs, h1, h2, h3⟩ := exk_at I1.hok ea
  have hx : ObjOk X.prog X.w H1 s1.heap dd (.xd fs) := I1.hok dd _ ed
  obtain ⟨mA, hns, hr⟩ := hx
  obtain ⟨od, ho, hl⟩ := lookIn_ns hns
  obtain ⟨u, hu, ru⟩ := RelO.some_of (v := v) (o := mA f) (by rw [← l]; exact hr f)
  have J : PySem.W.InstAt s1.heap a oe C (some od) := ⟨h1, h2.1, by unfold PySem.W.notCls; rw [h3] <;> rfl, by rw [h2.2]; exact ho⟩
  exact HandSPX.exc_get I1.kIn J T.ga T.gg T.exC (PySem.W.findObj_own T.hdC hno rfl (by rw [hl, hu])) (handed_of ru) ⟨v, H1, I1.tok _, ru, q⟩
theorem x_xk {K : PySem.W.Frag} {σ : SS} {H : Hp} {Q : VK} {f : Str} {te : TE} (q : te σ H fun x H1 => ∃ (a C dd : Addr) (fs : List (Str × V)) (v : V), x = .ref a ∧ XfC K C ∧ PySem.W.findIn K (.ref C) f = some none ∧ H1 a = some (exk a (.ref C) (some dd)) ∧ H1 dd = some (.xd fs) ∧ fs.lookup f = some v ∧ Q v H1) : tXk K f te σ H Q := q
/-- isinstance(e, c), e a kept exception, c a class or a tuple of classes -/
def rIsK (K : PySem.W.Frag) : List V → Hp → VK → Prop := fun xs H Q => ∃ (a D dd : Addr) (fs : List (Str × V)) (c : V) (b : Bool), xs = [.ref a, c] ∧ ExcC K D ∧ H a = some (exk a (.ref D) (some dd)) ∧ H dd = some (.xd fs) ∧
  ((∃ cv, (∀ u, RelV c u → u = cv) ∧ PySem.W.kitOne K (.ref D) cv = some b) ∨ ∃ (t : Addr) (cs : List V) (cvs : List Value), c = .ref t ∧ SqT K H t cs ∧ (∀ us, Vals cs us → us = cvs) ∧ PySem.W.kitAny K (.ref D) cvs = some b) ∧ Q (.bl b) H
theorem call_isK : CallR X (.builtin "isinstance") (rIsK X.K) := by
  intro pins s σ H xs us Q I r h
  obtain ⟨a, D, dd, fs, c, b, rfl, C, ea, ed, hcls, q⟩ := h
  obtain ⟨u, w', rfl, ru, rw'⟩ := vals2 r
  obtain rfl : u = Value.ref a := ru
  obtain ⟨oe, vs, h1, h2, h3⟩ := exk_at I.hok ea
  obtain ⟨od, mA, _, _, ho⟩ := dict_there I ed
  have J : PySem.W.InstAt s.heap a oe D (some od) := ⟨h1, h2.1, by unfold PySem.W.notCls; rw [h3] <;> rfl, by rw [h2.2]; exact ho⟩
  have hcl : (PySem.W.clsIn X.K D).isSome = true := by
    obtain ⟨cd, hc, _⟩ := PySem.W.any_some C.hd
    rw [hc]; rfl
  rcases hcls with ⟨cv, hcv, e⟩ | ⟨t, cs, cvs, rfl, et, hcs, e⟩
  · have := hcv _ rw'
    subst this
    exact PySem.W.kia_one (PySem.W.kitx_exc hcl C.hg C.hk C.hs C.ha C.hn C.ht C.hm) I.kIn J e (fun z => nomatch z) fun tk => ⟨.bl b, H, I.kept (t' := tk) fun _ _ z => z, rfl, q⟩
  · obtain ⟨its, rv, ⟨o, ho2, hc2, n, hd2⟩, _⟩ := I.tuple et
    have := hcs _ rv
    subst this
    obtain rfl : w' = Value.ref t := rw'
    obtain ⟨cl, di, da, sl⟩ := o
    replace hc2 : cl = _ := hc2
    replace hd2 : da = _ := hd2
    subst hc2 hd2
    exact PySem.W.kia_tup (PySem.W.kitx_exc hcl C.hg C.hk C.hs C.ha C.hn C.ht C.hm) I.kIn J ho2 e (fun z => nomatch z) fun tk => ⟨.bl b, H, I.kept (t' := tk) fun _ _ z => z, rfl, q⟩
theorem x_isK1 {K : PySem.W.Frag} {H : Hp} {Q : VK} {a D dd : Addr} {fs : List (Str × V)} {c : V} {cv : Value} {b : Bool} (C : ExcC K D) (ea : H a = some (exk a (.ref D) (some dd))) (ed : H dd = some (.xd fs)) (hc : ∀ u, RelV c u → u = cv) (e : PySem.W.kitOne K (.ref D) cv = some b) (q : Q (.bl b) H) : rIsK K [.ref a, c] H Q :=
  ⟨a, D, dd, fs, c, b, rfl, C, ea, ed, .inl ⟨cv, hc, e⟩, q⟩
theorem x_isKT {K : PySem.W.Frag} {H : Hp} {Q : VK} {a D dd t : Addr} {fs : List (Str × V)} {cs : List V} {cvs : List Value} {b : Bool} (C : ExcC K D) (ea : H a = some (exk a (.ref D) (some dd))) (ed : H dd = some (.xd fs)) (et : SqT K H t cs) (hc : ∀ us, Vals cs us → us = cvs) (e : PySem.W.kitAny K (.ref D) cvs = some b) (q : Q (.bl b) H) : rIsK K [.ref a, .ref t] H Q :=
  ⟨a, D, dd, fs, .ref t, b, rfl, C, ea, ed, .inr ⟨t, cs, cvs, rfl, et, hc, e⟩, q⟩
end

/-! ### an own exception class, called -/
structure LxB (P : Program) (w : World) (K : PySem.W.Frag) (mg : Str → Option Value) (base : Heap) (x : Str) (C : Addr) (k : Nat) (ps : List Str) (sp : Sp) (bmB : List Value) (newId : String) : Prop where
  fb : ∃ B initId, ExF B newId initId bmB
  t : ExB K C bmB newId
  ex : ∃ (fI : Addr) (fd : FuncData), FnOk P w K mg base CX0 k fI fd ps sp ∧ PySem.W.findIn K (.ref C) "__init__" = some (some (.ref fI)) ∧ PySem.W.typeIn K (.ref fI) = some (.type "function") ∧ Binds K fd ps []
  hm : mg x = some (.ref C)
section
variable {X : Cx} {e : Expr} {es : List Expr} {ta : TA} {p pos : Pos} {newId : String} {bmB : List Value}
theorem pmk_lx {x : Str} {C : Addr} {k : Nat} {ps : List Str} {sp : Sp} (L : LxB X.prog X.w X.K X.mg X.base x C k ps sp bmB newId) (hr : Room (k + 1) X.A) (hg : Gl X x) (ha : PA X (e :: es) ta)
    (hdb : (x == ("__debug__" : Str)) = false := by decide) (he : starEach (e :: es) X.env = (false, eval e X.env) :: starEach es X.env := by rfl) (hpl : (backTo pos (starEach es X.env)).any (·.1) = false := by rfl) :
    PMk X (.Call (.Name x p) (e :: es) [] pos) (tMkB C sp ta) := by
  obtain ⟨B, initId, FB⟩ := L.fb
  obtain ⟨fI, fd, F1, iC, tI, hb⟩ := L.ex
  exact pmk_B FB L.t iC tI F1 hr hb hg L.hm ha hdb he hpl
/-- an __init__ that keeps one thing -/
def spI1 (C : Addr) (f : Str) : Sp := fun vs H Q _ => ∃ (a : Addr) (v : V), vs = [.ref a, v] ∧ H a = some (exo a C none) ∧ ∀ dx, H dx = none → dx ≠ a → Q .non (upd (upd H dx (exd dx [(f, v)])) a (exo a C (some dx)))
theorem x_mk {C : Addr} {sp : Sp} {ta : TA} {σ : L2.St} {H : Hp} {Q : XK} (q : ta σ H fun vs H1 => vs.length ≤ 1000 ∧ ∀ a, H1 a = none → sp (.ref a :: vs) (upd H1 a (exo a C none))
  (fun v H2 => v = .non ∧ ∃ (d : Addr) (fs : List (Str × V)), H2 a = some (exo a C (some d)) ∧ H2 d = some (exd d fs) ∧ H1 d = none ∧ Q (.ref C) (some d) (upd (del H2 a) d (.xd fs))) (fun _ _ _ => False)) : tMkB C sp ta σ H Q := q
theorem x_mkE {C : Addr} {f : Str} {v : V} {H1 : Hp} {Q : XK} (q : ∀ d H', H1 d = none → H' d = some (.xd [(f, v)]) → Kx [] H1 H' → Q (.ref C) (some d) H') : [v].length ≤ 1000 ∧ ∀ a, H1 a = none → spI1 C f (.ref a :: [v]) (upd H1 a (exo a C none))
  (fun u H2 => u = .non ∧ ∃ (d : Addr) (fs : List (Str × V)), H2 a = some (exo a C (some d)) ∧ H2 d = some (exd d fs) ∧ H1 d = none ∧ Q (.ref C) (some d) (upd (del H2 a) d (.xd fs))) (fun _ _ _ => False) := by
  refine ⟨by simp, fun a ha => ⟨a, v, rfl, upd_same, fun dx hd hne => ⟨rfl, dx, _, upd_same, (upd_ne hne).trans upd_same, ?_, q dx _ ?_ upd_same fun b o _ hb => ?_⟩⟩⟩
  · rw [upd_ne hne] at hd
    exact hd
  · rw [upd_ne hne] at hd
    exact hd
  · have h1 : b ≠ a := fun z => by rw [z, ha] at hb; cases hb
    rw [upd_ne hne] at hd
    have h2 : b ≠ dx := fun z => by rw [z, hd] at hb; cases hb
    rw [upd_ne h2]
    show (del _ a) b = _
    unfold del
    simp only [h1, if_false]
    rw [upd_ne h1, upd_ne h2, upd_ne h1]
    exact hb
end
/-! ### what stands for no integer -/
def isI : PyData → Bool
  | .int _ => true
  | _ => false
def isIB : PyData → Bool
  | .int _ => true
  | .bool _ => true
  | _ => false
def isB : PyData → Bool
  | .bool _ => true
  | _ => false
section
variable {K : PySem.W.Frag} {H : Hp} {Q : VK} {v : V} {d : PyData}
theorem tyL {a : Addr} {xs : List V} (h : SqL K H a xs) : TyX K H (.ref a) (.type "list") := by
  rcases h with (h | ⟨o, h⟩) | h
  · exact .base (.lst h)
  · exact .base (.frz h)
  · obtain ⟨o, its, n, e, c, _⟩ := h
    exact .kList e c
theorem tyT {a : Addr} {xs : List V} (h : SqT K H a xs) : TyX K H (.ref a) (.type "tuple") := by
  rcases h with (h | ⟨o, h⟩) | h
  · exact .base (.tup h)
  · exact .fTuple h
  · obtain ⟨o, its, n, e, c, _⟩ := h
    exact .kTuple e c
theorem x_isiDI (h : Dp K H v d) (q : Q (.bl (isIB d)) H) : rIsi K [v, .ty "int"] H Q := by
  cases h with
  | non => exact x_isi (b := false) (.base .non) (kit_ty (by decide +kernel)) q
  | bl b => exact x_isi (b := true) (.base (.bl b)) (kit_ty (by decide +kernel)) q
  | int i => exact x_isi (b := true) (.base (.int i)) (kit_ty (by decide +kernel)) q
  | str x => exact x_isi (b := false) (.base (.str x)) (kit_ty (by decide +kernel)) q
  | lst h _ => exact x_isi (b := false) (tyL h) (kit_ty (by decide +kernel)) q
  | tup h _ => exact x_isi (b := false) (tyT h) (kit_ty (by decide +kernel)) q
theorem x_isiDB (h : Dp K H v d) (q : Q (.bl (isB d)) H) : rIsi K [v, .ty "bool"] H Q := by
  cases h with
  | non => exact x_isi (b := false) (.base .non) (kit_ty (by decide +kernel)) q
  | bl b => exact x_isi (b := true) (.base (.bl b)) (kit_ty (by decide +kernel)) q
  | int i => exact x_isi (b := false) (.base (.int i)) (kit_ty (by decide +kernel)) q
  | str x => exact x_isi (b := false) (.base (.str x)) (kit_ty (by decide +kernel)) q
  | lst h _ => exact x_isi (b := false) (tyL h) (kit_ty (by decide +kernel)) q
  | tup h _ => exact x_isi (b := false) (tyT h) (kit_ty (by decide +kernel)) q
end
theorem dpK {K : PySem.W.Frag} {H H' : Hp} {v : V} {d : PyData} (k : Kx [] H H') (h : Dp K H v d) : Dp K H' v d :=
  match dp_keepAll k [d] [v] (.cons h .nil) with
  | .cons h _ => h
/-! ### repr of data of every kind -/
def boolT (b : Bool) : Str := if b then "True" else "False"
def shD : PyData → Str
  | .none => "None"
  | .bool b => boolT b
  | .int i => toString i
  | .str x => reprText x
  | d => d.shown
def ShOk : PyData → Prop
  | .none => True
  | .bool _ => True
  | .int i => i.natAbs.log2 < 1920
  | .str x => (reprText x).length ≤ sizeLine
  | d => d.showable = true ∧ d.hasDict = false ∧ d.depth ≤ 60 ∧ d.shown.length ≤ sizeLine
def rReprD (K : PySem.W.Frag) : List V → Hp → VK → Prop := fun xs H Q => ∃ v d, xs = [v] ∧ Dp K H v d ∧ ShOk d ∧ Q (.str (shD d)) H
theorem x_reprD {K : PySem.W.Frag} {H : Hp} {Q : VK} {v : V} {d : PyData} (h : Dp K H v d) (o : ShOk d) (q : Q (.str (shD d)) H) : rReprD K [v] H Q := ⟨v, d, rfl, h, o, q⟩
section
variable {X : Cx}
theorem call_reprD (hgd : X.A.guards = some []) (hu : X.A.units + 64 < cLine) : CallR X (.builtin "repr") (rReprD X.K) := by
  intro pins s σ H xs us Q I r h
  obtain ⟨v, d, rfl, hd, ho, q⟩ := h
  obtain ⟨u, rfl, ru⟩ := vals1 r
  have big : ∀ {a : Addr}, u = .ref a → Dp X.K H (.ref a) d → d.showable = true → d.hasDict = false → d.depth ≤ 60 → d.shown.length ≤ sizeLine → Q (.str d.shown) H → wpAny (model X.prog X.w) X.A (call (.builtin "repr") [u] []) (EP X pins σ Q) X.xe s := fun {a} e hd h1 h2 h3 h4 q => by
    subst e
    obtain ⟨as, hr⟩ := Dp.reads I d _ (.ref a) hd rfl
    exact repr_of_reads' (Q := EP X pins σ Q) (E := X.xe) hr h1 (PyData.noDict_hsm h2) hgd (by omega) (fun _ _ e => e) (fun h' u tk hk => ⟨.str d.shown, H, I.kept hk, ⟨u, rfl⟩, q⟩) h4
  cases hd with
  | non =>
    cases (show u = Value.none from ru)
    exact PySem.P.repr_of_none ⟨.str "None", H, I.tok _, ⟨_, rfl⟩, q⟩
  | bl b =>
    cases (show u = Value.bool b from ru)
    exact PySem.P.repr_of_bool ⟨.str (boolT b), H, I.tok _, ⟨_, rfl⟩, q⟩
  | int i =>
    obtain ⟨t, e⟩ := (show ∃ t, u = Value.int i t from ru)
    cases e
    exact PySem.P.repr_of_int ho ⟨.str (toString i), H, I.tok _, ⟨_, rfl⟩, q⟩
  | str x =>
    obtain ⟨t, e⟩ := (show ∃ t, u = Value.str x t from ru)
    cases e
    exact PySem.P.repr_of_str ⟨.str (reprText x), H, I.tok _, ⟨_, rfl⟩, q⟩ ho
  | lst h1 h2 =>
    obtain ⟨o1, o2, o3, o4⟩ := ho
    exact big ru (.lst h1 h2) o1 o2 o3 o4 q
  | tup h1 h2 =>
    obtain ⟨o1, o2, o3, o4⟩ := ho
    exact big ru (.tup h1 h2) o1 o2 o3 o4 q
end
theorem vals_refs : ∀ (cs : List Addr) (us : List Value), Vals (cs.map V.ref) us → us = cs.map Value.ref
  | [], _, .nil => rfl
  | c :: cs, _, .cons r t => by
    have h := vals_refs cs _ t
    rw [h, List.map_cons]
    exact congrArg (· :: _) r
theorem eqv_nats (ns : List Nat) : PyData.eqv (.tuple (ns.map fun (n : Nat) => PyData.int (n : Int))) (.tuple (ns.map fun (n : Nat) => PyData.int (n : Int))) = true := by
  show PyData.eqvAll _ _ = true
  induction ns with
  | nil => rfl
  | cons a r ih =>
    rw [List.map_cons]
    show (PyData.eqv (.int (a : Int)) (.int (a : Int)) && PyData.eqvAll _ _) = true
    rw [ih]
    simp [PyData.eqv]
theorem shaped_nats (ns : List Nat) : SeqAt.shaped (.tuple (ns.map fun (n : Nat) => PyData.int (n : Int))) = true := by
  have e : (ns.map fun (n : Nat) => PyData.int (n : Int)) = (ns.map fun (n : Nat) => (n : Int)).map PyData.int := by rw [List.map_map]; rfl
  rw [e]
  have := shaped_ints (ns.map fun (n : Nat) => (n : Int))
  unfold SeqAt.shaped at this ⊢
  simpa [PyData.canLay0, PyData.depth] using this
theorem x_neTN {K : PySem.W.Frag} {H : Hp} {Q : VK} {a b : Addr} {ns : List Nat} (h : SqT K H a (natV ns)) (h2 : SqT K H b (natV ns)) (q : Q (.bl false) H) : rNeD K (.ref a) (.ref b) H Q :=
  ⟨_, _, .tup h (dp_nats _), .tup h2 (dp_nats _), shaped_nats _, shaped_nats _, by rw [eqv_nats]; exact q⟩
theorem rgV_nat (n : Nat) : rgV 0 (n : Int) = natV (List.range n) := by
  unfold rgV natV
  rw [Int.sub_zero, Int.toNat_natCast]
  refine List.map_congr_left fun i _ => ?_
  rw [Int.zero_add]

open LamX (TabB Tabs TabS ExtN)
/-! ### the law's end, with tables of code objects (a law in which lambdas stand) -/
/-- what the abstract heap may know at the entry -/
def OnlyT (ts : List Addr) (H : Hp) : Prop := ∀ b, H b = none ∨ (b ∈ ts ∧ H b = some (.tbl #[])) ∨ ∃ o xs, H b = some (.frz o (.lst xs))
section
variable {P : Program} {w : World} {K : PySem.W.Frag} {mg mb : Str → Option Value} {k : Nat} {fa a : Addr} {cs : List (Addr × Addr)} {fd : FuncData} {x : Str} {sp : Sp} {s₁ : Shared} {vs : List Value} {ns : List Int}
/-- the run itself, from such a heap -/
theorem lawGT_core {H : Hp} (KX : K.In s₁.heap) (hns : s₁.heap.Ns mainGlobals mg) (hb : s₁.heap.Ns builtinsNs mb) (hbb : ∀ x : Str, x ≠ "__name__" → mb x = bootBuiltins x) (hlim : s₁.heap.NoLimit) (hg : s₁.gens = #[])
    (hT : ∀ p ∈ cs, s₁.heap.get? p.2 = some { cls := .none, data := .fields #[] }) (nT : ∀ p ∈ cs, K.lookup p.2 = none) (C : ∀ p ∈ cs, PySem.W.CodeHd s₁.heap p.1 p.2)
    (hbm : ∃ (bm : Addr) (ob : Obj), mg "__builtins__" = some (.ref bm) ∧ bm ≠ builtinsNs ∧ s₁.heap.get? bm = some ob ∧ ob.cls = .type "module" ∧ ob.dict = some builtinsNs ∧ ob.data = .plain)
    (ha : s₁.heap.get? a = some { cls := .type "list", data := .seq vs.toArray }) (hr : Room k callerA)
    (F : ∀ base : Heap, K.In base → base.Ns mainGlobals mg → (∀ p ∈ cs, TabB base mg p.1 p.2) → FnG P w K mg base k fa fd [x] sp) (hbind : ∀ (s : Shared) (u : Value), BindsTo s fd ⟨[u], []⟩ [(x, u)])
    (hS : sp [.ref a] H (fun v _ => v = .bl true) E0) (hO : OnlyT (cs.map (·.2)) H) (hH : ∀ p ∈ cs, H p.2 = some (.tbl #[])) (hok : HOk P w H s₁.heap) (hA : ∀ b, H b ≠ none → b = a ∨ b ∈ cs.map (·.2)) (hK : H a ≠ none → K.lookup a = none) :
    codeAny (model P w) callerA (.call (.ref fa) ⟨[.ref a], []⟩) (fun r s' => r = .ok (.ret (.bool true)) ∧ OldK s₁.heap s'.heap ∧ s'.os = s₁.os ∧ AllBare s'.gens) s₁ := by
  have tabAt : ∀ {b : Addr}, b ∈ cs.map (·.2) → s₁.heap.get? b = some { cls := .none, data := .fields #[] } := by
    intro b hb
    obtain ⟨p, hp, rfl⟩ := List.mem_map.mp hb
    exact hT p hp
  -- what is neither the script nor an empty table is not among ours
  have other : ∀ {b : Addr} {o : Obj}, s₁.heap.get? b = some o → (∀ us m, o.data ≠ .seq us m) → o.data ≠ .fields #[] → H b = none := by
    intro b o e n1 n2
    match q : H b with
    | none => rfl
    | some u =>
      rcases hA b (by rw [q]; simp) with rfl | hb
      · rw [ha] at e
        rw [← Option.some.inj e] at n1
        exact absurd rfl (n1 _ _)
      · rw [tabAt hb] at e
        rw [← Option.some.inj e] at n2
        exact absurd rfl n2
  have plain : ∀ {b : Addr} {o : Obj} {d : Data}, s₁.heap.get? b = some o → o.data = d → (∀ us m, d ≠ .seq us m) → d ≠ .fields #[] → (hidT s₁.heap H).get? b = some o := fun e ed n1 n2 => hidT_get e (other e (by rw [ed]; exact n1) (by rw [ed]; exact n2))
  have ns' : ∀ {b : Addr} {m : Str → Option Value}, s₁.heap.Ns b m → (hidT s₁.heap H).Ns b m := by
    rintro b m ⟨o, es, ep, e, d, r⟩
    exact ⟨o, es, ep, plain e d (fun _ _ z => nomatch z) (fun z => nomatch z), d, r⟩
  have inK : K.In (hidT s₁.heap H) := by
    intro b o e
    refine hidT_get (KX b o e) ?_
    match q : H b with
    | none => rfl
    | some u =>
      rcases hA b (by rw [q]; simp) with rfl | hb
      · rw [hK (by rw [q]; simp)] at e
        cases e
      · obtain ⟨p, hp, rfl⟩ := List.mem_map.mp hb
        rw [nT p hp] at e
        cases e
  have md : Mod K mg (hidT s₁.heap H) := by
    obtain ⟨mc, h1, h2⟩ := hlim
    exact ⟨inK, ns' hns, ⟨mb, ns' hb, hbb⟩, ⟨mc, ns' h1, h2⟩⟩
  have tabs : ∀ p ∈ cs, TabB (hidT s₁.heap H) mg p.1 p.2 := by
    intro p hp
    obtain ⟨og, esg, epg, eg, dg, rg⟩ := hns
    have atP := hT p hp
    constructor
    · obtain ⟨o, us, file, tf, flags, tg, inF, text, tt, e1, r1, r2, r3, r4, r5, r6, r7, r8, hne⟩ := C p hp
      have r2' : o.data = .fields us := r2
      exact ⟨o, us, file, tf, flags, tg, inF, text, tt, plain e1 r2' (fun _ _ z => nomatch z) (fun z => by cases z; simp at r3), r1, r2, r3, r4, r5, r6, r7, r8, hne⟩
    · obtain ⟨bm, ob, b1, b2, b3, b4, b5, b6⟩ := hbm
      refine ⟨bm, ob, b1, b2, ?_, ?_, plain b3 b6 (fun _ _ z => nomatch z) (fun z => nomatch z), b4, b5, b6⟩
      · rintro rfl
        rw [eg] at b3
        rw [← Option.some.inj b3, dg] at b6
        cases b6
      · rintro rfl
        rw [atP] at b3
        rw [← Option.some.inj b3] at b6
        cases b6
    · intro z
      rw [← z, eg] at atP
      rw [Option.some.inj atP] at dg
      cases dg
  have e0 : Env0 P w K mg (hidT s₁.heap H) callerA [] s₁ H := by
    refine ⟨rfl, md, fun b o e => of_hidT e, ?_, trivial, ?_, hok, .of_eq hg⟩
    · exact Nat.le_of_eq (hidT_size _ _)
    · exact fun b hb => absurd (show b ∈ ([] : List Addr) from hb) (by simp)
  have run := (F _ inK (ns' hns) tabs).run callerA [] s₁ H ⟨[.ref a], []⟩ [.ref a] [.ref a] _ _ rfl hr e0 (hbind s₁ (.ref a)) (.cons rfl .nil) hS
  refine codeAny_mono run fun r s' h => ?_
  match r, h with
  | .error e, h => exact False.elim h
  | .ok .next, h => exact False.elim h
  | .ok .brk, h => exact False.elim h
  | .ok .cont, h => exact False.elim h
  | .ok (.ret u), h =>
    obtain ⟨v, H', os, bare, un, hok', r', q⟩ := h
    replace q : v = .bl true := q
    subst q
    obtain rfl : u = Value.bool true := r'
    have same : ∀ b o, b ∉ cs.map (·.2) → s₁.heap.get? b = some o → s'.heap.get? b = some o := by
      intro b o nb e
      match q : H b with
      | none => exact un.keep b o e q (fun z => absurd (show b ∈ ([] : List Addr) from z) (by simp)) (by simp)
      | some u =>
        rcases hO b with z | ⟨z, _⟩ | ⟨ob, xs, z⟩
        · rw [q] at z
          cases z
        · exact absurd z nb
        · obtain ⟨e1, _⟩ := hok b _ z
          obtain ⟨e2, _⟩ := hok' b _ (un.frzs b ob _ z)
          rw [e] at e1
          rw [Option.some.inj e1]
          exact e2
    have more : ∀ p ∈ cs, ∃ us : Array Value, s'.heap.get? p.2 = some { cls := .none, data := .fields us } := by
      intro p hp
      obtain ⟨us, z⟩ := un.tbls p.2 #[] (hH p hp)
      exact ⟨_, hok' p.2 _ z⟩
    refine ⟨rfl, ⟨fun b o e => ?_, fun b o e => ?_⟩, os, bare⟩
    · by_cases nb : b ∈ cs.map (·.2)
      · obtain ⟨p, hp, rfl⟩ := List.mem_map.mp nb
        obtain ⟨us, hm⟩ := more p hp
        rw [hT p hp] at e
        rw [← Option.some.inj e]
        exact .inr (.inl ⟨((C p hp).tab (hT p hp)).isCodeTable, rfl, #[], us, rfl, by rw [Array.empty_append]; exact hm⟩)
      · exact .inl (same b o nb e)
    · by_cases nb : b ∈ cs.map (·.2)
      · obtain ⟨p, hp, rfl⟩ := List.mem_map.mp nb
        obtain ⟨us, hm⟩ := more p hp
        exact ⟨_, hm⟩
      · exact ⟨o, same b o nb e⟩
theorem lawGT (KX : K.In s₁.heap) (hns : s₁.heap.Ns mainGlobals mg) (hb : s₁.heap.Ns builtinsNs mb) (hbb : ∀ x : Str, x ≠ "__name__" → mb x = bootBuiltins x) (hlim : s₁.heap.NoLimit) (hg : s₁.gens = #[])
    (hT : ∀ p ∈ cs, s₁.heap.get? p.2 = some { cls := .none, data := .fields #[] }) (nT : ∀ p ∈ cs, K.lookup p.2 = none) (C : ∀ p ∈ cs, PySem.W.CodeHd s₁.heap p.1 p.2)
    (hbm : ∃ (bm : Addr) (ob : Obj), mg "__builtins__" = some (.ref bm) ∧ bm ≠ builtinsNs ∧ s₁.heap.get? bm = some ob ∧ ob.cls = .type "module" ∧ ob.dict = some builtinsNs ∧ ob.data = .plain)
    (ha : s₁.heap.get? a = some { cls := .type "list", data := .seq vs.toArray }) (hi : IntsAre vs ns) (hl : ns.length ≤ sizeLine) (hr : Room k callerA)
    (F : ∀ base : Heap, K.In base → base.Ns mainGlobals mg → (∀ p ∈ cs, TabB base mg p.1 p.2) → FnG P w K mg base k fa fd [x] sp) (hbind : ∀ (s : Shared) (u : Value), BindsTo s fd ⟨[u], []⟩ [(x, u)])
    (hsp : ∀ H : Hp, OnlyT (cs.map (·.2)) H → (∀ p ∈ cs, H p.2 = some (.tbl #[])) → SqL K H a (ns.map V.int) → sp [.ref a] H (fun v _ => v = .bl true) E0) :
    codeAny (model P w) callerA (.call (.ref fa) ⟨[.ref a], []⟩) (fun r s' => r = .ok (.ret (.bool true)) ∧ OldK s₁.heap s'.heap ∧ s'.os = s₁.os ∧ AllBare s'.gens) s₁ := by
  have rv := vals_ints hi
  have lenV := hi.length
  have tabAt : ∀ {b : Addr}, b ∈ cs.map (·.2) → s₁.heap.get? b = some { cls := .none, data := .fields #[] } := by
    intro b hb
    obtain ⟨p, hp, rfl⟩ := List.mem_map.mp hb
    exact hT p hp
  have inT : ∀ {p : Addr × Addr}, p ∈ cs → p.2 ∈ cs.map (·.2) := fun hp => List.mem_map_of_mem hp
  have aT : a ∉ cs.map (·.2) := by
    intro z
    have e := tabAt z
    rw [ha] at e
    cases congrArg Obj.data (Option.some.inj e)
  let Ht : Hp := fun b => if b ∈ cs.map (·.2) then some (.tbl #[]) else none
  have ht1 : ∀ {b : Addr}, b ∈ cs.map (·.2) → Ht b = some (.tbl #[]) := fun h => if_pos h
  have ht2 : ∀ {b : Addr}, b ∉ cs.map (·.2) → Ht b = none := fun h => if_neg h
  match hk : K.lookup a with
  | some o =>
    have e := KX a o hk
    rw [ha] at e
    have eo := Option.some.inj e
    subst eo
    have hO : OnlyT (cs.map (·.2)) Ht := fun b => by
      by_cases h : b ∈ cs.map (·.2)
      · exact .inr (.inl ⟨h, ht1 h⟩)
      · exact .inl (ht2 h)
    refine lawGT_core KX hns hb hbb hlim hg hT nT C hbm ha hr F hbind (hsp Ht hO (fun p hp => ht1 (inT hp)) (.inr ⟨_, vs.toArray, _, hk, rfl, rfl, rfl, ?_, by simpa using rv⟩)) hO (fun p hp => ht1 (inT hp)) (fun b u z => ?_) (fun b z => ?_) fun z => absurd (ht2 aT) z
    · rw [List.size_toArray, lenV]
      exact hl
    · by_cases h : b ∈ cs.map (·.2)
      · rw [ht1 h] at z
        rw [← Option.some.inj z]
        exact tabAt h
      · rw [ht2 h] at z
        cases z
    · by_cases h : b ∈ cs.map (·.2)
      · exact .inr h
      · exact absurd (ht2 h) z
  | none =>
    let Hs : Hp := fun b => if b = a then some (.frz { cls := .type "list", data := .seq vs.toArray } (.lst (ns.map V.int))) else Ht b
    have hs1 : Hs a = some (.frz { cls := .type "list", data := .seq vs.toArray } (.lst (ns.map V.int))) := if_pos rfl
    have hs2 : ∀ {b}, b ≠ a → Hs b = Ht b := fun h => if_neg h
    have hsT : ∀ p ∈ cs, Hs p.2 = some (.tbl #[]) := fun p hp => (hs2 fun z => aT (z ▸ inT hp)).trans (ht1 (inT hp))
    have hO : OnlyT (cs.map (·.2)) Hs := fun b => by
      by_cases h : b = a
      · exact .inr (.inr ⟨_, _, h ▸ hs1⟩)
      · by_cases h2 : b ∈ cs.map (·.2)
        · exact .inr (.inl ⟨h2, (hs2 h).trans (ht1 h2)⟩)
        · exact .inl ((hs2 h).trans (ht2 h2))
    refine lawGT_core KX hns hb hbb hlim hg hT nT C hbm ha hr F hbind (hsp Hs hO hsT (.inl (.inr ⟨{ cls := .type "list", data := .seq vs.toArray }, hs1⟩))) hO hsT (fun b u z => ?_) (fun b z => ?_) fun _ => hk
    · by_cases h : b = a
      · subst h
        rw [hs1] at z
        rw [← Option.some.inj z]
        exact ⟨ha, by rw [List.length_map]; exact hl, vs, _, rv, ha⟩
      · rw [hs2 h] at z
        by_cases h2 : b ∈ cs.map (·.2)
        · rw [ht1 h2] at z
          rw [← Option.some.inj z]
          exact tabAt h2
        · rw [ht2 h2] at z
          cases z
    · by_cases h : b = a
      · exact .inl h
      · by_cases h2 : b ∈ cs.map (·.2)
        · exact .inr h2
        · exact absurd ((hs2 h).trans (ht2 h2)) z
end
/-- the goal that k_head leaves, from the promise of a law in which lambdas stand: cs, the code objects and their tables -/
theorem walkGT {l : PySem.W.OpenLaw} {n k : Nat} {q : Program} {loose : List Str} {XP : (Str → Option Value) → Heap → Prop} {YP : World → Heap → Prop} {d : DefRec} {K : Params → PySem.W.Frag} {x : Str}
    (hn : l.most = some n) (hn2 : n ≤ sizeLine) (hdf : d.params.defaults = []) (hr : Room k callerA) (hY : ∀ (w : World) (h : Heap), YP w h → (K w.params).In h)
    (F : ∀ (w : World) (mg : Str → Option Value) (fa : Addr) (h : Heap), YP w h → (K w.params).In h → h.Ns mainGlobals mg → mg d.name = some (.ref fa) →
      ∃ (fd : FuncData) (cs : List (Addr × Addr)) (sp : Sp), (∀ p ∈ cs, h.get? p.2 = some { cls := .none, data := .fields #[] }) ∧ (∀ p ∈ cs, (K w.params).lookup p.2 = none) ∧ (∀ p ∈ cs, PySem.W.CodeHd h p.1 p.2) ∧ (∀ (s : Shared) (u : Value), BindsTo s fd ⟨[u], []⟩ [(x, u)]) ∧
        (∀ (H : Hp) (a : Addr) (ns : List Int), ns.length ≤ n → OnlyT (cs.map (·.2)) H → (∀ p ∈ cs, H p.2 = some (.tbl #[])) → SqL (K w.params) H a (ns.map V.int) → sp [.ref a] H (fun v _ => v = .bl true) E0) ∧
        ∀ base : Heap, (K w.params).In base → base.Ns mainGlobals mg → (∀ p ∈ cs, TabB base mg p.1 p.2) → FnG l.prog w (K w.params) mg base k fa fd [x] sp) :
    PySem.W.WalkO q loose XP YP l.row.toRowW d [] (fun f vs => PySem.call f vs) := by
  refine Att.attach_callB hn hdf ?_
  intro w s₀ s₁ mg mb fa o pm cd doc a vs ns G Y ho hd hcd hmg hobj hints hlen hbits hg
  obtain ⟨fd, cs, sp, hT, nT, C, hb, hsp, hF⟩ := F w mg fa _ Y (hY w _ Y) G.T.g hmg
  exact lawGT (hY w _ Y) G.T.g G.T.b G.T.builtins G.T.nolimit hg hT nT C G.T.bmain hobj hints (Nat.le_trans hlen hn2) hr hF hb fun H hO hH hS => hsp H a ns hlen hO hH hS

open LamX (TabB Tabs TabS ExtN CodeO LamS lamEnv lamCx lam_start2 lam_make2 lamS_by)
/-! ### a def whose code object's place is told -/
structure FunC (K : PySem.W.Frag) (x qual : Str) (st : Stmt) (f : Addr) (fd : FuncData) (cdv : Value) : Prop where
  ex : ∃ (oc : Value) (od : Option Addr) (kV doc pm : Value) (an : Option Addr) (ct : Value) (osl : Array (Option Value)),
    fd = PySem.W.fnOf x qual (defArgs st) (defBody st) (defScope st) .none kV doc pm an cdv ct ∧ K.lookup f = some ⟨oc, od, .func fd, osl⟩
  cd : PySem.W.codeIn K cdv qual = true
  kp : PySem.W.keepIn K (.ref f) = true
section
variable {P : Program} {w : World} {K : PySem.W.Frag} {mg : Str → Option Value} {base : Heap}
theorem funC_mk {x qual : Str} {st : Stmt} {f : Addr} {oc : Value} {od an : Option Addr} {osl : Array (Option Value)} {kV doc pm cdv ct : Value} (l : K.lookup f = some ⟨oc, od, .func (PySem.W.fnOf x qual (defArgs st) (defBody st) (defScope st) .none kV doc pm an cdv ct), osl⟩)
    (c : PySem.W.codeIn K cdv qual = true) (k : PySem.W.keepIn K (.ref f) = true) : FunC K x qual st f (PySem.W.fnOf x qual (defArgs st) (defBody st) (defScope st) .none kV doc pm an cdv ct) cdv :=
  { ex := ⟨oc, od, kV, doc, pm, an, ct, osl, rfl, l⟩, cd := c, kp := k }
theorem FnG.bodyC {x qual : Str} {st : Stmt} {f : Addr} {fd : FuncData} {N ps : List Str} {k : Nat} {sp : Sp} {cdv : Value} (F : FunC K x qual st f fd cdv) (S : FnScope N ps (defScope st)) (len : ∀ vs H Q E, sp vs H Q E → vs.length = ps.length)
    (hbody : ∀ (A : Around) (outer : List Env) (s : Shared) (H : Hp) (vs : List V) (Q : VK) (E : XK), (A.deeper (envOfC qual (defScope st) s.heap.objs.size f cdv)).guards = some [] → Room k (A.deeper (envOfC qual (defScope st) s.heap.objs.size f cdv)) → sp vs H Q E →
      ∃ t, PSs (cxOf CX0 P w K mg base N qual (defScope st) f cdv A outer s H E).nox (defBody st) t ∧ t { nx := fun _ H' => Q .non H', rt := Q } (start N vs) H) : FnG P w K mg base (k + 1) f fd ps sp := by
  obtain ⟨oc, od, kV, doc, pm, an, ct, osl, e, lk⟩ := F.ex
  subst e
  refine fnG_of lk F.cd S len fun A outer s H vs Q E hgd hr hsp => ?_
  obtain ⟨t, h, q⟩ := hbody A outer s H vs Q E hgd hr hsp
  exact ⟨t, h.nox, q⟩
end
/-! ### x(lambda: body), where x keeps the exception that the lambda lets out -/
section
variable {X : Cx} {pins : List (Addr × Obj)} {σ : L2.St} {H HZ : Hp} {s : Shared}
/-- a(), in the def that got the lambda; what is let out is wished at the slots that stand there -/
theorem pe_actW {CXg : CXT} {Eg : XK} {Ng : List Str} {qg : Str} {sg : Scope} {g f c' : Addr} {cdg pm ctv : Value} {params : Arguments} {body : Expr} {scope : Scope} {k i : Nat} {a : Str} {pn : List (Addr × Obj)} {xe : Value → Shared → Prop} {W : WX} {tb : XK → TE} {p1 p2 : Pos}
    (I : Inv X pins σ H s) (L : LamS X.env.scope scope) (hf : s.heap.get? f = some (PySem.W.kla_obj "<lambda>" (X.env.qual ++ "<lambda>") params body scope (cloFrom X.env.cells scope.names []) pm c' ctv)) (n0 : H f = none) (nfr : f ∉ frs X.stack)
    (hbind : bindArgs (PySem.W.kla_fn "<lambda>" (X.env.qual ++ "<lambda>") params body scope (cloFrom X.env.cells scope.names []) pm (.ref c') ctv) ⟨[], []⟩ = pure [])
    (tk : Takes ((cxOf CXg X.prog X.w X.K X.mg X.base Ng qg sg g cdg X.A X.stack s H Eg).tr pn xe) W) (hr : Room (k + 1) (X.A.deeper (envOfC qg sg s.heap.objs.size g cdg)))
    (hbody : ∀ (A : Around) (outer : List Env) (s : Shared) (H : Hp) (E : XK), Room k (A.deeper (lamEnv X scope s.heap.objs.size f c')) → PE (lamCx X A outer s H E scope f c') body (tb E)) (hN : Ng[i]? = some a) (hv : Vis sg a)
    (hd : (a == ("__debug__" : Str)) = false := by decide) (hcd : (a == ("__classdict__" : Str)) = false := by decide) :
    PE ((cxOf CXg X.prog X.w X.K X.mg X.base Ng qg sg g cdg X.A X.stack s H Eg).tr pn xe) (.Call (.Name a p1) [] [] p2) (fun σZ HZ Q => σZ[i]? = some (some (.ref f)) ∧ HZ c' = some (CodeO c' (X.env.qual ++ "<lambda>")) ∧ tb (WE W σZ) σ HZ Q) := by
  constructor
  rintro pinsZ sZ σZ HZ Q IZ ⟨hs, hc, ht⟩
  have var := (pe_var (pos := p1) (i := i) hN hv hd hcd).run pinsZ sZ σZ HZ (fun v H1 => v = .ref f ∧ H1 = HZ) IZ ⟨.ref f, hs, rfl, rfl⟩
  refine wpAny_Call_Name_kw (thn var ?_)
  rintro u s1 ⟨v, H1, I1, r1, rfl, rfl⟩
  cases (show u = Value.ref f from r1)
  have at1 : s1.heap.get? f = some (PySem.W.kla_obj "<lambda>" (X.env.qual ++ "<lambda>") params body scope (cloFrom X.env.cells scope.names []) pm c' ctv) := I1.base.keep f _ hf n0 nfr fun z => absurd (show f ∈ ([] : List Addr) from z) (by simp)
  refine PySem.W.callWith_F0 ⟨_, _, _, _, at1⟩ ?_
  have kept : Un (frs X.stack) [] H H1 s.heap s1.heap := I1.base
  obtain ⟨⟨oc, us, t, co1, co2, co3⟩, _⟩ := I1.hok c' _ hc
  have ran : codeAny (model X.prog X.w) (X.A.deeper (envOfC qg sg s.heap.objs.size g cdg)) (.call (.ref f) ⟨[], []⟩) (CR (L2.CX X.prog X.w) (envOfC qg sg s.heap.objs.size g cdg :: X.stack) X.prog X.w H1 s1 Q (WE W σZ)) s1 := by
    refine PySem.W.kla_callFunE hr.depth at1 rfl L.co L.gen rfl ⟨c', oc, us, t, rfl, co1, co2, co3⟩ ?_
    rw [hbind]
    refine wpAny_pure (wpAny_newFunctionEnv (fun y hy => (L.own y hy).2) (fun y hy => absurd hy (by simp)) (fun h₁ ns sub => ⟨I1.nolimit.fresh _ sub, ?_⟩) L.kind)
    have stay : ∀ b o, s1.heap.get? b = some o → h₁.get? b = some o := fun b o e => sub.extBut b o (Nat.ne_of_lt (Heap.lt_size e)) (Heap.get?_push_of_some _ e)
    have J := lam_start2 (A := X.A.deeper (envOfC qg sg s.heap.objs.size g cdg)) (outer := envOfC qg sg s.heap.objs.size g cdg :: X.stack) (E := WE W σZ) (scope := scope) (f := f) (c' := c') (tk := s1.toks + ([] : List (Str × Value)).length) I L I1.env0 hr.hd kept ns stay
    refine PySem.W.kla_codeExpr (wpAny_mono ((hbody _ _ s1 H1 (WE W σZ) (hr.deeper _)).run [] _ _ H1 Q J ht) ?_ fun _ _ z => z)
    rintro v s' ⟨w', H', J', rv, q⟩
    exact ⟨w', H', J'.os, J'.bare, J'.base, J'.hok, rv, q⟩
  refine wpAny_call (codeAny_mono ran fun r s' hq => ?_)
  match r, hq with
  | .ok (.ret u), hq => exact I1.after hq
  | .ok .next, hq => exact hq.elim
  | .ok .brk, hq => exact hq.elim
  | .ok .cont, hq => exact hq.elim
  | .error e, hq => exact passAt tk σZ pinsZ H1 s1 e s' I1 hq
/-- a() as a statement in the body of try -/
def tAct (f c' : Addr) (q : Str) (tl : XK → Hp → VK → Prop) (W : WX) : TS := fun D σ H => σ[0]? = some (some (.ref f)) ∧ H c' = some (CodeO c' q) ∧ tl (WE W σ) H fun _ H' => D.nx σ H'
theorem ps_act {Z : Cx} {f c' : Addr} {q a : Str} {tl : XK → Hp → VK → Prop} {W : WX} {p1 p2 pos : Pos} (act : PE Z (.Call (.Name a p1) [] [] p2) (fun σZ HZ Q => σZ[0]? = some (some (.ref f)) ∧ HZ c' = some (CodeO c' q) ∧ tl (WE W σZ) HZ Q)) :
    PS Z (.Expr (.Call (.Name a p1) [] [] p2) pos) (tAct f c' q tl W) := ps_expr act
/-- the def that calls what it got; TT: what it asks of the lambda's reading -/
def Gives (X : Cx) (Ng : List Str) (x : Str) (st : Stmt) (g : Addr) (cdg : Value) (a q : Str) (k : Nat) (TT : (XK → Hp → VK → Prop) → Hp → VK → Prop) : Prop :=
  ∀ (f c' : Addr) (s : Shared) (H : Hp) (Q : VK) (tl : XK → Hp → VK → Prop), Room k (X.A.deeper (envOfC x (defScope st) s.heap.objs.size g cdg)) →
    (∀ (W : WX) (pn : List (Addr × Obj)) (xe : Value → Shared → Prop) (p1 p2 : Pos), Takes ((cxOf CX0 X.prog X.w X.K X.mg X.base Ng x (defScope st) g cdg X.A X.stack s H E0).tr pn xe) W →
      PE ((cxOf CX0 X.prog X.w X.K X.mg X.base Ng x (defScope st) g cdg X.A X.stack s H E0).tr pn xe) (.Call (.Name a p1) [] [] p2) (fun σZ HZ Q => σZ[0]? = some (some (.ref f)) ∧ HZ c' = some (CodeO c' q) ∧ tl (WE W σZ) HZ Q)) →
    H c' = some (CodeO c' q) → TT tl H Q → ∃ t, PSs (cxOf CX0 X.prog X.w X.K X.mg X.base Ng x (defScope st) g cdg X.A X.stack s H E0).nox (defBody st) t ∧ t { nx := fun _ H' => Q .non H', rt := Q } (start Ng [.ref f]) H
/-- the callee's facts -/
structure LamD (K : PySem.W.Frag) (mg : Str → Option Value) (x a : Str) (st : Stmt) (g : Addr) (fd : FuncData) (cdv : Value) (Ng : List Str) : Prop where
  fn : FunC K x x st g fd cdv
  hm : mg x = some (.ref g)
  hb : Binds K fd [a] []
  sg : FnScope Ng [a] (defScope st)
  h0 : Ng[0]? = some a
  hv : Vis (defScope st) a
def tLamW (T : List (Addr × Str)) (TT : (XK → Hp → VK → Prop) → Hp → VK → Prop) (t : XK → TE) : TE := fun σ H Q => Tabs T H ∧ ∀ H1, ExtN H H1 → Tabs T H1 → TT (fun E H' Q' => t E σ H' Q') H1 Q
theorem pe_lamW {T : List (Addr × Str)} {TT : (XK → Hp → VK → Prop) → Hp → VK → Prop} {x a : Str} {st : Stmt} {g c P : Addr} {k : Nat} {fd : FuncData} {cdv : Value} {Ng : List Str} {params : Arguments} {body : Expr} {scope : Scope} {t : XK → TE} {p lpos pos : Pos}
    (D : LamD X.K X.mg x a st g fd cdv Ng) (hG : Gives X Ng x st g cdv a (X.env.qual ++ "<lambda>") (k + 1) TT) (TB : TabB X.base X.mg c P) (hcode : X.env.code = .ref c) (hmT : (P, X.env.qual ++ "<lambda>") ∈ T) (hu : ∀ p ∈ T, p.1 = P → p.2 = X.env.qual ++ "<lambda>")
    (hr : Room (k + 2) X.A) (hg : Gl X x) (L : LamS X.env.scope scope) (hbody : ∀ (A : Around) (outer : List Env) (s : Shared) (H : Hp) (E : XK) (f c' : Addr), Room k (A.deeper (lamEnv X scope s.heap.objs.size f c')) → PE (lamCx X A outer s H E scope f c') body (t E))
    (hdef : defaultsOf params X.env = ([], []) := by rfl) (hbind : ∀ (q : Str) (cl : List (Str × Addr)) (pm cv ctv : Value), bindArgs (PySem.W.kla_fn "<lambda>" q params body scope cl pm cv ctv) ⟨[], []⟩ = pure [] := by exact fun _ _ _ _ _ => rfl)
    (hdb : (x == ("__debug__" : Str)) = false := by decide) (hd : (a == ("__debug__" : Str)) = false := by decide) (hcd : (a == ("__classdict__" : Str)) = false := by decide) :
    PE X (.Call (.Name x p) [.Lambda params body scope lpos] [] pos) (tLamW T TT t) := by
  constructor
  rintro pins s σ H Q I ⟨hT, h⟩
  refine wpAny_Call_Name_kw (ld_glob I hg D.hm ?_ hdb)
  refine PySem.W.callWith_K (h₀ := X.base) I.ok.mod.kin D.fn.kp ?_ (by rfl) (by rfl)
  refine Calls.spliced_cons (lam_make2 I TB hcode hmT hu hT hdef (L.has I.ok) fun f c' pm' ctv H1 s' I1 eN T1 hf hfn hfr hco => ?_)
  refine Calls.spliced_nil ⟨I1.kIn, ?_⟩
  obtain ⟨oc, od, kV, doc, pm, an, ct, osl, efd, lk⟩ := D.fn.ex
  subst efd
  have ran : codeAny (model X.prog X.w) X.A (.call (.ref g) ⟨[.ref f], []⟩) (CR CX0 X.stack X.prog X.w H1 s' Q E0) s' := by
    refine LamX.run_ofS (N := Ng) (ps := [a]) (us := [.ref f]) (vs := [.ref f]) lk D.fn.cd D.sg hr I1.env0 (D.hb s' [.ref f] I1.kIn rfl) (.cons rfl .nil) rfl fun room => ?_
    obtain ⟨t', ps, run⟩ := hG f c' s' H1 Q (fun E H' Q' => t E σ H' Q') room (fun W pn xe p1 p2 tk => pe_actW (i := 0) I1 L hf hfn hfr (hbind _ _ _ _ _) tk room (fun A outer s H E r => hbody A outer s H E f c' r) D.h0 D.hv hd hcd) hco (h H1 eN T1)
    exact ⟨t', ps.nox, run⟩
  refine wpAny_call (codeAny_mono ran fun r s2 hq => ?_)
  match r, hq with
  | .ok (.ret u), hq => exact I1.after hq
  | .ok .next, hq => exact hq.elim
  | .ok .brk, hq => exact hq.elim
  | .ok .cont, hq => exact hq.elim
  | .error e, hq => exact False.elim hq
end

/-! ### tuples of great ints -/
structure GoodN (L : Nat) (d : PyData) (dep w : Nat) : Prop where
  sh : d.showable = true
  nd : d.hasDict = false
  dp : d.depth ≤ dep
  sl : d.leavesShort L = true
  wt : d.weight ≤ w
theorem GoodN.int {z : Int} (h : z.natAbs < 2 ^ 400) : GoodN 130 (.int z) 0 401 := by
  have hl : z.natAbs.log2 < 400 := PySem.Flt.log2_lt_of (by decide) h
  refine ⟨?_, rfl, Nat.le_refl _, ?_, ?_⟩
  · simp only [PyData.showable, decide_eq_true_eq]
    omega
  · simp only [PyData.leavesShort, PyData.shown]
    have := int_text_length_le10 (a := z) (k := 121) (by decide) (Nat.lt_of_lt_of_le h (by decide))
    refine decide_eq_true ?_
    show (Str.ofString (toString z)).length ≤ 130
    rw [PySem.ofString_length]
    omega
  · simp only [PyData.weight]
    split <;> omega
theorem goodN_all {L k w : Nat} : ∀ {ds : List PyData}, (∀ d ∈ ds, GoodN L d k w) → PyData.showableAll ds = true ∧ PyData.hasDictAll ds = false ∧ PyData.depthAll ds ≤ k ∧ PyData.leavesShortAll L ds = true ∧ PyData.weightAll ds ≤ ds.length * (w + 1)
  | [], _ => ⟨rfl, rfl, Nat.zero_le _, rfl, Nat.zero_le _⟩
  | d :: ds, h => by
    obtain ⟨a1, a2, a3, a4, a5⟩ := goodN_all (ds := ds) fun x hx => h x (List.mem_cons_of_mem _ hx)
    have g := h d List.mem_cons_self
    refine ⟨?_, ?_, ?_, ?_, ?_⟩
    · simp only [PyData.showableAll, g.sh, a1, Bool.and_self]
    · simp only [PyData.hasDictAll, g.nd, a2, Bool.or_self]
    · simp only [PyData.depthAll]
      exact Nat.max_le.mpr ⟨g.dp, a3⟩
    · simp only [PyData.leavesShortAll, g.sl, a4, Bool.and_self]
    · simp only [PyData.weightAll, List.length_cons, Nat.add_mul]
      have := g.wt
      omega
theorem GoodN.tuple {L : Nat} {ds : List PyData} {k w n : Nat} (h : ∀ d ∈ ds, GoodN L d k w) (hn : ds.length ≤ n) : GoodN L (.tuple ds) (k + 1) (n * (w + 1)) := by
  obtain ⟨a1, a2, a3, a4, a5⟩ := goodN_all h
  exact ⟨by simpa only [PyData.showable] using a1, by simpa only [PyData.hasDict] using a2, by simp only [PyData.depth]; omega, by simpa only [PyData.leavesShort] using a4, by simp only [PyData.weight]; exact Nat.le_trans a5 (Nat.mul_le_mul_right _ hn)⟩

/-! ### try: body, except (c, c2) as n: suite; behind it the exception stands among ours -/
/-- the clause of two classes takes it; behind a suite that runs through, the exception at a is kept -/
def wKp2 (K : PySem.W.Frag) (c c2 : Value) (i : Nat) (ts : Addr → Value → Option Addr → TS) (D : Ends) : WX := fun cls d σ H =>
  PySem.W.exmAny K cls [c, c2] = some true ∧ ∀ a, H a = none → ts a cls d { nx := fun σ' H' => D.nx (σ'.set i none) (upd H' a (exk a cls d)), rt := D.rt, bk := fun σ' H' => D.bk (σ'.set i none) H', ct := fun σ' H' => D.ct (σ'.set i none) H' } (σ.set i (some (.ref a))) H
theorem flying_keeps {B h h' : Heap} {l : List Env} {e : Addr} {Z : Obj → Prop} (f : HandSPX.FlyingZ B l e Z h) (kp : ∀ q o, h.get? q = some o → h'.get? q = some o) : HandSPX.FlyingZ B l e Z h' := by
  obtain ⟨f1, f2, f3, oe, vs, T, oT, ts, q1, q2, q3, q4, q5, q6, q7, q8, q9⟩ := f
  exact ⟨fun b o e => kp _ _ (f1 b o e), f2, f3.of_keeps (fun b o e _ => ⟨o, kp _ _ e, rfl⟩), oe, vs, T, oT, ts, kp _ _ q1, q2, q3, q4, q5, q6, kp _ _ q7, q8, q9⟩
section
variable {X : Cx} {x x2 n : Str} {c c2 : Value} {i : Nat} {body suite : List Stmt} {b₀ : Stmt} {np np2 tpos pos pos' : Pos} {kk : Nat} {tb : WX → TS} {ts : Addr → Value → Option Addr → TS}
theorem ps_try_kp2 (hs : X.stack = X.env :: X.outer) (hf : X.env.frame = some X.env.locals) (hx : X.ex = []) (hN : X.N.Nodup) (hi : X.N[i]? = some n) (hln : X.env.kindOf n = some .local) (hc : Names X x c) (hc2 : Names X x2 c2)
    (hb : ∀ (W : WX) (pn : List (Addr × Obj)) (xe : Value → Shared → Prop), Takes (X.tr pn xe) W → PassesOwn (model X.prog X.w) X.A X.env xe → PSs (X.tr pn xe) body (tb W))
    (hsu : ∀ (a : Addr) (oe : Obj) (cls : Value) (d : Option Addr) (pn : List (Addr × Obj)), Zc cls d oe → (∃ vs, oe.data = .fields vs) → PSs (X.suite a ((a, oe) :: pn)) (b₀ :: suite) (ts a cls d)) :
    PS X (.Try body [.ExceptHandler (some (.Tuple [.Name x np, .Name x2 np2] kk tpos)) (some n) (b₀ :: suite) pos'] [] [] pos) (fun D σ H => tb (wKp2 X.K c c2 i ts D) D σ H) := by
  refine ⟨fun pins s σ H D I h => ?_⟩
  have okX := I.ok
  have frm : X.A.frames = some (X.env :: X.outer) := hs ▸ okX.frames
  refine wpAny_Try_except (wpAny_mono ((hb (wKp2 X.K c c2 i ts D) (X.pn ++ pins)
    (fun v t => wpAny (model X.prog X.w) X.A (noteFrame v X.env) (fun _ t1 => wpAny (model X.prog X.w) X.A (setFlight v none)
      (fun _ t2 => wpAny (model X.prog X.w) X.A (handleBy v X.env [.ExceptHandler (some (.Tuple [.Name x np, .Name x2 np2] kk tpos)) (some n) (b₀ :: suite) pos']) (SP X pins D) X.xe t2) X.xe t1) X.xe t)
    (fun v t air => ?air) PassesOwn.looking).run [] s σ H D (I.toTry _) h) (fun fl t q => ?thru) fun _ _ z => z)
  case thru =>
    cases fl with
    | next =>
      obtain ⟨σ1, H1, J, q⟩ := q
      exact wpAny_execs_nil ⟨σ1, H1, J.ofTry okX, q⟩
    | ret v =>
      obtain ⟨v1, σ1, H1, J, r, q⟩ := q
      exact ⟨v1, σ1, H1, J.ofTry okX, r, q⟩
    | brk =>
      obtain ⟨σ1, H1, J, q⟩ := q
      exact ⟨σ1, H1, J.ofTry okX, q⟩
    | cont =>
      obtain ⟨σ1, H1, J, q⟩ := q
      exact ⟨σ1, H1, J.ofTry okX, q⟩
  case air =>
    obtain ⟨a, B, sI, pins1, σ1, H1, cls, d, rfl, J0, nb, up, sky, na, os, ag, hm, hyes⟩ := air
    have J : Inv X pins σ1 H1 sI := J0.ofTry okX
    have sky1 : Sky B (X.env :: X.outer) a (Zc cls d) X.env.locals t.heap := hs ▸ sky
    refine Sky.land Zc.steady frm hf sky1 fun h3 fl3 up3 => ?_
    have J3 : Inv X pins σ1 H1 { t with heap := h3 } := J.landed nb fl3.1 (up.trans up3) os ag
    obtain ⟨oe3, vs3, he3, hz3, hd3⟩ := fl3.there
    have off : ∀ {hh : Heap} {o : Obj} {vs : Array Value}, hh.FunFrames B (X.env :: X.outer) → hh.get? a = some o → o.data = .fields vs → a ∉ frs (X.env :: X.outer) := fun ff e1 e2 hm => by
      obtain ⟨_, o', e3, nf⟩ := ff.mem hm
      rw [e1] at e3
      cases e3
      exact nf _ e2
    have offS := off fl3.2.2.1 he3 hd3
    have nL : a ≠ X.env.locals := fun y => offS (List.mem_filterMap.mpr ⟨X.env, List.mem_cons_self, by rw [hf, y]⟩)
    have nF : a ∉ X.fs := fun hm => by
      obtain ⟨e1, m1, m2⟩ := List.mem_filterMap.mp hm
      exact offS (List.mem_filterMap.mpr ⟨e1, List.mem_cons_of_mem _ m1, m2⟩)
    -- it is new since the entry
    have newI : sI.heap.get? a = none := by
      cases q : sI.heap.get? a with
      | none => rfl
      | some o =>
        have := nb a o q (hs ▸ offS)
        rw [fl3.2.1] at this
        cases this
    have new0 : X.s_0.heap.get? a = none := by
      cases q : X.s_0.heap.get? a with
      | none => rfl
      | some o =>
        obtain ⟨o', q'⟩ := J.base.there a o q (by rw [hx]; simp)
        rw [newI] at q'
        cases q'
    have newP : ∀ p ∈ X.pn ++ pins, p.1 ≠ a := fun p hp y => by
      have := (J.pin p hp).1
      rw [y, newI] at this
      cases this
    have S3 := J3.suite he3 hd3 na nL nF
    refine wpAny_handleBy_cons (codeAny_handlers_test ?_) (by intro q; cases q)
    have look : PySem.W.Looks (model X.prog X.w) h3 (typeOf (.ref a)) cls := fun _ _ _ _ k q => wpAny_typeOf_ref (k _ _ he3) (hz3.1 ▸ q)
    have name : ∀ {x : Str} {c : Value} {np : Pos} {Q : Value → Shared → Prop} {E : Value → Shared → Prop}, Names X x c → Q c { t with heap := h3 } → wpAny (model X.prog X.w) (X.A.mark (some (.ref a))) (eval (.Name x np) X.env) Q E { t with heap := h3 } := fun hc q => by
      obtain ⟨g1, g2, g3 | ⟨g3, g4, g5⟩⟩ := hc
      · exact ld_glob (X := X.suite a ((a, oe3) :: (X.pn ++ pins))) S3 g1 g3 q g2
      · exact ld_blt (X := X.suite a ((a, oe3) :: (X.pn ++ pins))) S3 g1 g3 g4 q g5 g2
    have kp : ∀ q o, h3.get? q = some o → (h3.push { cls := .type "tuple", data := .seq [c, c2].toArray }).get? q = some o := fun _ _ z => Heap.get?_push_of_some _ z
    have upP : h3.UpToSlots (h3.push { cls := .type "tuple", data := .seq [c, c2].toArray }) := fun b o e _ => ⟨o.slots, kp _ _ e⟩
    have flP := flying_keeps fl3 kp
    have LM := PySem.W.exm_tup2 (M := model X.prog X.w) (J3.kIn.keeps kp) (look.keeps kp) (Heap.get?_push_size h3 rfl) hm
    refine wpAny_Tuple ?_
    refine wpAny_items_cons (name hc ?_)
    refine wpAny_items_cons (name hc2 ?_)
    refine wpAny_items_nil ⟨Nat.le_trans (Nat.le_refl 2) (by decide), ?_⟩
    refine LM.here (codeAny_handlers_suite_as (HandSPX.lands_againZ flP fun h4 fl4 up4 => ?_))
    have J4 : Inv X pins σ1 H1 { t with heap := h4 } := J.landed nb fl4.1 (((up.trans up3).trans upP).trans up4) os ag
    obtain ⟨oe4, vs4, he4, hz4, hd4⟩ := fl4.there
    have S4 := J4.suite he4 hd4 na nL nF
    refine store_ok (X := X.suite a ((a, oe4) :: (X.pn ++ pins))) (v := .ref a) S4 hN hi (.inl hln) rfl (fun s5 S5 => ?_) (.inr hln)
    refine wpAny_mono ((hsu a oe4 cls d (X.pn ++ pins) hz4 ⟨_, hd4⟩).run [] s5 _ H1 _ S5 (hyes a na)) (fun fl s6 q => ?_) (fun _ _ z => z.elim)
    have leave : ∀ {σ6 : L2.St} {H6 : Hp} {Q : Shared → Prop}, Inv (X.suite a ((a, oe4) :: (X.pn ++ pins))) [] σ6 H6 s6 → (∀ s7, Inv (X.suite a ((a, oe4) :: (X.pn ++ pins))) [] (σ6.set i none) H6 s7 → Q s7) →
        wpAny (model X.prog X.w) X.A (do bindName X.env n .none; unbindBehindTheSuite X.env n pos') (fun _ s7 => Q s7) X.xe s6 := fun S6 g => gone_ok (X := X.suite a ((a, oe4) :: (X.pn ++ pins))) S6 hN hi hln g
    cases fl with
    | next =>
      obtain ⟨σ6, H6, S6, q6⟩ := q
      refine leave S6 fun s7 S7 => ⟨_, _, ?_, q6⟩
      obtain ⟨p1, p2, p3, _⟩ := S7.pin (a, oe4) (List.mem_append_left _ List.mem_cons_self)
      exact Inv.track (S7.unsuite okX) p1 hz4 hd4 p2 nL new0 newP
    | brk =>
      obtain ⟨σ6, H6, S6, q6⟩ := q
      exact leave S6 fun s7 S7 => ⟨_, _, S7.unsuite okX, q6⟩
    | cont =>
      obtain ⟨σ6, H6, S6, q6⟩ := q
      exact leave S6 fun s7 S7 => ⟨_, _, S7.unsuite okX, q6⟩
    | ret u =>
      obtain ⟨v6, σ6, H6, S6, r6, q6⟩ := q
      exact leave S6 fun s7 S7 => ⟨_, _, _, S7.unsuite okX, r6, q6⟩
end

/-! ### a comprehension with two fors -/
section
variable {K : PySem.W.Frag} {σ : SS} {H : Hp} {Q : VK} {g g1 : TG} {te : TE} {ta : TA} {tt tt1 : TT} {wi1 : TI} {vs vs1 : List Nat}
/-- the inner walk's own loop, over J1; what is found goes behind the list at D; at its end Nx -/
def WI (J1 : It) (g1 : TG) (tt1 : TT) (te : TE) (vs1 : List Nat) (σ : SS) (D : Addr) (H : Hp) (Nx : Hp → Prop) : Prop := ∃ W1 : Nat → Nat → Hp → Prop, (∃ m, W1 0 m H) ∧ ∀ j k H, W1 j k H →
  (J1.stop j H ∧ Nx H) ∨ (J1.go j H ∧ ∃ Nx1 : Hp → Prop, (∀ H', Nx1 H' → ∃ k', k' < k ∧ W1 (j + 1) k' H') ∧ ∀ x H', J1.yld j H x H' → g1 x (wipe σ vs1) H' fun σ3 H5 => wipe σ3 vs1 = wipe σ vs1 ∧ tt1 σ3 H5 fun b H6 =>
    if b = true then te σ3 H6 fun y H7 => ∃ acc, H7 D = some (.lst acc) ∧ acc.length < sizeLine ∧ Nx1 (upd H7 D (.lst (acc ++ [y]))) else Nx1 H6)
def WC2 (J : It) (g : TG) (tt : TT) (wi1 : TI) (g1 : TG) (tt1 : TT) (te : TE) (vs vs1 : List Nat) (σ : SS) (H : Hp) (Q : VK) : Prop := ∀ D, H D = none → ∃ W : Nat → Nat → Hp → Prop, (∃ m, W 0 m (upd H D (.lst []))) ∧ ∀ i m H, W i m H →
  (J.stop i H ∧ Q (.ref D) H) ∨ (J.go i H ∧ ∃ Nx : Hp → Prop, (∀ H', Nx H' → ∃ m', m' < m ∧ W (i + 1) m' H') ∧ ∀ x H', J.yld i H x H' → g x (wipe σ vs) H' fun σ2 H2 => wipe σ2 vs = wipe σ vs ∧ tt σ2 H2 fun b H3 =>
    if b = true then wi1 σ2 H3 fun J1 H4 => WI J1 g1 tt1 te vs1 σ2 D H4 Nx else Nx H3)
theorem x_lc2 {wi : TI} (q : wi σ H fun J H1 => WC2 J g tt wi1 g1 tt1 te vs vs1 σ H1 Q) : tLc2 wi g tt wi1 g1 tt1 te vs vs1 σ H Q := q
def AskC2 (n : Nat) (G : Hp → Prop) (Y : Nat → Hp → V → Hp → Prop) (g : TG) (tt : TT) (wi1 : TI) (g1 : TG) (tt1 : TT) (te : TE) (vs vs1 : List Nat) (σ : SS) (H : Hp) (Q : VK) : Prop :=
  ∀ D, H D = none → ∃ Pv : Nat → Hp → Prop, Pv 0 (upd H D (.lst [])) ∧ (∀ i H, i ≤ n → Pv i H → G H) ∧
    (∀ i x H H', i < n → Pv i H → Y i H x H' → g x (wipe σ vs) H' fun σ2 H2 => wipe σ2 vs = wipe σ vs ∧ tt σ2 H2 fun b H3 =>
      if b = true then wi1 σ2 H3 fun J1 H4 => WI J1 g1 tt1 te vs1 σ2 D H4 (Pv (i + 1)) else Pv (i + 1) H3) ∧ ∀ H, Pv n H → Q (.ref D) H
def AskI (n : Nat) (G : Hp → Prop) (Y : Nat → Hp → V → Hp → Prop) (g1 : TG) (tt1 : TT) (te : TE) (vs1 : List Nat) (σ : SS) (D : Addr) (H : Hp) (Nx : Hp → Prop) : Prop :=
  ∃ Pv : Nat → Hp → Prop, Pv 0 H ∧ (∀ i H, i ≤ n → Pv i H → G H) ∧
    (∀ i x H H', i < n → Pv i H → Y i H x H' → g1 x (wipe σ vs1) H' fun σ2 H2 => wipe σ2 vs1 = wipe σ vs1 ∧ tt1 σ2 H2 fun b H3 =>
      if b = true then te σ2 H3 fun y H4 => ∃ acc, H4 D = some (.lst acc) ∧ acc.length < sizeLine ∧ Pv (i + 1) (upd H4 D (.lst (acc ++ [y]))) else Pv (i + 1) H3) ∧ ∀ H, Pv n H → Nx H
theorem askC2 {J : It} {n : Nat} {G : Hp → Prop} {Y : Nat → Hp → V → Hp → Prop} (w : Walk J n G Y) (q : AskC2 n G Y g tt wi1 g1 tt1 te vs vs1 σ H Q) : WC2 J g tt wi1 g1 tt1 te vs vs1 σ H Q := by
  intro D hD
  obtain ⟨Pv, h0, hG, hs, hd⟩ := q D hD
  refine ⟨fun i m H1 => (m = n - i ∧ i ≤ n) ∧ Pv i H1, ⟨n, ⟨by simp, Nat.zero_le _⟩, h0⟩, ?_⟩
  rintro i m H1 ⟨⟨e, hi⟩, p⟩
  have gd := hG i H1 hi p
  rcases Nat.lt_or_ge i n with lt | ge
  · exact .inr ⟨w.goes i H1 lt gd, Pv (i + 1), fun H' p' => ⟨n - (i + 1), by omega, ⟨rfl, lt⟩, p'⟩, fun x H' y => hs i x H1 H' lt p (w.yields i H1 x H' lt gd y)⟩
  · obtain rfl : i = n := by omega
    exact .inl ⟨w.stops H1 gd, hd H1 p⟩
theorem askI {J1 : It} {n : Nat} {G : Hp → Prop} {Y : Nat → Hp → V → Hp → Prop} {D : Addr} {Nx : Hp → Prop} (w : Walk J1 n G Y) (q : AskI n G Y g1 tt1 te vs1 σ D H Nx) : WI J1 g1 tt1 te vs1 σ D H Nx := by
  obtain ⟨Pv, h0, hG, hs, hd⟩ := q
  refine ⟨fun i m H1 => (m = n - i ∧ i ≤ n) ∧ Pv i H1, ⟨n, ⟨by simp, Nat.zero_le _⟩, h0⟩, ?_⟩
  rintro i m H1 ⟨⟨e, hi⟩, p⟩
  have gd := hG i H1 hi p
  rcases Nat.lt_or_ge i n with lt | ge
  · exact .inr ⟨w.goes i H1 lt gd, Pv (i + 1), fun H' p' => ⟨n - (i + 1), by omega, ⟨rfl, lt⟩, p'⟩, fun x H' y => hs i x H1 H' lt p (w.yields i H1 x H' lt gd y)⟩
  · obtain rfl : i = n := by omega
    exact .inl ⟨w.stops H1 gd, hd H1 p⟩
variable {a : Addr} {xs : List V}
theorem y_lc2L (h : SqL K H a xs) (q : AskC2 xs.length (fun H => SqL K H a xs) (YA xs) g tt wi1 g1 tt1 te vs vs1 σ H Q) : ∃ b, V.ref a = .ref b ∧ (∃ xs, SqL K H b xs) ∧ WC2 (Itl K b) g tt wi1 g1 tt1 te vs vs1 σ H Q := ⟨a, rfl, ⟨xs, h⟩, askC2 walk_list q⟩
theorem y_lc2E (h : SqL K H a xs) (q : AskC2 xs.length (fun H => SqL K H a xs) (YE xs) g tt wi1 g1 tt1 te vs vs1 σ H Q) : ∃ b ys, [V.ref a] = [.ref b] ∧ SqL K H b ys ∧ WC2 (Ite K b) g tt wi1 g1 tt1 te vs vs1 σ H Q := ⟨a, xs, rfl, h, askC2 walk_enum q⟩
theorem y_lc2ET (h : SqT K H a xs) (q : AskC2 xs.length (fun H => SqT K H a xs) (YE xs) g tt wi1 g1 tt1 te vs vs1 σ H Q) : ∃ b ys, [V.ref a] = [.ref b] ∧ SqT K H b ys ∧ WC2 (IteT K b) g tt wi1 g1 tt1 te vs vs1 σ H Q := ⟨a, xs, rfl, h, askC2 walk_enumT q⟩
theorem y_inET {D : Addr} {Nx : Hp → Prop} (h : SqT K H a xs) (q : AskI xs.length (fun H => SqT K H a xs) (YE xs) g1 tt1 te vs1 σ D H Nx) : ∃ b ys, [V.ref a] = [.ref b] ∧ SqT K H b ys ∧ WI (IteT K b) g1 tt1 te vs1 σ D H Nx := ⟨a, xs, rfl, h, askI walk_enumT q⟩
theorem y_inT {D : Addr} {Nx : Hp → Prop} (h : SqT K H a xs) (q : AskI xs.length (fun H => SqT K H a xs) (YA xs) g1 tt1 te vs1 σ D H Nx) : ∃ b, V.ref a = .ref b ∧ (∃ xs, SqT K H b xs) ∧ WI (Itt K b) g1 tt1 te vs1 σ D H Nx := ⟨a, rfl, ⟨xs, h⟩, askI walk_tup q⟩
theorem y_inR1 {D : Addr} {Nx : Hp → Prop} {j : Int} (h0 : 0 ≤ j) (h1 : j < 1000000) (q : AskI j.toNat (fun _ => True) (YFn fun i => .int (0 + i)) g1 tt1 te vs1 σ D H Nx) : -(2 ^ 62) ≤ j ∧ j < 2 ^ 62 ∧ WI (Itr 0 j.toNat) g1 tt1 te vs1 σ D H Nx :=
  ⟨by omega, by omega, askI walk_range q⟩
theorem y_inL {D : Addr} {Nx : Hp → Prop} (h : SqL K H a xs) (q : AskI xs.length (fun H => SqL K H a xs) (YA xs) g1 tt1 te vs1 σ D H Nx) : ∃ b, V.ref a = .ref b ∧ (∃ xs, SqL K H b xs) ∧ WI (Itl K b) g1 tt1 te vs1 σ D H Nx := ⟨a, rfl, ⟨xs, h⟩, askI walk_list q⟩
end
theorem pi_enumTK {X : Cx} {K : PySem.W.Frag} {e : Expr} {ta : TA} {p pos tpos : Pos} {elts : List Expr} {kk : Nat} (hg : Gl X "enumerate") (hm : X.mg "enumerate" = none) (ha : PA X [e] ta) (hs : starEach [e] X.env = [(false, eval e X.env)] := by rfl) (eK : X.K = K := by rfl) : PI X (.Tuple elts kk tpos) (.Call (.Name "enumerate" p) [e] [] pos) (iEnumT K ta) := eK ▸ pi_enumT hg hm ha hs
/-! ### list.count of truths; list.index of one -/
section
variable {X : Cx}
def rCountB (K : PySem.W.Frag) : V → List V → Hp → VK → Prop := fun x xs H Q => ∃ (a : Addr) (bs : List Bool) (b : Bool), x = .ref a ∧ xs = [.bl b] ∧ SqL K H a (bs.map V.bl) ∧ Q (.int ((bs.count b : Nat) : Int)) H
theorem dp_bls {K : PySem.W.Frag} {H : Hp} : ∀ bs : List Bool, DpAll K H (bs.map V.bl) (bs.map PyData.bool)
  | [] => .nil
  | b :: r => .cons (.bl b) (dp_bls r)
theorem plain_bls : ∀ bs : List Bool, PyData.plainAll (bs.map PyData.bool) = true
  | [] => rfl
  | b :: r => by simp only [List.map_cons, PyData.plainAll, PyData.plain, Bool.true_and]; exact plain_bls r
theorem depth_bls : ∀ bs : List Bool, PyData.depthAll (bs.map PyData.bool) = 0
  | [] => rfl
  | b :: r => by simp only [List.map_cons, PyData.depthAll, PyData.depth, depth_bls r]; rfl
theorem countP_bls (b : Bool) : ∀ bs : List Bool, ((bs.map PyData.bool).countP fun y => PyData.eqv y (.bool b)) = bs.count b
  | [] => rfl
  | c :: r => by
    rw [List.map_cons, List.countP_cons, List.count_cons, countP_bls b r]
    cases b <;> cases c <;> rfl
theorem mt_countB (hu : X.A.units + 64 < cLine) : MtR X "list.count" (rCountB X.K) := by
  intro pins s σ H x xs v us Q I rx rxs h
  obtain ⟨a, bs, b, rfl, rfl, hs, q⟩ := h
  cases rx
  obtain ⟨u, rfl, ru⟩ := rxs.one
  obtain ⟨its, rv, ⟨⟨cls, dd, data, sls⟩, n, ho, hc, hdn, hdt⟩, hlen⟩ := I.list hs
  simp only at hc hdt
  subst hc hdt
  obtain ⟨as, r1⟩ := Dp.reads I (.bool b) (.bl b) u (.bl b) ru
  obtain ⟨as2, r2⟩ := Dp.readsAll I _ _ its (dp_bls bs) rv
  refine SeqAt.count_list_data (vs := its.toArray) ⟨_, ho, rfl, n, rfl⟩ (show ReadsAll s.heap its.toArray.toList _ _ from r2) r1 (plain_bls bs) rfl (by rw [depth_bls]; simp only [Nat.zero_min, PyData.depth]; omega) ?_
  rw [countP_bls]
  exact ⟨.int _, H, I.kept (t' := s.toks + 1) fun _ _ z => z, ⟨_, rfl⟩, q⟩
end

/-! ### tuple.index of ints that are there -/
section
variable {X : Cx}
theorem intsAre_of : ∀ {ns : List Int} {us : List Value}, Vals (ns.map V.int) us → IntsAre us ns
  | [], _, .nil => .nil
  | z :: r, _, .cons h t => by
    obtain ⟨k, rfl⟩ := h
    exact .cons z k (intsAre_of t)
def rTupIdx (K : PySem.W.Frag) : V → List V → Hp → VK → Prop := fun x xs H Q => ∃ (p : Addr) (ns : List Int) (k : Int), x = .ref p ∧ xs = [.int k] ∧ SqT K H p (ns.map V.int) ∧ k ∈ ns ∧ Q (.int (ns.idxOf k : Nat)) H
theorem mt_tupIdx : MtR X "tuple.index" (rTupIdx X.K) := by
  intro pins s σ H x xs v us Q I rx rxs h
  obtain ⟨p, ns, k, rfl, rfl, hs, hk, q⟩ := h
  cases rx
  cases rxs with
  | cons ry rt =>
    cases rt
    obtain ⟨t, rfl⟩ := ry
    obtain ⟨its, rv, ht, hlen⟩ := I.tuple hs
    exact PySem.SeqAt.tuple_index_ints ht (intsAre_of rv) hk ⟨.int (ns.idxOf k : Nat), H, I.tok _, ⟨_, rfl⟩, q⟩
end
section
variable {X : Cx} {a b : Expr} {rest : List Expr} {pos : Pos} {ta tb : TE}
theorem pe_orTK {K : PySem.W.Frag} (ha : PE X a ta) (hb : PE X (.BoolOp .Or (b :: rest) pos) tb) (e : X.K = K := by rfl) : PE X (.BoolOp .Or (a :: b :: rest) pos) (tOrT K ta tb) := e ▸ pe_orT ha hb
theorem pe_andTK {K : PySem.W.Frag} (ha : PE X a ta) (hb : PE X (.BoolOp .And (b :: rest) pos) tb) (e : X.K = K := by rfl) : PE X (.BoolOp .And (a :: b :: rest) pos) (tAndT K ta tb) := e ▸ pe_andT ha hb
end
theorem sl_tupAK {X : Cx} {K : PySem.W.Frag} (e : X.K = K := by rfl) : SlR X (rSlA K) := e ▸ sl_tupA
theorem x_isiTupA {K : PySem.W.Frag} {H : Hp} {Q : VK} {a : Addr} {xs : List V} (h : SqT K H a xs) (q : Q (.bl true) H) : rIsi K [.ref a, .ty "tuple"] H Q := x_isi (b := true) (tyT h) (kit_ty (by decide +kernel)) q
theorem x_isiStrA {K : PySem.W.Frag} {H : Hp} {Q : VK} {x : Str} (q : Q (.bl true) H) : rIsi K [.str x, .ty "str"] H Q := x_isi (b := true) (.base (.str x)) (kit_ty (by decide +kernel)) q
theorem x_tupIdx {K : PySem.W.Frag} {H : Hp} {Q : VK} {p : Addr} {ns : List Int} {k : Int} (h : SqT K H p (ns.map V.int)) (hk : k ∈ ns) (q : Q (.int (ns.idxOf k : Nat)) H) : rTupIdx K (.ref p) [.int k] H Q := ⟨p, ns, k, rfl, rfl, h, hk, q⟩

/-! ### sorted(t), t a tuple of ints -/
section
variable {prog : Program} {w : World} {A : Around} {E : Value → Shared → Prop} {s : Shared}
/-- the list that a walk over a tuple makes first -/
theorem gather_tup {t : Addr} {vs : List Value} {Q : List Value → Shared → Prop} (ht : s.heap.IsTuple t vs.toArray) (hz : vs.length ≤ sizeLine)
    (q : ∀ h', (∀ b o, s.heap.get? b = some o → h'.get? b = some o) → Q vs { s with heap := h' }) : wpAny (model prog w) A (collect (.ref t)) Q E s := by
  obtain ⟨o, ho, hc, n, hd⟩ := id ht
  have kp : (s.heap.push (seqObj "list" #[] 0)).get? t = some o := Heap.get?_push_of_some _ ho
  have nw : (s.heap.push (seqObj "list" #[] 0)).get? s.heap.objs.size = some (seqObj "list" #[] 0) := Heap.get?_push_size _ rfl
  have tt : (Value.type "tuple" == Value.type "tuple") = true := by rfl
  unfold collect
  refine wpAny_bind (wpAny_runValue (codeAny_builtin entry_proto_collect' (show wpAny _ _ (do again (.builtin "list.__iadd__" ⟨[← newList [], .ref t], []⟩)) _ _ s from
    wpAny_bind (wpAny_newList (wpAny_pure ⟨Code.quiet_builtin _ (by decide +kernel), codeAny_builtin entry_list_iadd'
      (show wpAny _ _ (Builtin.List.listExtendWith (.ref s.heap.objs.size) (.ref t) (.ref s.heap.objs.size)) _ _ { s with heap := s.heap.push (seqObj "list" #[] 0) } from ?_)⟩)))))
  unfold Builtin.List.listExtendWith
  refine wpAny_bind (wpAny_typeOf (T := "tuple") ⟨o, kp, hc⟩ ?_)
  rw [if_pos (by rw [tt]; simp)]
  refine wpAny_bind (listItems_at kp hd (wpAny_bind (listItems_at nw rfl ?_)))
  rw [if_neg (by simp)]
  refine wpAny_bind (listUpdate_at nw rfl (wpAny_pure ?_) (Nat.zero_le _) (by show (#[] ++ vs.toArray).size ≤ sizeLine + 1; simp only [Array.size_append, List.size_toArray, List.length_nil]; omega))
  show wpAny (model prog w) A (load s.heap.objs.size >>= fun o => match o.data with | .seq xs _ => pure xs.toList | _ => unsupported "internal:collect") Q E { s with heap := (s.heap.push (seqObj "list" #[] 0)).update s.heap.objs.size (Obj.mapSeq (· ++ vs.toArray)) }
  refine wpAny_bind (wpAny_load (get?_update_seq nw _) ?_)
  show wpAny _ _ (pure ((#[] : Array Value) ++ vs.toArray).toList) Q E _
  have e : ((#[] : Array Value) ++ vs.toArray).toList = vs := by simp
  rw [e]
  refine wpAny_pure (q _ fun b o' e' => ?_)
  rw [Heap.get?_update_other _ _ (Ne.symm (Nat.ne_of_lt (Heap.lt_size e')))]
  exact Heap.get?_push_of_some _ e'
end
section
variable {X : Cx}
def rSortedTup (K : PySem.W.Frag) : List V → Hp → VK → Prop := fun xs H Q => ∃ (a : Addr) (ks : List Int), xs = [.ref a] ∧ SqT K H a (ks.map V.int) ∧
    ∀ (ns : List Int) (p : Addr), ns.Perm ks → ns.Pairwise (· ≤ ·) → H p = none → Q (.ref p) (upd H p (.lst (ns.map V.int)))
theorem cr_sortedTup : CallR X (.builtin "sorted") (rSortedTup X.K) := by
  intro pins s σ H xs us Q I r q
  obtain ⟨a, ks, rfl, ht, q⟩ := q
  obtain ⟨its, rv, htup, hz0⟩ := I.tuple ht
  rw [Vals.ref1 r]
  have hal : its.length = ks.length := by rw [← rv.length, List.length_map]
  have hz : its.length ≤ sizeLine := by rw [← rv.length]; exact hz0
  refine Calls.call_function_entry PyProof.Rows.kind_sorted PyProof.Rows.plain_sorted PyProof.Rows.entry_sorted (PyProof.Rows.args_sorted1 _) ?_
  unfold Builtin.«sorted»
  refine wpAny_bind (m := checkCount "sorted" 1 1 _) (wpAny_pure (wpAny_bind (gather_tup htup hz fun h' hk => ?_)))
  have hi := rv.ints
  have I1 : Inv X pins σ H { s with heap := h', toks := s.toks } := I.kept hk
  refine wpAny_bind (wpAny_newList ?_ hz)
  have hoL : (h'.push (PyProof.Rows.seqObj "list" its.toArray 0)).get? h'.objs.size = some (PyProof.Rows.seqObj "list" its.toArray 0) := Heap.get?_push_size _ rfl
  show wpAny _ _ _ _ _ { s with heap := h'.push (PyProof.Rows.seqObj "list" its.toArray 0), toks := s.toks }
  refine wpAny_bind (wpAny_holding (wpAny_call_entry PyProof.Rows.slot_list_sort ⟨_, hoL, rfl⟩ PyProof.Rows.entry_list_sort
    (SrtO.list_sort_ord SrtO.swo_int hoL hz (fun h2 => SrtO.ints_sortable hi h2) fun out h1 h2 => ⟨_, rfl, ?_⟩) (PyProof.Rows.args_list_sort _)))
  obtain ⟨k1, k2, k3⟩ := SrtO.ints_out hi h1 h2
  obtain ⟨e', he'⟩ := PyProof.Rows.sortedHeap_at (vs := its) (out := out.toArray) hoL
  have hlen : ((out.map SrtO.iv).map V.int).length ≤ sizeLine := by
    rw [List.length_map, k2.length_eq, ← hal]
    exact hz
  refine wpAny_pure ⟨_, rfl, .ref h'.objs.size, upd H h'.objs.size (.lst ((out.map SrtO.iv).map V.int)), I1.laid (t' := s.toks) (fun b u e => ?_) (Nat.le_refl _)
    (show ObjOk X.prog X.w _ _ _ (.lst ((out.map SrtO.iv).map V.int)) from ⟨hlen, out, e', vals_of_ints k1, he'⟩), rfl, q _ _ k2 k3 (I1.hok.fresh (Nat.le_refl _))⟩
  have hb : b < h'.objs.size := Heap.lt_size e
  rw [PyProof.Rows.sortedHeap_old (Nat.ne_of_lt hb) (by rw [size_push']; exact Nat.lt_succ_of_lt hb)]
  exact Heap.get?_push_of_some _ e
end
theorem x_sortedTup {K : PySem.W.Frag} {H : Hp} {Q : VK} {a : Addr} {ks : List Int} (h : SqT K H a (ks.map V.int)) (q : ∀ (ns : List Int) (p : Addr), ns.Perm ks → ns.Pairwise (· ≤ ·) → H p = none → Q (.ref p) (upd H p (.lst (ns.map V.int)))) : rSortedTup K [.ref a] H Q := ⟨a, ks, rfl, h, q⟩

local macro_rules | `(tactic| walk_at "lk") => `(tactic| first
  | assumption
  | exact upd_same
  | (refine' lk_ne ?h (by assumption); (case h => walk_at "lk"))
  | (refine' lk_ne2 ?n ?h; (case n => walk_at "ne"); (case h => walk_at "lk"))
  | (refine' lk_keep (by assumption) ?n ?h; (case n => walk_at "nin"); (case h => walk_at "lk")))
local macro_rules | `(tactic| walk_at "ne") => `(tactic| first
  | assumption
  | exact Ne.symm (by assumption))
local macro_rules | `(tactic| walk_at "nin") => `(tactic| first
  | assumption
  | (simp only [List.mem_cons, List.not_mem_nil, or_false, not_or, not_false_eq_true, and_true]; (repeat' apply And.intro); all_goals walk_at "ne"))
local macro_rules | `(tactic| walk_at "lkL") => `(tactic| first
  | assumption
  | (refine' SqL.of ?h; (case h => walk_at "lk"))
  | (refine' Kx.sqL ?k ?n ?h; (case k => walk_at "kx"); (case n => walk_at "nin"); (case h => walk_at "lkL")))
local macro_rules | `(tactic| walk_at "kx") => `(tactic| first
  | assumption
  | (refine' Kx.new ?k ?n; (case n => assumption); (case k => first | walk_at "kx" | exact Kx.refl [] _)))
local macro_rules | `(tactic| walk_at "lkT") => `(tactic| first
  | assumption
  | (refine' SqT.of ?h; (case h => walk_at "lk"))
  | (refine' FT.seq ?h; (case h => assumption))
  | (refine' Kx.sqT ?k ?n ?h; (case k => walk_at "kx"); (case n => walk_at "nin"); (case h => walk_at "lkT")))
local macro_rules | `(tactic| walk_at "sz") => `(tactic| first
  | exact Nat.zero_le _
  | (show (_ : Nat) ≤ sizeLine; decide)
  | (refine Nat.le_of_lt (small1000 ?h); (case h => first | omega | (simp; done) | (simp; omega))))
local macro_rules | `(tactic| walk_at "at") => `(tactic| first
  | exact rfl
  | assumption)
local macro_rules | `(tactic| walk_at "side") => `(tactic| first
  | assumption
  | (show (0 : Int) < _; first | decide | omega)
  | exact Or.inl ⟨by omega, by omega⟩
  | exact Or.inr ⟨by omega, by omega⟩
  | exact ⟨by omega, by omega⟩
  | exact ⟨by decide, by decide, by decide⟩
  | exact ⟨by decide, by decide, natAbs_lt (by omega) (by omega)⟩
  | exact small1000 (by first | omega | (simp; done) | (simp; omega))
  | omega)
local macro_rules | `(tactic| walk_at "rd") => `(tactic| dsimp only)
local macro_rules | `(tactic| walk_at "rd") => `(tactic| ((with_reducible refine' x_c  ?_)))
local macro_rules | `(tactic| walk_at "rd") => `(tactic| ((with_reducible refine' x_op  ?_)))
local macro_rules | `(tactic| walk_at "rd") => `(tactic| ((with_reducible refine' x_un  ?_)))
local macro_rules | `(tactic| walk_at "rd") => `(tactic| ((with_reducible refine' x_I0  ?_)))
local macro_rules | `(tactic| walk_at "rd") => `(tactic| ((with_reducible refine' x_U  ?_)))
local macro_rules | `(tactic| walk_at "rd") => `(tactic| ((with_reducible refine' x_isN  ?_)))
local macro_rules | `(tactic| walk_at "rd") => `(tactic| ((with_reducible refine' x_notN  ?_)))
local macro_rules | `(tactic| walk_at "rd") => `(tactic| ((with_reducible refine' x_nil  ?_)))
local macro_rules | `(tactic| walk_at "rd") => `(tactic| ((with_reducible refine' x_cons  ?_)))
local macro_rules | `(tactic| walk_at "rd") => `(tactic| ((with_reducible refine' x_lst  ?_)))
local macro_rules | `(tactic| walk_at "rd") => `(tactic| ((with_reducible refine' x_tup  ?_)))
local macro_rules | `(tactic| walk_at "rd") => `(tactic| ((with_reducible refine' x_tupF  ?_)))
local macro_rules | `(tactic| walk_at "rd") => `(tactic| ((with_reducible refine' x_CB  ?_)))
local macro_rules | `(tactic| walk_at "rd") => `(tactic| ((with_reducible refine' x_call  ?_)))
local macro_rules | `(tactic| walk_at "rd") => `(tactic| ((with_reducible refine' x_test  ?_)))
local macro_rules | `(tactic| walk_at "rd") => `(tactic| ((with_reducible refine' x_bl  ?_)))
local macro_rules | `(tactic| walk_at "rd") => `(tactic| ((with_reducible refine' x_B  ?_)))
local macro_rules | `(tactic| walk_at "rd") => `(tactic| ((with_reducible refine' x_andV  ?_)))
local macro_rules | `(tactic| walk_at "rd") => `(tactic| ((with_reducible refine' x_orV  ?_)))
local macro_rules | `(tactic| walk_at "rd") => `(tactic| ((with_reducible refine' x_notV  ?_)))
local macro_rules | `(tactic| walk_at "rd") => `(tactic| ((with_reducible refine' x_and  ?_)))
local macro_rules | `(tactic| walk_at "rd") => `(tactic| ((with_reducible refine' x_or  ?_)))
local macro_rules | `(tactic| walk_at "rd") => `(tactic| ((with_reducible refine' x_not  ?_)))
local macro_rules | `(tactic| walk_at "rd") => `(tactic| ((with_reducible refine' x_if  ?_)))
local macro_rules | `(tactic| walk_at "rd") => `(tactic| ((with_reducible refine' x_sl  ?_)))
local macro_rules | `(tactic| walk_at "rd") => `(tactic| ((with_reducible refine' x_no  ?_)))
local macro_rules | `(tactic| walk_at "rd") => `(tactic| ((with_reducible refine' x_part  ?_)))
local macro_rules | `(tactic| walk_at "rd") => `(tactic| ((with_reducible refine' x_int  ?_)))
local macro_rules | `(tactic| walk_at "rd") => `(tactic| ((with_reducible refine' x_seq  ?_)))
local macro_rules | `(tactic| walk_at "rd") => `(tactic| ((with_reducible refine' x_next  ?_)))
local macro_rules | `(tactic| walk_at "rd") => `(tactic| ((with_reducible refine' x_brk  ?_)))
local macro_rules | `(tactic| walk_at "rd") => `(tactic| ((with_reducible refine' x_cont  ?_)))
local macro_rules | `(tactic| walk_at "rd") => `(tactic| ((with_reducible refine' x_drop  ?_)))
local macro_rules | `(tactic| walk_at "rd") => `(tactic| ((with_reducible refine' x_ret  ?_)))
local macro_rules | `(tactic| walk_at "rd") => `(tactic| ((with_reducible refine' x_retN  ?_)))
local macro_rules | `(tactic| walk_at "rd") => `(tactic| ((with_reducible refine' x_asg  ?_)))
local macro_rules | `(tactic| walk_at "rd") => `(tactic| ((with_reducible refine' x_gnil  ?_)))
local macro_rules | `(tactic| walk_at "rd") => `(tactic| ((with_reducible refine' x_gcons  ?_)))
local macro_rules | `(tactic| walk_at "rd") => `(tactic| ((with_reducible refine' x_gsub  ?_)))
local macro_rules | `(tactic| walk_at "rd") => `(tactic| ((with_reducible refine' x_par  ?_)))
local macro_rules | `(tactic| walk_at "rd") => `(tactic| ((with_reducible refine' x_ifS  ?_)))
local macro_rules | `(tactic| walk_at "rd") => `(tactic| ((with_reducible refine' x_ipI  ?_)))
local macro_rules | `(tactic| walk_at "rd") => `(tactic| ((with_reducible refine' x_augS  ?_)))
local macro_rules | `(tactic| walk_at "rd") => `(tactic| ((with_reducible refine' x_abs  ?_)))
local macro_rules | `(tactic| walk_at "rd") => `(tactic| ((with_reducible refine' x_toI  ?_)))
local macro_rules | `(tactic| walk_at "rd") => `(tactic| ((with_reducible refine' x_toIb  ?_)))
local macro_rules | `(tactic| walk_at "rd") => `(tactic| ((with_reducible refine' x_min2  ?_)))
local macro_rules | `(tactic| walk_at "rd") => `(tactic| ((with_reducible refine' x_bm  ?_)))
local macro_rules | `(tactic| walk_at "rd") => `(tactic| ((with_reducible refine' x_bm0  ?_)))
local macro_rules | `(tactic| walk_at "rd") => `(tactic| ((with_reducible refine' x_bmF  ?_)))
local macro_rules | `(tactic| walk_at "rd") => `(tactic| ((with_reducible refine' x_lrg  ?_)))
local macro_rules | `(tactic| walk_at "rd") => `(tactic| ((with_reducible refine' x_yes  ?_)))
local macro_rules | `(tactic| walk_at "rd") => `(tactic| ((with_reducible refine' x_rg1  ?_)))
local macro_rules | `(tactic| walk_at "rd") => `(tactic| ((with_reducible refine' x_for  ?_)))
local macro_rules | `(tactic| walk_at "rd") => `(tactic| ((with_reducible refine' x_lc  ?_)))
local macro_rules | `(tactic| walk_at "rd") => `(tactic| ((with_reducible refine' x_iL  ?_)))
local macro_rules | `(tactic| walk_at "rd") => `(tactic| ((with_reducible refine' x_iT  ?_)))
local macro_rules | `(tactic| walk_at "rd") => `(tactic| ((with_reducible refine' x_iR1  ?_)))
local macro_rules | `(tactic| walk_at "rd") => `(tactic| ((with_reducible refine' x_iR2  ?_)))
local macro_rules | `(tactic| walk_at "rd") => `(tactic| ((with_reducible refine' x_iE  ?_)))
local macro_rules | `(tactic| walk_at "rd") => `(tactic| ((with_reducible refine' x_iET  ?_)))
local macro_rules | `(tactic| walk_at "rd") => `(tactic| ((with_reducible refine' x_name  ?_); try simp only [List.set_cons_zero, List.set_cons_succ]))
local macro_rules | `(tactic| walk_at "rd") => `(tactic| ((with_reducible refine' x_new ?s0 ?_); (case s0 => walk_at "sz"); intro _ _))
local macro_rules | `(tactic| walk_at "rd") => `(tactic| ((with_reducible refine' x_newF ?s0 ?_); (case s0 => walk_at "sz"); intro _ _ _ _ _))
local macro_rules | `(tactic| walk_at "rd") => `(tactic| ((with_reducible refine' x_iteT  ?_)))
local macro_rules | `(tactic| walk_at "rd") => `(tactic| ((with_reducible refine' x_iteF  ?_)))
local macro_rules | `(tactic| walk_at "rd") => `(tactic| ((with_reducible refine' x_neNil ?s0 ?s1 ?_); (case s0 => walk_at "lkL"); (case s1 => walk_at "lkL")))
local macro_rules | `(tactic| walk_at "rd") => `(tactic| ((with_reducible refine' x_two  ?_); try simp only [List.set_cons_zero, List.set_cons_succ]))
local macro_rules | `(tactic| walk_at "rd") => `(tactic| ((with_reducible refine' x_getL ?s0 ?s1 ?_); (case s0 => walk_at "lkL"); (case s1 => walk_at "at")))
local macro_rules | `(tactic| walk_at "rd") => `(tactic| ((with_reducible refine' x_var ?s0 ?_); (case s0 => exact rfl)))
local macro_rules | `(tactic| walk_at "rd") => `(tactic| ((with_reducible refine' x_eq ?s0 ?_); (case s0 => exact rfl)))
local macro_rules | `(tactic| walk_at "rd") => `(tactic| ((with_reducible refine' x_ne ?s0 ?_); (case s0 => exact rfl)))
local macro_rules | `(tactic| walk_at "rd") => `(tactic| ((with_reducible refine' x_I ?s0 ?_); (case s0 => walk_at "side")))
local macro_rules | `(tactic| walk_at "rd") => `(tactic| ((with_reducible refine' x_ixL ?s0 ?s1 ?_); (case s0 => walk_at "lkL"); (case s1 => walk_at "at")))
local macro_rules | `(tactic| walk_at "rd") => `(tactic| ((with_reducible refine' x_ixT ?s0 ?s1 ?_); (case s0 => walk_at "lkT"); (case s1 => walk_at "at")))
local macro_rules | `(tactic| walk_at "rd") => `(tactic| ((with_reducible refine' x_slL ?s0 ?_); (case s0 => walk_at "lkL")))
local macro_rules | `(tactic| walk_at "rd") => `(tactic| ((with_reducible refine' x_gtup ?s0 ?s1 ?_); (case s0 => walk_at "lkT"); (case s1 => exact rfl)))
local macro_rules | `(tactic| walk_at "rd") => `(tactic| ((with_reducible refine' x_setL ?s0 ?s1 ?_); (case s0 => walk_at "lk"); (case s1 => walk_at "at"); try simp only [Int.reduceToNat, List.set]))
local macro_rules | `(tactic| walk_at "rd") => `(tactic| ((with_reducible refine' x_aug ?s0 ?_); (case s0 => exact rfl)))
local macro_rules | `(tactic| walk_at "rd") => `(tactic| ((with_reducible refine' x_lenS ?s0 ?_); (case s0 => walk_at "lkL")))
local macro_rules | `(tactic| walk_at "rd") => `(tactic| ((with_reducible refine' x_lenT ?s0 ?_); (case s0 => walk_at "lkT")))
local macro_rules | `(tactic| walk_at "rd") => `(tactic| ((with_reducible refine' x_tupS ?s0 ?_); (case s0 => walk_at "lkL")))
local macro_rules | `(tactic| walk_at "rd") => `(tactic| ((with_reducible refine' x_tupF1 ?s0 ?_); (case s0 => walk_at "lkL")))
local macro_rules | `(tactic| walk_at "rd") => `(tactic| ((with_reducible refine' x_insert ?s0 ?s1 ?s2 ?s3 ?_); (case s0 => walk_at "lk"); (case s1 => walk_at "side"); (case s2 => walk_at "side"); (case s3 => walk_at "side")))
local macro_rules | `(tactic| walk_at "rd") => `(tactic| ((with_reducible refine' x_append ?s0 ?s1 ?_); (case s0 => walk_at "lk"); (case s1 => walk_at "side")))
local macro_rules | `(tactic| walk_at "rd") => `(tactic| ((with_reducible refine' x_reverse ?s0 ?_); (case s0 => walk_at "lk")))
local macro_rules | `(tactic| walk_at "rd") => `(tactic| ((with_reducible refine' x_dc  ?_)))
local macro_rules | `(tactic| walk_at "rd") => `(tactic| ((with_reducible refine' x_while  ?_)))
local macro_rules | `(tactic| walk_at "rd") => `(tactic| ((with_reducible refine' x_din  ?_)))
local macro_rules | `(tactic| walk_at "rd") => `(tactic| ((with_reducible refine' x_dnotin  ?_)))
local macro_rules | `(tactic| walk_at "rd") => `(tactic| ((with_reducible refine' x_dput  ?_)))
local macro_rules | `(tactic| walk_at "rd") => `(tactic| ((with_reducible refine' x_dget  ?_)))
local macro_rules | `(tactic| walk_at "rd") => `(tactic| ((with_reducible refine' x_pop ?s0 ?s1 ?_); (case s0 => walk_at "lk"); (case s1 => walk_at "at")))
local macro_rules | `(tactic| walk_at "rd") => `(tactic| ((with_reducible refine' x_dgI ?s0 ?_); (case s0 => walk_at "lk")))
local macro_rules | `(tactic| walk_at "rd") => `(tactic| ((with_reducible refine' x_dpI ?s0 ?s1 ?_); (case s0 => walk_at "lk"); (case s1 => walk_at "side")))
local macro_rules | `(tactic| walk_at "rd") => `(tactic| ((with_reducible refine' x_listD ?s0 ?_); (case s0 => walk_at "lk"); intro _ _))
local macro_rules | `(tactic| walk_at "rd") => `(tactic| ((with_reducible refine' x_truthL ?s0 ?_); (case s0 => walk_at "lkL")))
local macro_rules | `(tactic| walk_at "rd") => `(tactic| ((with_reducible refine' x_inL ?s0 ?s1 ?s2 ?_); (case s0 => walk_at "lkL"); (case s1 => exact rfl); (case s2 => first | assumption | exact flat_ints _)))
local macro_rules | `(tactic| walk_at "rd") => `(tactic| ((with_reducible refine' x_notInL ?s0 ?s1 ?s2 ?_); (case s0 => walk_at "lkL"); (case s1 => exact rfl); (case s2 => first | assumption | exact flat_ints _)))
local macro_rules | `(tactic| walk_at "rd") => `(tactic| ((with_reducible refine' x_kw  ?_)))
local macro_rules | `(tactic| walk_at "rd") => `(tactic| ((with_reducible refine' x_ckw  ?_)))
local macro_rules | `(tactic| walk_at "rd") => `(tactic| ((with_reducible refine' x_iR3  ?_)))
local macro_rules | `(tactic| walk_at "rd") => `(tactic| ((with_reducible refine' x_par3  ?_); try simp only [List.set_cons_zero, List.set_cons_succ]))
local macro_rules | `(tactic| walk_at "rd") => `(tactic| ((with_reducible refine' x_three  ?_); try simp only [List.set_cons_zero, List.set_cons_succ]))
local macro_rules | `(tactic| walk_at "rd") => `(tactic| ((with_reducible refine' x_orT  ?_)))
local macro_rules | `(tactic| walk_at "rd") => `(tactic| ((with_reducible refine' x_truN  ?_)))
local macro_rules | `(tactic| walk_at "rd") => `(tactic| ((with_reducible refine' x_truT ?s0 ?_); (case s0 => walk_at "lkT")))
local macro_rules | `(tactic| walk_at "rd") => `(tactic| ((with_reducible refine' x_glst ?s0 ?s1 ?_); (case s0 => walk_at "lkL"); (case s1 => exact rfl)))
local macro_rules | `(tactic| walk_at "rd") => `(tactic| ((with_reducible refine' x_chain  ?_)))
local macro_rules | `(tactic| walk_at "rd") => `(tactic| ((with_reducible refine' x_isiII  ?_)))
local macro_rules | `(tactic| walk_at "rd") => `(tactic| ((with_reducible refine' x_isiIB  ?_)))
local macro_rules | `(tactic| walk_at "rd") => `(tactic| ((with_reducible refine' x_revL  ?_)))
local macro_rules | `(tactic| walk_at "rd") => `(tactic| ((with_reducible refine' x_kwx  ?_)))
local macro_rules | `(tactic| walk_at "rd") => `(tactic| ((with_reducible refine' x_rg2  ?_)))
local macro_rules | `(tactic| walk_at "rd") => `(tactic| ((with_reducible refine' x_int2  ?_)))
local macro_rules | `(tactic| walk_at "rd") => `(tactic| ((with_reducible refine' x_dget2  ?_)))
def topS (i : Nat) : Stmt := PySem.Challenge.pw_slotfall_k18_nodes_freed_and_kept.main.body.getD i (.Pass ⟨0, 0, 0, 0⟩)
abbrev sWall : Stmt := topS 0
theorem scWall : FnScope ["k"] ["k"] (defScope sWall) := ⟨rfl, rfl, rfl, by decide +kernel, rfl, by decide +kernel, by decide +kernel⟩
abbrev sNoNodeInit : Stmt := inClass (topS 3) 0
theorem scNoNodeInit : FnScope ["self", "node"] ["self", "node"] (defScope sNoNodeInit) := ⟨rfl, rfl, rfl, by decide +kernel, rfl, by decide +kernel, by decide +kernel⟩
abbrev sNoReferenceInit : Stmt := inClass (topS 4) 0
theorem scNoReferenceInit : FnScope ["self", "node"] ["self", "node"] (defScope sNoReferenceInit) := ⟨rfl, rfl, rfl, by decide +kernel, rfl, by decide +kernel, by decide +kernel⟩
abbrev sNoSlotInit : Stmt := inClass (topS 5) 0
theorem scNoSlotInit : FnScope ["self", "slot"] ["self", "slot"] (defScope sNoSlotInit) := ⟨rfl, rfl, rfl, by decide +kernel, rfl, by decide +kernel, by decide +kernel⟩
abbrev sNotFreedInit : Stmt := inClass (topS 6) 0
theorem scNotFreedInit : FnScope ["self", "node"] ["self", "node"] (defScope sNotFreedInit) := ⟨rfl, rfl, rfl, by decide +kernel, rfl, by decide +kernel, by decide +kernel⟩
abbrev sNoPositionInit : Stmt := inClass (topS 7) 0
theorem scNoPositionInit : FnScope ["self", "position"] ["self", "position"] (defScope sNoPositionInit) := ⟨rfl, rfl, rfl, by decide +kernel, rfl, by decide +kernel, by decide +kernel⟩
abbrev sUndoErrorInit : Stmt := inClass (topS 8) 0
theorem scUndoErrorInit : FnScope ["self", "count"] ["self", "count"] (defScope sUndoErrorInit) := ⟨rfl, rfl, rfl, by decide +kernel, rfl, by decide +kernel, by decide +kernel⟩
abbrev sIsInteger : Stmt := topS 10
theorem scIsInteger : FnScope ["value"] ["value"] (defScope sIsInteger) := ⟨rfl, rfl, rfl, by decide +kernel, rfl, by decide +kernel, by decide +kernel⟩
abbrev sIsBetween : Stmt := topS 11
theorem scIsBetween : FnScope ["value", "low", "high"] ["value", "low", "high"] (defScope sIsBetween) := ⟨rfl, rfl, rfl, by decide +kernel, rfl, by decide +kernel, by decide +kernel⟩
abbrev sIsLive : Stmt := topS 13
theorem scIsLive : FnScope ["heap", "value", "slots"] ["heap", "value"] (defScope sIsLive) := ⟨rfl, rfl, rfl, by decide +kernel, rfl, by decide +kernel, by decide +kernel⟩
abbrev sNeedLive : Stmt := topS 14
theorem scNeedLive : FnScope ["heap", "node"] ["heap", "node"] (defScope sNeedLive) := ⟨rfl, rfl, rfl, by decide +kernel, rfl, by decide +kernel, by decide +kernel⟩
abbrev sNeedReference : Stmt := topS 15
theorem scNeedReference : FnScope ["heap", "node"] ["heap", "node"] (defScope sNeedReference) := ⟨rfl, rfl, rfl, by decide +kernel, rfl, by decide +kernel, by decide +kernel⟩
abbrev sLiveNodes : Stmt := topS 17
theorem scLiveNodes : FnScope ["heap", "node", "row"] ["heap"] (defScope sLiveNodes) := ⟨rfl, rfl, rfl, by decide +kernel, rfl, by decide +kernel, by decide +kernel⟩
abbrev sCounts : Stmt := topS 18
theorem scCounts : FnScope ["heap", "slots", "outside", "uses", "node", "row"] ["heap"] (defScope sCounts) := ⟨rfl, rfl, rfl, by decide +kernel, rfl, by decide +kernel, by decide +kernel⟩
abbrev sSlotUses : Stmt := topS 19
theorem scSlotUses : FnScope ["slots", "uses", "row", "held"] ["slots"] (defScope sSlotUses) := ⟨rfl, rfl, rfl, by decide +kernel, rfl, by decide +kernel, by decide +kernel⟩
abbrev sReleasingInit : Stmt := inClass (topS 21) 0
theorem scReleasingInit : FnScope ["self", "heap", "limit", "row"] ["self", "heap", "limit"] (defScope sReleasingInit) := ⟨rfl, rfl, rfl, by decide +kernel, rfl, by decide +kernel, by decide +kernel⟩
abbrev sReleasingDrop : Stmt := inClass (topS 21) 1
theorem scReleasingDrop : FnScope ["self", "node", "taken"] ["self", "node"] (defScope sReleasingDrop) := ⟨rfl, rfl, rfl, by decide +kernel, rfl, by decide +kernel, by decide +kernel⟩
abbrev sReleasingPut : Stmt := inClass (topS 21) 2
theorem scReleasingPut : FnScope ["self", "node", "slot", "target"] ["self", "node", "slot", "target"] (defScope sReleasingPut) := ⟨rfl, rfl, rfl, by decide +kernel, rfl, by decide +kernel, by decide +kernel⟩
abbrev sReleasingEmpty : Stmt := inClass (topS 21) 3
theorem scReleasingEmpty : FnScope ["self", "node"] ["self", "node"] (defScope sReleasingEmpty) := ⟨rfl, rfl, rfl, by decide +kernel, rfl, by decide +kernel, by decide +kernel⟩
abbrev sReleasingResult : Stmt := inClass (topS 21) 4
theorem scReleasingResult : FnScope ["self", "log", "peak", "rows", "event", "row"] ["self"] (defScope sReleasingResult) := ⟨rfl, rfl, rfl, by decide +kernel, rfl, by decide +kernel, by decide +kernel⟩
abbrev sReleasingSpared : Stmt := inClass (topS 21) 5
theorem scReleasingSpared : FnScope ["self"] ["self"] (defScope sReleasingSpared) := ⟨rfl, rfl, rfl, by decide +kernel, rfl, by decide +kernel, by decide +kernel⟩
abbrev sReleasingReleaseAll : Stmt := inClass (topS 21) 6
theorem scReleasingReleaseAll : FnScope ["self", "holder", "slot", "node", "depth"] ["self"] (defScope sReleasingReleaseAll) := ⟨rfl, rfl, rfl, by decide +kernel, rfl, by decide +kernel, by decide +kernel⟩
abbrev sReleasingRelease : Stmt := inClass (topS 21) 7
theorem scReleasingRelease : FnScope ["self", "holder", "slot", "node", "depth", "left"] ["self", "holder", "slot", "node", "depth"] (defScope sReleasingRelease) := ⟨rfl, rfl, rfl, by decide +kernel, rfl, by decide +kernel, by decide +kernel⟩
abbrev sReleasingDestroy : Stmt := inClass (topS 21) 8
theorem scReleasingDestroy : FnScope ["self", "node", "depth", "row", "slot"] ["self", "node", "depth"] (defScope sReleasingDestroy) := ⟨rfl, rfl, rfl, by decide +kernel, rfl, by decide +kernel, by decide +kernel⟩
abbrev sRunDrop : Stmt := topS 23
theorem scRunDrop : FnScope ["heap", "node", "limit", "work"] ["heap", "node", "limit"] (defScope sRunDrop) := ⟨rfl, rfl, rfl, by decide +kernel, rfl, by decide +kernel, by decide +kernel⟩
abbrev sDrop : Stmt := topS 25
theorem scDrop : FnScope ["heap", "node", "limit"] ["heap", "node", "limit"] (defScope sDrop) := ⟨rfl, rfl, rfl, by decide +kernel, rfl, by decide +kernel, by decide +kernel⟩
abbrev sFreed : Stmt := topS 28
theorem scFreed : FnScope ["heap", "node"] ["heap", "node"] (defScope sFreed) := ⟨rfl, rfl, rfl, by decide +kernel, rfl, by decide +kernel, by decide +kernel⟩
abbrev sKept : Stmt := topS 29
theorem scKept : FnScope ["heap", "node"] ["heap", "node"] (defScope sKept) := ⟨rfl, rfl, rfl, by decide +kernel, rfl, by decide +kernel, by decide +kernel⟩
abbrev sQPen : Stmt := topS 31
theorem scQPen : FnScope ["_law_script"] ["_law_script"] (defScope sQPen) := ⟨rfl, rfl, rfl, by decide +kernel, rfl, by decide +kernel, by decide +kernel⟩
abbrev sQDraw : Stmt := topS 32
theorem scQDraw : FnScope ["_law_pen_here", "_law_bound", "_law_digit", "_law_at", "_law_cell", "_law_great", "_law_mixed"] ["_law_pen_here", "_law_bound"] (defScope sQDraw) := ⟨rfl, rfl, rfl, by decide +kernel, rfl, by decide +kernel, by decide +kernel⟩
abbrev sQOrder : Stmt := topS 33
theorem scQOrder : FnScope ["_law_pen_here", "_law_size_here", "_law_left", "_law_k"] ["_law_pen_here", "_law_size_here"] (defScope sQOrder) := ⟨rfl, rfl, rfl, by decide +kernel, rfl, by decide +kernel, by decide +kernel⟩
abbrev sQSize : Stmt := topS 34
theorem scQSize : FnScope ["_law_pen_here", "_law_most", "_law_way"] ["_law_pen_here", "_law_most"] (defScope sQSize) := ⟨rfl, rfl, rfl, by decide +kernel, rfl, by decide +kernel, by decide +kernel⟩
abbrev sQLinks : Stmt := topS 35
theorem scQLinks : FnScope ["_law_pen_here", "_law_size_here", "_law_way", "_law_deep", "_law_k", "_law_rows", "_law_v", "_law_holder", "_law_row", "_law_a", "_law_b"] ["_law_pen_here", "_law_size_here"] (defScope sQLinks) := ⟨rfl, rfl, rfl, by decide +kernel, rfl, by decide +kernel, by decide +kernel⟩
abbrev sQHeap : Stmt := topS 36
theorem scQHeap : FnScope ["_law_pen_here", "_law_most", "_law_size_here", "_law_rows", "_law_spare", "_law_names", "_law_slots", "_law_outside", "_law_v", "_law_held"] ["_law_pen_here", "_law_most"] (defScope sQHeap) := ⟨rfl, rfl, rfl, by decide +kernel, rfl, by decide +kernel, by decide +kernel⟩
abbrev sQGone : Stmt := topS 37
theorem scQGone : FnScope ["_law_home", "_law_spot", "_law_rows", "_law_outside", "_law_v", "_law_left", "_law_holding", "_law_found", "_law_grown", "_law_a"] ["_law_home", "_law_spot"] (defScope sQGone) := ⟨rfl, rfl, rfl, by decide +kernel, rfl, by decide +kernel, by decide +kernel⟩
abbrev sQOdd : Stmt := topS 38
theorem scQOdd : FnScope ["_law_pen_here", "_law_home", "_law_size_here", "_law_some", "_law_v"] ["_law_pen_here", "_law_home"] (defScope sQOdd) := ⟨rfl, rfl, rfl, by decide +kernel, rfl, by decide +kernel, by decide +kernel⟩
abbrev sQError : Stmt := topS 39
theorem scQError : FnScope ["_law_ask", "_law_caught", "e"] ["_law_ask"] (defScope sQError) := ⟨rfl, rfl, rfl, by decide +kernel, rfl, by decide +kernel, by decide +kernel⟩
abbrev sQRight : Stmt := topS 40
theorem scQRight : FnScope ["_law_home", "_law_spot", "_law_gone_here", "_law_stay", "_law_turn", "_law_found", "_law_v"] ["_law_home", "_law_spot"] (defScope sQRight) := ⟨rfl, rfl, rfl, by decide +kernel, rfl, by decide +kernel, by decide +kernel⟩
abbrev sQRefused : Stmt := topS 41
theorem scQRefused : FnScope ["_law_pen_here", "_law_home", "_law_found", "_law_bare", "_law_odd_here", "_law_spot", "_law_v"] ["_law_pen_here", "_law_home"] (defScope sQRefused) := ⟨rfl, rfl, rfl, by decide +kernel, rfl, by decide +kernel, by decide +kernel⟩
abbrev sLaw : Stmt := topS 42
theorem scLaw : FnScope ["_law_script", "_law_pen_here", "_law_most", "_law_home", "_law_spot", "_law_state", "_law_v", "_law_others", "_law_spots", "_law_found", "_law_empty", "_law_odd_here", "_law_k"] ["_law_script"] (defScope sLaw) := ⟨rfl, rfl, rfl, by decide +kernel, rfl, by decide +kernel, by decide +kernel⟩
theorem boot'_ValueError : bootBuiltins "ValueError" = some (.type "ValueError") := by decide +kernel
theorem boot'_LookupError : bootBuiltins "LookupError" = some (.type "LookupError") := by decide +kernel

structure Txt (mg : Str → Option Value) : Prop where
  b_len : mg "len" = none
  b_LookupError : mg "LookupError" = none
  b_ValueError : mg "ValueError" = none
  b_set : mg "set" = none
  b_zip : mg "zip" = none
  b_str : mg "str" = none
  b_abs : mg "abs" = none
  b_int : mg "int" = none
  b_bool : mg "bool" = none
  b_list : mg "list" = none
  b_tuple : mg "tuple" = none
  b_min : mg "min" = none
  b_max : mg "max" = none
  b_sum : mg "sum" = none
  b_any : mg "any" = none
  b_all : mg "all" = none
  b_repr : mg "repr" = none
  b_sorted : mg "sorted" = none
  b_isinstance : mg "isinstance" = none
  b_range : mg "range" = none
  b_enumerate : mg "enumerate" = none

/-- the pen at p over the cells at c: at most n cells drawn -/
def PenAt (H : Hp) (p c : Addr) (n : Nat) : Prop := ∃ (cs : List Int) (pl r : Int), H p = some (.lst [.ref c, .int pl, .int r]) ∧ H c = some (.lst (cs.map V.int)) ∧ cs.length ≤ 63 ∧ 0 ≤ pl ∧ pl ≤ n ∧ 0 ≤ r
theorem PenAt.ne {H : Hp} {p c : Addr} {n : Nat} (h : PenAt H p c n) : c ≠ p := by
  obtain ⟨cs, pl, r, h1, h2, _⟩ := h
  rintro rfl
  rw [h1] at h2
  have e := HO.lst.inj (Option.some.inj h2)
  cases cs with
  | nil => cases e
  | cons z t => cases (List.cons.inj e).1
def spDraw : Sp := fun vs H Q _ => ∃ (p c : Addr) (n : Nat) (m : Int), vs = [.ref p, .int m] ∧ PenAt H p c n ∧ n < 1000000 ∧ 0 < m ∧ m < 1073741824 ∧
  ∀ d H', 0 ≤ d → d < m → Kx [p] H H' → PenAt H' p c (n + 1) → Q (.int d) H'
theorem at_mod {cs : List Int} (i : Int) (h : ¬ (!cs.isEmpty) = false) : (0 : Int) < (cs.map V.int).length ∧ ∃ z, atI (cs.map V.int) (i % ((cs.map V.int).length : Int)) = some (.int z) := by
  have hl : 0 < cs.length := by
    cases cs with
    | nil => exact absurd rfl h
    | cons z t => exact Nat.succ_pos _
  have h0 : (0 : Int) < (cs.map V.int).length := by
    rw [List.length_map]
    omega
  refine ⟨h0, ?_⟩
  have h1 := Int.emod_nonneg i (Int.ne_of_gt h0)
  have h2 := Int.emod_lt_of_pos i h0
  generalize i % ((cs.map V.int).length : Int) = k at h1 h2
  rw [List.length_map] at h2
  obtain ⟨j, rfl⟩ : ∃ j : Nat, k = j := ⟨k.toNat, by omega⟩
  have hj : j < cs.length := by omega
  exact ⟨cs[j], atI_nat (by rw [List.getElem?_map, List.getElem?_eq_getElem hj]; rfl)⟩
theorem draw_bound {a pl : Int} (h0 : 0 ≤ a) (h1 : a < 2147483647) (h2 : 0 ≤ pl) (h3 : pl ≤ 1000000) : (a * (2 * pl + 17) + 90011).natAbs < 2 ^ 64 := by
  have e1 : 0 ≤ a * (2 * pl + 17) := Int.mul_nonneg h0 (by omega)
  have e2 : a * (2 * pl + 17) ≤ 2147483647 * 2000017 := Int.mul_le_mul (by omega) (by omega) (by omega) (by decide)
  generalize a * (2 * pl + 17) = x at e1 e2
  omega
theorem draw_bound1 {a pl : Int} (h0 : 0 ≤ a) (h1 : a < 2147483587) (h2 : 0 ≤ pl) (h3 : pl ≤ 1000000) : (a + 40009 * pl + 6007 * pl * pl + 13).natAbs < 2 ^ 64 := by
  have e3 : 0 ≤ 6007 * pl * pl := Int.mul_nonneg (by omega) h2
  have e4 : 6007 * pl * pl ≤ 6007 * 1000000 * 1000000 := Int.mul_le_mul (by omega) (by omega) (by omega) (by decide)
  generalize 6007 * pl * pl = y at e3 e4
  omega
section Xtra
local macro_rules | `(tactic| walk_at "side") => `(tactic| exact ⟨by decide, by decide, draw_bound (Int.emod_nonneg _ (by decide)) (Int.emod_lt_of_pos _ (by decide)) (by assumption) (by omega)⟩)
local macro_rules | `(tactic| walk_at "side") => `(tactic| exact ⟨by decide, by decide, draw_bound1 (Int.emod_nonneg _ (by decide)) (Int.emod_lt_of_pos _ (by decide)) (by assumption) (by omega)⟩)
section
variable {P : Program} {w : World} {K : PySem.W.Frag} {mg : Str → Option Value} {base : Heap}

theorem ok_draw {f : Addr} {fd : FuncData} (F : Fun K "_law_draw" "_law_draw" sQDraw f fd) (T : Txt mg) : FnOk P w K mg base CX0 1 f fd ["_law_pen_here", "_law_bound"] spDraw := by
  refine F.ok scQDraw (fun vs H Q E h => ?_) (fun cdv A outer s H vs Q E hr h => ?_)
  · obtain ⟨p, c, n, m, rfl, _⟩ := h
    rfl
  · obtain ⟨p, c, n, m, rfl, hpen, hn, hm0, hm1, k⟩ := h
    have ncp := hpen.ne
    obtain ⟨cs, pl, r, hp, hcs, hl, h0, h1, h2⟩ := hpen
    refine ⟨_, (pss_cons (ps_if (pt_cmpR op_gt (pe_ix ix_list (pv 0) pe_int (fun _ _ => rfl)) pe_int (nomark _)) (pss_cons (ps_set (i := 2) scQDraw.nd rfl (Or.inl rfl) (pe_op op_mod (pe_ix ix_list (pv 0) pe_int (fun _ _ => rfl)) (pv 1)))
      (pss_cons (ps_asg (pe_op op_fdiv (pe_ix ix_list (pv 0) pe_int (fun _ _ => rfl)) (pv 1)) (pg_sub (pv 0) pe_int set_list))
      (pss_one (ps_ret (pv 2))))) pss_nil)
      (pss_cons (ps_set (i := 3) scQDraw.nd rfl (Or.inl rfl) (pe_ix ix_list (pv 0) pe_int (fun _ _ => rfl)))
      (pss_cons (ps_asg (pe_op op_add (pv 3) pe_int) (pg_sub (pv 0) pe_int set_list))
      (pss_cons (ps_set (i := 4) scQDraw.nd rfl (Or.inl rfl) (pe_op op_add (pe_op op_mul pe_int (pv 3)) pe_int))
      (pss_cons (ps_if (pt_cmpR (op_neD hr.units) (pe_ix ix_list (pv 0) pe_int (fun _ _ => rfl)) (pe_lst pa_nil) (nomark _)) (pss_one (ps_set (i := 4) scQDraw.nd rfl (Or.inl rfl) (pe_ix ix_list (pe_ix ix_list (pv 0) pe_int (fun _ _ => rfl)) (pe_op op_mod (pv 3) (pe_callB call_len_seq (by rfl) T.b_len boot'_len (pa_cons (pe_ix ix_list (pv 0) pe_int (fun _ _ => rfl)) pa_nil))) (fun _ _ => rfl)))) pss_nil)
      (pss_cons (ps_if (PW.pt (pw_and (pt_cmpR op_lt (pv 3) (pe_callB call_len_seq (by rfl) T.b_len boot'_len (pa_cons (pe_ix ix_list (pv 0) pe_int (fun _ _ => rfl)) pa_nil)) (nomark _)) (pw_and1 (pt_cmpR op_ge (pe_callB call_abs (by rfl) T.b_abs boot'_abs (pa_cons (pv 4) pa_nil)) (pe_op op_pow pe_int pe_int) (nomark _))))) (pss_cons (ps_set (i := 5) scQDraw.nd rfl (Or.inl rfl) (pe_op op_add (pe_op op_mul pe_int (pe_op op_sub (pe_callB call_abs (by rfl) T.b_abs boot'_abs (pa_cons (pv 4) pa_nil)) (pe_op op_pow pe_int pe_int))) (pe_callTy call_int1 (by rfl) T.b_int boot'_int (pa_cons (pe_cmpR op_lt (pv 4) pe_int (nomark _)) pa_nil))))
      (pss_cons (ps_asg (pe_op op_fdiv (pv 5) (pv 1)) (pg_sub (pv 0) pe_int set_list))
      (pss_one (ps_ret (pe_op op_mod (pv 5) (pv 1)))))) pss_nil)
      (pss_cons (ps_set (i := 6) scQDraw.nd rfl (Or.inl rfl) (pe_op op_mod (pe_op op_pow (pe_op op_add (pe_op op_add (pe_op op_add (pe_op op_mod (pv 4) pe_int) (pe_op op_mul pe_int (pv 3))) (pe_op op_mul (pe_op op_mul pe_int (pv 3)) (pv 3))) pe_int) pe_int) pe_int))
      (pss_cons (ps_set (i := 6) scQDraw.nd rfl (Or.inl rfl) (pe_op op_mod (pe_op op_pow (pe_op op_add (pe_op op_mul (pv 6) (pe_op op_add (pe_op op_mul pe_int (pv 3)) pe_int)) pe_int) pe_int) pe_int))
      (pss_one (ps_ret (pe_op op_mod (pe_op op_fdiv (pv 6) pe_int) (pv 1)))))))))))), ?_⟩
    refine x_start (σ' := [some (.ref p), some (.int m), none, none, none, none, none]) rfl ?_
    try dsimp only [cxOf]
    have fin : ∀ d H1 pl' r', 0 ≤ d → d < m → Kx [p] H H1 → H1 p = some (.lst [.ref c, .int pl', .int r']) → 0 ≤ pl' → pl' ≤ pl + 1 → 0 ≤ r' → Q (.int d) H1 := by
      intro d H1 pl' r' a1 a2 a3 a4 a5 a6 a7
      exact k d H1 a1 a2 a3 ⟨cs, pl', r', a4, a3 c _ (by simpa using ncp) hcs, hl, a5, by omega, a7⟩
    have kx : ∀ o, Kx [p] H (upd H p o) := fun o => (Kx.refl _ _).wr (.inr (by simp))
    repeat walk_at "rd"
    refine ite2 (fun hc => ?_) (fun hc => ?_)
    · repeat walk_at "rd"
      exact fin _ _ pl (r / m) (Int.emod_nonneg _ (by omega)) (Int.emod_lt_of_pos _ hm0) (kx _) upd_same h0 (by omega) (Int.ediv_nonneg h2 (by omega))
    · repeat walk_at "rd"
      generalize hH1 : upd H p (.lst [.ref c, .int (pl + 1), .int r]) = H1
      rename_i q nq
      rw [hH1] at nq
      have p1 : H1 p = some (.lst [.ref c, .int (pl + 1), .int r]) := by rw [← hH1]; exact upd_same
      have k1 : Kx [p] H H1 := by rw [← hH1]; exact kx _
      generalize hH2 : upd H1 q (.lst []) = H2
      have p2 : H2 p = some (.lst [.ref c, .int (pl + 1), .int r]) := by rw [← hH2]; exact lk_ne p1 nq
      have c2 : H2 c = some (.lst (cs.map V.int)) := by rw [← hH2]; exact lk_ne (k1 c _ (by simpa using ncp) hcs) nq
      have q2 : H2 q = some (.lst []) := by rw [← hH2]; exact upd_same
      have k2 : Kx [p] H H2 := by rw [← hH2]; exact k1.new nq
      repeat walk_at "rd"
      refine ite2 (fun hc2 => ?_) (fun hc2 => ?_)
      · obtain ⟨hz0, z, hz⟩ := at_mod (cs := cs) pl (by simpa using hc2)
        repeat walk_at "rd"
        refine ite2 (fun hc3 => ?_) (fun hc3 => ?_)
        · repeat walk_at "rd"
          refine ite2 (fun hc4 => ?_) (fun hc4 => ?_)
          · have hc5 := of_decide_eq_true hc4
            repeat walk_at "rd"
            refine fin _ _ (pl + 1) _ (Int.emod_nonneg _ (by omega)) (Int.emod_lt_of_pos _ hm0) (k2.wr (.inr (by simp))) upd_same (by omega) (by omega) (Int.ediv_nonneg ?_ (by omega))
            have h18 : (10 : Int) ^ (18 : Int).toNat = 1000000000000000000 := by decide
            split <;> omega
          · repeat walk_at "rd"
            exact fin _ _ (pl + 1) r (Int.emod_nonneg _ (by omega)) (Int.emod_lt_of_pos _ hm0) k2 p2 (by omega) (by omega) h2
        · repeat walk_at "rd"
          exact fin _ _ (pl + 1) r (Int.emod_nonneg _ (by omega)) (Int.emod_lt_of_pos _ hm0) k2 p2 (by omega) (by omega) h2
      · repeat walk_at "rd"
        refine ite2 (fun hc3 => ?_) (fun hc3 => ?_)
        · repeat walk_at "rd"
          refine ite2 (fun hc4 => ?_) (fun hc4 => ?_)
          · have hc5 := of_decide_eq_true hc4
            repeat walk_at "rd"
            refine fin _ _ (pl + 1) _ (Int.emod_nonneg _ (by omega)) (Int.emod_lt_of_pos _ hm0) (k2.wr (.inr (by simp))) upd_same (by omega) (by omega) (Int.ediv_nonneg ?_ (by omega))
            have h18 : (10 : Int) ^ (18 : Int).toNat = 1000000000000000000 := by decide
            split <;> omega
          · repeat walk_at "rd"
            exact fin _ _ (pl + 1) r (Int.emod_nonneg _ (by omega)) (Int.emod_lt_of_pos _ hm0) k2 p2 (by omega) (by omega) h2
        · repeat walk_at "rd"
          exact fin _ _ (pl + 1) r (Int.emod_nonneg _ (by omega)) (Int.emod_lt_of_pos _ hm0) k2 p2 (by omega) (by omega) h2
end

end Xtra


section
variable {P : Program} {w : World} {K : PySem.W.Frag} {mg : Str → Option Value} {base : Heap}

def spPen (K : PySem.W.Frag) : Sp := fun vs H Q _ => ∃ (a : Addr) (ns : List Int), vs = [.ref a] ∧ SqL K H a (ns.map V.int) ∧
  ∀ p c H', H p = none → H c = none → Kx [] H H' → PenAt H' p c 0 → Q (.ref p) H'
theorem ok_pen {f : Addr} {fd : FuncData} (F : Fun K "_law_pen" "_law_pen" sQPen f fd) (T : Txt mg) : FnOk P w K mg base CX0 1 f fd ["_law_script"] (spPen K) := by
  refine F.ok scQPen (fun vs H Q E h => ?_) (fun cdv A outer s H vs Q E hr h => ?_)
  · obtain ⟨a, ns, rfl, _⟩ := h
    rfl
  · obtain ⟨a, ns, rfl, ha, k⟩ := h
    refine ⟨_, (pss_one (ps_ret (pe_lst (pa_cons (pe_callTy call_list_of (by rfl) T.b_list boot'_list (pa_cons (pe_slice sl_list (pv 0) po_none (po_some pe_int)) pa_nil)) (pa_cons pe_int (pa_cons pe_int pa_nil)))))), ?_⟩
    refine x_start (σ' := [some (.ref a)]) rfl ?_
    try dsimp only [cxOf]
    repeat walk_at "rd"
    intro t nt
    rw [cut63, ← List.map_take]
    repeat walk_at "rd"
    intro c nc
    repeat walk_at "rd"
    rename_i p np
    have ntc : t ≠ c := ne_of_none upd_same nc
    have ncp : c ≠ p := ne_of_none upd_same np
    have nc0 : H c = none := by rwa [upd_ne ntc.symm] at nc
    have np0 : H p = none := by
      have e1 := np
      rw [upd_ne ncp.symm] at e1
      exact ((Kx.refl [] H).new nt).fresh (by simp) e1
    refine k p c _ np0 nc0 ((((Kx.refl [] H).new nt).new nc).new np) ⟨ns.take 63, 0, 0, upd_same, ?_, ?_, by omega, by omega, by omega⟩
    · rw [upd_ne ncp, upd_same]
    · rw [List.length_take]
      exact Nat.min_le_left _ _
theorem x_draw {H : Hp} {p c : Addr} {n : Nat} {m : Int} {Q : VK} {E : XK} (h : PenAt H p c n) (hn : n < 1000000) (h0 : 0 < m) (h1 : m < 1073741824)
    (q : ∀ d H', 0 ≤ d → d < m → Kx [p] H H' → PenAt H' p c (n + 1) → Q (.int d) H') : spDraw ([V.ref p, V.int m] ++ []) H Q E := ⟨p, c, n, m, rfl, h, hn, h0, h1, q⟩
theorem PenAt.up {H H' : Hp} {p c : Addr} {n m : Nat} (h : PenAt H p c n) (e1 : H' p = H p) (e2 : H' c = H c) (l : n ≤ m) : PenAt H' p c m := by
  obtain ⟨cs, pl, r, h1, h2, h3, h4, h5, h6⟩ := h
  exact ⟨cs, pl, r, e1.trans h1, e2.trans h2, h3, h4, by omega, h6⟩
theorem PenAt.keep {H H' : Hp} {S : List Addr} {p c : Addr} {n m : Nat} (h : PenAt H p c n) (k : Kx S H H') (hp : p ∉ S) (hc : c ∉ S) (l : n ≤ m) : PenAt H' p c m := by
  obtain ⟨cs, pl, r, h1, h2, h3, h4, h5, h6⟩ := h
  exact ⟨cs, pl, r, k _ _ hp h1, k _ _ hc h2, h3, h4, by omega, h6⟩
theorem PenAt.some {H : Hp} {p c : Addr} {n : Nat} (h : PenAt H p c n) : (∃ o, H p = some o) ∧ ∃ o, H c = some o := by
  obtain ⟨cs, pl, r, h1, h2, _⟩ := h
  exact ⟨⟨_, h1⟩, _, h2⟩
theorem penLst {H : Hp} {p c : Addr} {n : Nat} (h : PenAt H p c n) : ∃ xs, H p = some (.lst xs) := by
  obtain ⟨cs, pl, r, h1, h2, _⟩ := h
  exact ⟨_, h1⟩
/-- what is new, or a list that is new since H, may be written -/
theorem PenAt.upd {H : Hp} {p c q : Addr} {o : HO} {n m : Nat} (h : PenAt H p c n) (h1 : q ≠ p) (h2 : q ≠ c) (l : n ≤ m) : PenAt (upd H q o) p c m := h.up (upd_ne h1.symm) (upd_ne h2.symm) l
def spOrder : Sp := fun vs H Q _ => ∃ (p c : Addr) (n N : Nat), vs = [.ref p, .int N] ∧ PenAt H p c n ∧ N ≤ 1000 ∧ n ≤ 900000 ∧
  ∀ l ns H', H l = none → ns.Perm (List.range N) → Kx [p] H H' → H' l = some (.lst (natV ns)) → PenAt H' p c (n + N) → Q (.ref l) H'
theorem ok_order {f : Addr} {fd : FuncData} (F : Fun K "_law_order" "_law_order" sQOrder f fd) (T : Txt mg) (l_law_draw : Lo P w K mg base "_law_draw" 1 ["_law_pen_here", "_law_bound"] spDraw) :
    FnOk P w K mg base CX0 2 f fd ["_law_pen_here", "_law_size_here"] spOrder := by
  refine F.ok scQOrder (fun vs H Q E h => ?_) (fun cdv A outer s H vs Q E hr h => ?_)
  · obtain ⟨p, c, n, N, rfl, _⟩ := h
    rfl
  · obtain ⟨p, c, n, N, rfl, hpen, hN, hn, k⟩ := h
    refine ⟨_, (pss_cons (ps_set (i := 2) scQOrder.nd rfl (Or.inr rfl) (pe_listRg rfl (by rfl) T.b_list (prg_1 (by rfl) T.b_range (pv 1))))
      (pss_one (ps_ret (pe_lc (own := [("_law_k", 3)]) rfl scQOrder.nd (pi_range1 (by rfl) T.b_range (pa_cons (pv 1) pa_nil)) (blkOk_by (N := ["_law_pen_here", "_law_size_here", "_law_left", "_law_k"]) (sc := defScope sQOrder) (by decide +kernel)) (fun _ _ _ _ _ => (pg_name (i := 3) scQOrder.nd rfl (Or.inl rfl))) (fun _ _ _ _ _ => pts_nil) (fun _ _ _ _ _ => (pe_bmK (K := K) PySem.F.plainAttrs_list PySem.F.slot_list_pop PySem.F.type_list_pop mt_popAt (pv 2) (pa_cons (pe_lo l_law_draw (hr.mono (by decide)) (by rfl) (pa_cons (pv 0) (pa_cons (pe_callB (call_lenK (K := K)) (by rfl) T.b_len boot'_len (pa_cons (pv 2) pa_nil)) pa_nil))) pa_nil))))))), ?_⟩
    refine x_start (σ' := [some (.ref p), some (.int N), none, none]) rfl ?_
    try dsimp only [cxOf]
    repeat walk_at "rd"
    refine ⟨RgOk.of_le (by omega) (by omega) (by omega) (by omega), fun q nq => ?_⟩
    rw [rg_nat]
    obtain ⟨⟨op, hp⟩, oc, hc⟩ := hpen.some
    have nqp : q ≠ p := (ne_of_none hp nq).symm
    have nqc : q ≠ c := (ne_of_none hc nq).symm
    have k0 : Kx [p] H (upd H q (.lst (natV (List.range N)))) := (Kx.refl _ _).new nq
    have P0 := hpen.keep ((Kx.refl [] H).new (o := .lst (natV (List.range N))) nq) (by simp) (by simp) (Nat.le_refl _)
    have e0 : upd H q (.lst (natV (List.range N))) q = some (.lst (natV (List.range N))) := upd_same
    generalize upd H q (.lst (natV (List.range N))) = H0 at *
    repeat walk_at "rd"
    refine y_lcR1 (by omega) (by omega) (fun D nD => ⟨fun i H1 => ∃ as ls : List Nat, Kx [p] H H1 ∧ PenAt H1 p c (n + i) ∧ H1 D = some (.lst (natV as)) ∧ H1 q = some (.lst (natV ls)) ∧ as.length = i ∧ (as ++ ls).Perm (List.range N),
      ⟨[], _, k0.new nD, P0.keep ((Kx.refl [] H0).new nD) (by simp) (by simp) (by omega), upd_same, lk_ne e0 nD, rfl, .refl _⟩, fun _ _ _ _ => trivial, ?_, ?_⟩)
    · rintro i x H1 H1' hi ⟨as, ls, k1, P1, eD, eq, hlen, hperm⟩ ⟨rfl, rfl⟩
      have hl := hperm.length_eq
      rw [List.length_append, List.length_range] at hl
      have hi2 : i < N := by omega
      have nDp : D ≠ p := by
        obtain ⟨⟨o, ho⟩, _⟩ := P0.some
        exact (ne_of_none ho nD).symm
      have nDq : D ≠ q := (ne_of_none e0 nD).symm
      have nDc : D ≠ c := by
        obtain ⟨_, o, ho⟩ := P0.some
        exact (ne_of_none ho nD).symm
      repeat walk_at "rd"
      refine ⟨rfl, ?_⟩
      repeat walk_at "rd"
      refine ⟨ty_list (SqL.of eq), ?_⟩
      repeat walk_at "rd"
      rw [natV_len]
      refine x_draw P1 (by omega) (by omega) (by omega) fun d H2 d0 d1 k2 P2 => ?_
      have hd : d.toNat < ls.length := by omega
      have hz := List.getElem?_eq_getElem hd
      have eq2 : H2 q = some (.lst (natV ls)) := k2 q _ (by simpa using nqp) eq
      have eD2 : H2 D = some (.lst (natV as)) := k2 D _ (by simpa using nDp) eD
      repeat walk_at "rd"
      refine x_popAt (i := d.toNat) eq2 (by omega) (by omega) (natV_get hz) ?_
      refine ⟨natV as, lk_ne2 nDq eD2, small1000 (by rw [natV_len]; omega), as ++ [ls[d.toNat]], ls.eraseIdx d.toNat, ?_, ?_, ?_, ?_, ?_, ?_⟩
      · have nq0 : H q = none := nq
        have nD0 : H D = none := k0.fresh (by simpa using nDp) nD
        exact ((k1.trans k2).wr (.inl nq0)).wr (.inl nD0)
      · exact (P2.upd nqp nqc (Nat.le_refl _)).upd nDp nDc (by omega)
      · rw [upd_same]
        unfold natV
        rw [List.map_append]
        rfl
      · rw [upd_ne nDq.symm, upd_same, erase_nat]
      · rw [List.length_append, hlen]
        rfl
      · exact (erase_perm hz as).trans hperm
    rintro H1 ⟨as, ls, k1, P1, eD, eq, hlen, hperm⟩
    have nDp : D ≠ p := by
      obtain ⟨⟨o, ho⟩, _⟩ := P0.some
      exact (ne_of_none ho nD).symm
    have nD0 : H D = none := k0.fresh (by simpa using nDp) nD
    have hl := hperm.length_eq
    rw [List.length_append, List.length_range] at hl
    have hN2 : (N : Int).toNat = N := Int.toNat_natCast N
    rw [hN2] at hlen P1
    have hls : ls = [] := List.eq_nil_of_length_eq_zero (by omega)
    subst hls
    rw [List.append_nil] at hperm
    exact k D as H1 nD0 hperm k1 eD P1
def spSize : Sp := fun vs H Q _ => ∃ (p c : Addr) (n M : Nat), vs = [.ref p, .int M] ∧ PenAt H p c n ∧ 1 ≤ M ∧ M ≤ 1000 ∧ n ≤ 900000 ∧
  ∀ (z : Nat) H', 1 ≤ z → z ≤ M → Kx [p] H H' → PenAt H' p c (n + 4) → Q (.int z) H'
theorem ok_size {f : Addr} {fd : FuncData} (F : Fun K "_law_size" "_law_size" sQSize f fd) (T : Txt mg) (l_law_draw : Lo P w K mg base "_law_draw" 1 ["_law_pen_here", "_law_bound"] spDraw) :
    FnOk P w K mg base CX0 2 f fd ["_law_pen_here", "_law_most"] spSize := by
  refine F.ok scQSize (fun vs H Q E h => ?_) (fun cdv A outer s H vs Q E hr h => ?_)
  · obtain ⟨p, c, n, N, rfl, _⟩ := h
    rfl
  · obtain ⟨p, c, n, M, rfl, hpen, hM0, hM, hn, k⟩ := h
    refine ⟨_, (pss_cons (ps_set (i := 2) scQSize.nd rfl (Or.inl rfl) (pe_lo l_law_draw (hr.mono (by decide)) (by rfl) (pa_cons (pv 0) (pa_cons pe_int pa_nil))))
      (pss_one (ps_ret (pe_callB (call_min2 rfl) (by rfl) T.b_min boot'_min (pa_cons (pv 1) (pa_cons (pe_ix ix_list (pe_lst (pa_cons (pe_op op_add pe_int (pe_lo l_law_draw (hr.mono (by decide)) (by rfl) (pa_cons (pv 0) (pa_cons pe_int pa_nil)))) (pa_cons (pe_op op_add pe_int (pe_lo l_law_draw (hr.mono (by decide)) (by rfl) (pa_cons (pv 0) (pa_cons pe_int pa_nil)))) (pa_cons (pe_op op_add pe_int (pe_lo l_law_draw (hr.mono (by decide)) (by rfl) (pa_cons (pv 0) (pa_cons (pv 1) pa_nil)))) (pa_cons (pv 1) pa_nil))))) (pv 2) (fun _ _ => rfl)) pa_nil)))))), ?_⟩
    refine x_start (σ' := [some (.ref p), some (.int M), none]) rfl ?_
    try dsimp only [cxOf]
    repeat walk_at "rd"
    refine x_draw hpen (by omega) (by omega) (by omega) fun a0 H0 a0l a0h k0 P0 => ?_
    repeat walk_at "rd"
    refine x_draw P0 (by omega) (by omega) (by omega) fun a1 H1 a1l a1h k1 P1 => ?_
    replace k1 := k0.trans k1
    repeat walk_at "rd"
    refine x_draw P1 (by omega) (by omega) (by omega) fun a2 H2 a2l a2h k2 P2 => ?_
    replace k2 := k1.trans k2
    repeat walk_at "rd"
    refine x_draw P2 (by omega) (by omega) (by omega) fun a3 H3 a3l a3h k3 P3 => ?_
    replace k3 := k2.trans k3
    obtain ⟨z, hz, _, hat⟩ := at_i (zs := [2 + a1, 3 + a2, 1 + a3, (M : Int)]) a0l (by simpa using a0h)
    simp only [List.map_cons, List.map_nil] at hat
    simp only [List.mem_cons, List.not_mem_nil, or_false] at hz
    repeat walk_at "rd"
    rename_i q nq
    have hk : ∀ (x : Int), 1 ≤ x → x ≤ M → Q (.int x) (upd H3 q (.lst [V.int (2 + a1), V.int (3 + a2), V.int (1 + a3), V.int M])) := by
      intro x h1 h2
      have e : x = ((x.toNat : Nat) : Int) := by omega
      rw [e]
      exact k x.toNat _ (by omega) (by omega) (k3.new nq) (P3.keep ((Kx.refl [] H3).new nq) (by simp) (by simp) (by omega))
    refine hk _ ?_ ?_
    · split <;> omega
    · split <;> omega
end

theorem ins_perm {ys : List V} {v : V} {i : Nat} : (ys.take i ++ [v] ++ ys.drop i).Perm (ys ++ [v]) := by
  have e : (ys.take i ++ [v] ++ ys.drop i) = ys.take i ++ ([v] ++ ys.drop i) := by rw [List.append_assoc]
  rw [e]
  refine (List.Perm.append_left _ List.perm_append_comm).trans ?_
  rw [← List.append_assoc, List.take_append_drop]

/-- the rows that stand at rs, the list of them at R; all of it new since H0 -/
structure RowsI (H0 H : Hp) (R : Addr) (rs : List Addr) (rows : List (List V)) (live : List Int) (B : Nat) : Prop where
  hR : H R = some (.lst (rs.map V.ref))
  len : rows.length = rs.length
  nd : rs.Nodup
  fr : ∀ r ∈ rs, H0 r = none
  frR : H0 R = none
  nR : R ∉ rs
  at_ : ∀ (i : Nat) (r : Addr) (row : List V), rs[i]? = some r → rows[i]? = some row → H r = some (.lst row)
  good : ∀ row ∈ rows, row.length ≤ B ∧ ∀ v ∈ row, v = .non ∨ ∃ z ∈ live, v = V.int z
theorem RowsI.mono {H0 H : Hp} {R : Addr} {rs : List Addr} {rows : List (List V)} {live : List Int} {B B' : Nat} (h : RowsI H0 H R rs rows live B) (l : B ≤ B') : RowsI H0 H R rs rows live B' :=
  ⟨h.hR, h.len, h.nd, h.fr, h.frR, h.nR, h.at_, fun row hr => ⟨Nat.le_trans (h.good row hr).1 l, (h.good row hr).2⟩⟩
theorem RowsI.keep {H0 H H' : Hp} {S : List Addr} {R : Addr} {rs : List Addr} {rows : List (List V)} {live : List Int} {B : Nat} (h : RowsI H0 H R rs rows live B) (k : Kx S H H') (hS : ∀ b ∈ S, ∃ o, H0 b = some o) : RowsI H0 H' R rs rows live B := by
  have hn : ∀ b, H0 b = none → b ∉ S := fun b hb z => by
    obtain ⟨o, ho⟩ := hS b z
    rw [hb] at ho
    cases ho
  exact ⟨k _ _ (hn _ h.frR) h.hR, h.len, h.nd, h.fr, h.frR, h.nR, fun i r row h1 h2 => k _ _ (hn _ (h.fr r (List.mem_of_getElem? h1))) (h.at_ i r row h1 h2), h.good⟩
theorem RowsI.wr {H0 H : Hp} {R r : Addr} {rs : List Addr} {rows : List (List V)} {live : List Int} {B : Nat} {i : Nat} {row' : List V} (h : RowsI H0 H R rs rows live B) (hr : rs[i]? = some r) (hl : row'.length ≤ B)
    (hv : ∀ v ∈ row', v = .non ∨ ∃ z ∈ live, v = V.int z) : RowsI H0 (upd H r (.lst row')) R rs (rows.set i row') live B := by
  have hm : r ∈ rs := List.mem_of_getElem? hr
  refine ⟨?_, by rw [List.length_set]; exact h.len, h.nd, h.fr, h.frR, h.nR, ?_, ?_⟩
  · rw [upd_ne (fun e => h.nR (by rw [e]; exact hm))]
    exact h.hR
  · intro j q row hj hrow
    by_cases e : j = i
    · subst e
      rw [hr] at hj
      have e2 : r = q := Option.some.inj hj
      subst e2
      have hi : j < rows.length := by
        rw [h.len]
        exact (List.getElem?_eq_some_iff.mp hr).1
      rw [List.getElem?_set_self hi] at hrow
      rw [← Option.some.inj hrow]
      exact upd_same
    · have nq : q ≠ r := by
        rintro rfl
        exact e ((List.getElem?_inj (List.getElem?_eq_some_iff.mp hj).1 h.nd).mp (hj.trans hr.symm))
      rw [List.getElem?_set_ne (Ne.symm e)] at hrow
      rw [upd_ne nq]
      exact h.at_ j q row hj hrow
  · intro row hrow
    rcases List.mem_or_eq_of_mem_set hrow with z | rfl
    · exact h.good row z
    · exact ⟨hl, hv⟩
theorem RowsI.get {H0 H : Hp} {R : Addr} {rs : List Addr} {rows : List (List V)} {live : List Int} {B : Nat} {z : Int} (h : RowsI H0 H R rs rows live B) (h0 : 0 ≤ z) (h1 : z < rs.length) :
    ∃ (i : Nat) (r : Addr) (row : List V), z = i ∧ rs[i]? = some r ∧ rows[i]? = some row ∧ H r = some (.lst row) ∧ atI (rs.map V.ref) z = some (.ref r) ∧ H0 r = none := by
  obtain ⟨i, rfl⟩ : ∃ i : Nat, z = i := ⟨z.toNat, by omega⟩
  have hi : i < rs.length := by omega
  have hi2 : i < rows.length := by rw [h.len]; exact hi
  have e1 := List.getElem?_eq_getElem hi
  have e2 := List.getElem?_eq_getElem hi2
  refine ⟨i, rs[i], rows[i], rfl, e1, e2, h.at_ i _ _ e1 e2, atI_nat ?_, h.fr _ (List.getElem_mem hi)⟩
  rw [List.getElem?_map, e1]
  rfl
theorem at_ints {zs : List Int} {w : Int} (h0 : 0 ≤ w) (h1 : w < zs.length) : ∃ z ∈ zs, zs[w.toNat]? = some z ∧ atI (zs.map V.int) w = some (.int z) := by
  obtain ⟨i, rfl⟩ : ∃ i : Nat, w = i := ⟨w.toNat, by omega⟩
  have hi : i < zs.length := by omega
  have e1 := List.getElem?_eq_getElem hi
  refine ⟨zs[i], List.getElem_mem hi, by simpa using e1, atI_nat ?_⟩
  rw [List.getElem?_map, e1]
  rfl

/-- a row of slots as data, and as values -/
abbrev Rw := List (Option Nat)
def slotV : Option Nat → V
  | none => .non
  | some k => .int k
def rowV (l : Rw) : List V := l.map slotV
/-- a heap at D: its rows (none: free) and its outside references -/
structure HeapAt (K : PySem.W.Frag) (H : Hp) (D : Addr) (slots : List (Option Rw)) (outs : List Int) : Prop where
  ex : ∃ (S O : Addr) (vs : List V), SqT K H D [.ref S, .ref O] ∧ SqT K H S vs ∧ SqT K H O (outs.map V.int) ∧ vs.length = slots.length ∧
    ∀ (i : Nat) (o : Option Rw), slots[i]? = some o → (o = none ∧ vs[i]? = some V.non) ∨ ∃ r row, o = some row ∧ vs[i]? = some (.ref r) ∧ FT H r (rowV row)
structure WfB (b : Int) (slots : List (Option Rw)) (outs : List Int) : Prop where
  len : outs.length = slots.length
  most : slots.length ≤ 40
  free : ∀ m : Nat, slots[m]? = some none → outs[m]? = some 0
  outs : ∀ z ∈ outs, 0 ≤ z ∧ z ≤ b
  row : ∀ row, some row ∈ slots → row.length ≤ 40
  live : ∀ row, some row ∈ slots → ∀ k, some k ∈ row → ∃ r, slots[k]? = some (some r)
abbrev Wf := WfB 9
theorem HeapAt.keep {K : PySem.W.Frag} {H H' : Hp} {D : Addr} {slots : List (Option Rw)} {outs : List Int} (h : HeapAt K H D slots outs) (k : Same H H') : HeapAt K H' D slots outs := by
  obtain ⟨S, O, vs, h1, h2, h3, h4, h5⟩ := h.ex
  have k0 : Kx [] H H' := .same k []
  refine ⟨S, O, vs, k0.sqT (by simp) h1, k0.sqT (by simp) h2, k0.sqT (by simp) h3, h4, fun i o ho => ?_⟩
  rcases h5 i o ho with z | ⟨r, row, e1, e2, ob, e3, e4, e5⟩
  · exact .inl z
  · exact .inr ⟨r, row, e1, e2, ob, k _ _ e3, e4, e5⟩
def toI : V → Int
  | .int i => i
  | _ => 0
theorem perm_ints {ys : List V} {zs : List Int} (h : ys.Perm (zs.map V.int)) : ∃ ls : List Int, ys = ls.map V.int ∧ ls.Perm zs := by
  refine ⟨ys.map toI, ?_, ?_⟩
  · rw [List.map_map]
    have : ∀ y ∈ ys, (V.int ∘ toI) y = y := by
      intro y hy
      obtain ⟨z, _, rfl⟩ := List.mem_map.mp (h.mem_iff.mp hy)
      rfl
    rw [List.map_congr_left this, List.map_id']
  · have e := h.map toI
    rw [List.map_map] at e
    have e2 : zs.map (toI ∘ V.int) = zs := by
      rw [show (toI ∘ V.int) = id from rfl, List.map_id]
    rwa [e2] at e
theorem rg_ints (N : Nat) : rgV 0 (N : Int) = ((List.range N).map fun (i : Nat) => (i : Int)).map V.int := by
  unfold rgV
  rw [List.map_map, show ((N : Int) - 0).toNat = N by omega]
  refine List.map_congr_left fun i _ => ?_
  show V.int (0 + (i : Int)) = V.int i
  rw [Int.zero_add]
def unV : V → Option Nat
  | .int z => some z.toNat
  | _ => none
theorem Kx.comb {S : List Addr} {H H1 H2 : Hp} {Z : Addr} (a : Kx S H H1) (b : Kx [Z] H1 H2) (n : H Z = none) : Kx S H H2 := fun q o hq h =>
  b q o (fun z => by rw [List.mem_singleton.mp z, n] at h; cases h) (a q o hq h)
theorem cut_from (xs : List V) (k : Nat) : cutV xs (some (k : Int)) none = xs.drop k := by
  unfold cutV
  rw [HT.sIx_none, show HT.sIx xs.length 0 (some (k : Int)) = min k xs.length from HT.sIx_nat xs.length 0 k]
  rcases Nat.le_total k xs.length with h | h
  · rw [Nat.min_eq_left h, List.take_of_length_le (by rw [List.length_drop]; exact Nat.le_refl _)]
  · rw [Nat.min_eq_right h, Nat.sub_self, List.take_zero, List.drop_of_length_le h]
theorem ix_nat {n j : Nat} (hj : j < n) : ixN n (j : Int) = some j := by
  unfold ixN
  rw [if_pos (by omega), if_pos (by omega), Int.toNat_natCast]
theorem RowsI.other {H0 H : Hp} {R A : Addr} {o : HO} {rs : List Addr} {rows : List (List V)} {live : List Int} {B : Nat} (h : RowsI H0 H R rs rows live B) (nR : A ≠ R) (n : A ∉ rs) : RowsI H0 (upd H A o) R rs rows live B :=
  ⟨(upd_ne nR.symm).trans h.hR, h.len, h.nd, h.fr, h.frR, h.nR, fun i r row h1 h2 => (upd_ne (fun e => n (by rw [← e]; exact List.mem_of_getElem? h1))).trans (h.at_ i r row h1 h2), h.good⟩

/-- a heap at D, its rows any tuples -/
structure HeapT (K : PySem.W.Frag) (H : Hp) (D : Addr) (slots : List (Option Rw)) (outs : List Int) : Prop where
  ex : ∃ (S O : Addr) (vs : List V), SqT K H D [.ref S, .ref O] ∧ SqT K H S vs ∧ SqT K H O (outs.map V.int) ∧ vs.length = slots.length ∧
    ∀ (i : Nat) (o : Option Rw), slots[i]? = some o → (o = none ∧ vs[i]? = some V.non) ∨ ∃ r row, o = some row ∧ vs[i]? = some (.ref r) ∧ SqT K H r (rowV row)
theorem HeapAt.toT {K : PySem.W.Frag} {H : Hp} {D : Addr} {slots : List (Option Rw)} {outs : List Int} (h : HeapAt K H D slots outs) : HeapT K H D slots outs := by
  obtain ⟨S, O, vs, h1, h2, h3, h4, h5⟩ := h.ex
  refine ⟨S, O, vs, h1, h2, h3, h4, fun i o ho => ?_⟩
  rcases h5 i o ho with z | ⟨r, row, e1, e2, e3⟩
  · exact .inl z
  · exact .inr ⟨r, row, e1, e2, e3.seq⟩
theorem HeapT.keep {K : PySem.W.Frag} {H H' : Hp} {D : Addr} {slots : List (Option Rw)} {outs : List Int} (h : HeapT K H D slots outs) (k : Kx [] H H') : HeapT K H' D slots outs := by
  obtain ⟨S, O, vs, h1, h2, h3, h4, h5⟩ := h.ex
  refine ⟨S, O, vs, k.sqT (by simp) h1, k.sqT (by simp) h2, k.sqT (by simp) h3, h4, fun i o ho => ?_⟩
  rcases h5 i o ho with z | ⟨r, row, e1, e2, e3⟩
  · exact .inl z
  · exact .inr ⟨r, row, e1, e2, k.sqT (by simp) e3⟩
def slotD : Option Nat → PyData
  | none => .none
  | some k => .int k
def rowD : Option Rw → PyData
  | none => .none
  | some l => .tuple (l.map slotD)
def heapD (slots : List (Option Rw)) (outs : List Int) : PyData := .tuple [.tuple (slots.map rowD), .tuple (outs.map .int)]
theorem dp_slots {K : PySem.W.Frag} {H : Hp} : ∀ l : Rw, DpAll K H (rowV l) (l.map slotD)
  | [] => .nil
  | none :: r => .cons .non (dp_slots r)
  | some k :: r => .cons (.int k) (dp_slots r)
theorem dpAll_at {K : PySem.W.Frag} {H : Hp} : ∀ {vs : List V} {ds : List PyData}, vs.length = ds.length → (∀ (i : Nat) (d : PyData), ds[i]? = some d → ∃ v, vs[i]? = some v ∧ Dp K H v d) → DpAll K H vs ds
  | [], [], _, _ => .nil
  | [], _ :: _, h, _ => by cases h
  | _ :: _, [], h, _ => by cases h
  | v :: vs, d :: ds, h, q => by
    obtain ⟨v', e, hd⟩ := q 0 d rfl
    cases Option.some.inj e
    exact .cons hd (dpAll_at (Nat.succ.inj h) fun i d' hi => q (i + 1) d' hi)
theorem dp_intsT {K : PySem.W.Frag} {H : Hp} : ∀ cs : List Int, DpAll K H (cs.map V.int) (cs.map PyData.int)
  | [] => .nil
  | z :: r => .cons (.int z) (dp_intsT r)
theorem HeapT.dp {K : PySem.W.Frag} {H : Hp} {D : Addr} {slots : List (Option Rw)} {outs : List Int} (h : HeapT K H D slots outs) : Dp K H (.ref D) (heapD slots outs) := by
  obtain ⟨S, O, vs, h1, h2, h3, h4, h5⟩ := h.ex
  refine .tup h1 (.cons (.tup h2 (dpAll_at (by rw [List.length_map]; exact h4) ?_)) (.cons (.tup h3 (dp_intsT outs)) .nil))
  intro i d hd
  rw [List.getElem?_map] at hd
  cases e : slots[i]? with
  | none => rw [e] at hd; cases hd
  | some o =>
    rw [e] at hd
    cases Option.some.inj hd
    rcases h5 i o e with ⟨rfl, z⟩ | ⟨r, row, rfl, z, f⟩
    · exact ⟨_, z, .non⟩
    · exact ⟨_, z, .tup f (dp_slots row)⟩
theorem good_heap {slots : List (Option Rw)} {outs : List Int} (w : Wf slots outs) : Good (heapD slots outs) 3 (2 * (40 * (40 * 32 + 1) + 1)) := by
  have hrow : ∀ row, some row ∈ slots → Good (rowD (some row)) 1 (40 * 32) := by
    intro row hr
    refine Good.tuple (n := 40) ?_ (by rw [List.length_map]; exact w.row row hr)
    intro d hd
    obtain ⟨s, hs, rfl⟩ := List.mem_map.mp hd
    cases s with
    | none => exact Good.none.mono (Nat.le_refl _) (by decide)
    | some k =>
      obtain ⟨r, e⟩ := w.live row hr k hs
      have hk := (List.getElem?_eq_some_iff.mp e).1
      have := w.most
      exact Good.int (by show ((k : Int)).natAbs < _; omega)
  refine Good.tuple (n := 2) (k := 2) (w := 40 * (40 * 32 + 1)) ?_ (by simp)
  intro d hd
  simp only [List.mem_cons, List.not_mem_nil, or_false] at hd
  rcases hd with rfl | rfl
  · refine Good.tuple ?_ (by rw [List.length_map]; exact w.most)
    intro d hd
    obtain ⟨o, ho, rfl⟩ := List.mem_map.mp hd
    cases o with
    | none => exact Good.none.mono (by decide) (by decide)
    | some row => exact hrow row ho
  · refine (Good.tuple (k := 0) (w := 31) (n := 40) ?_ (by rw [List.length_map, w.len]; exact w.most)).mono (by decide) (by decide)
    intro d hd
    obtain ⟨z, hz, rfl⟩ := List.mem_map.mp hd
    have := w.outs z hz
    exact Good.int (by omega)
/-! ### what the program says of a heap -/
def isLive (slots : List (Option Rw)) (m : Nat) : Bool := ((slots[m]?).getD none).isSome
def liveUp (slots : List (Option Rw)) (n : Nat) : List Int := ((List.range n).filter (isLive slots)).map fun (m : Nat) => (m : Int)
theorem liveUp_succ (slots : List (Option Rw)) (n : Nat) : liveUp slots (n + 1) = if isLive slots n then liveUp slots n ++ [(n : Int)] else liveUp slots n := by
  unfold liveUp
  rw [List.range_succ, List.filter_append, List.map_append]
  cases h : isLive slots n
  · simp [List.filter, h]
  · simp [List.filter, h]
theorem liveUp_len (slots : List (Option Rw)) (n : Nat) : (liveUp slots n).length ≤ n := by
  unfold liveUp
  rw [List.length_map]
  exact Nat.le_trans (List.length_filter_le _ _) (by rw [List.length_range]; exact Nat.le_refl _)
def cntO (k : Nat) : Option Rw → Nat
  | none => 0
  | some row => row.count (some k)
/-- how many slots hold k -/
def useC (slots : List (Option Rw)) (k : Nat) : Nat := (slots.map (cntO k)).sum
def useL (slots : List (Option Rw)) : List Int := (List.range slots.length).map fun k => (useC slots k : Int)
def countV (slots : List (Option Rw)) (outs : List Int) (m : Nat) : V := if isLive slots m then .int ((outs[m]?).getD 0 + useC slots m) else .non
def countsV (slots : List (Option Rw)) (outs : List Int) : List V := (List.range slots.length).map (countV slots outs)
section
variable {P : Program} {w : World} {K : PySem.W.Frag} {mg : Str → Option Value} {base : Heap}
def spLive (K : PySem.W.Frag) : Sp := fun vs H Q _ => ∃ (D : Addr) (slots : List (Option Rw)) (outs : List Int), vs = [.ref D] ∧ HeapT K H D slots outs ∧ Wf slots outs ∧
  ∀ p H', H p = none → Kx [] H H' → H' p = some (.lst ((liveUp slots slots.length).map V.int)) → Q (.ref p) H'
theorem ok_live {f : Addr} {fd : FuncData} (F : Fun K "live_nodes" "live_nodes" sLiveNodes f fd) (T : Txt mg) : FnOk P w K mg base CX0 1 f fd ["heap"] (spLive K) := by
  refine F.ok scLiveNodes (fun vs H Q E h => ?_) (fun cdv A outer s H vs Q E hr h => ?_)
  · obtain ⟨D, slots, outs, rfl, _⟩ := h
    rfl
  · obtain ⟨D, slots, outs, rfl, ⟨S, O, vs, hD, hS, hO, hl, hv⟩, wf, k⟩ := h
    refine ⟨_, (pss_one (ps_ret (pe_lc (own := [("node", 1), ("row", 2)]) rfl scLiveNodes.nd (pi_enumT (by rfl) T.b_enumerate (pa_cons (pe_ix ix_tup (pv 0) pe_int (fun _ _ => rfl)) pa_nil)) (blkOk_by (N := ["heap", "node", "row"]) (sc := defScope sLiveNodes) (by decide +kernel)) (fun _ _ _ _ _ => (pg_tupK (K := K) (n := 2) rfl rfl (pgs_cons (pg_name (i := 1) scLiveNodes.nd rfl (Or.inl rfl)) (pgs_cons (pg_name (i := 2) scLiveNodes.nd rfl (Or.inl rfl)) pgs_nil)))) (fun _ _ _ _ _ => (pts_one (pt_cmpR op_notN1 (pv 2) pe_non (nomark _)))) (fun _ _ _ _ _ => (pv 1))))), ?_⟩
    refine x_start (σ' := [some (.ref D), none, none]) rfl ?_
    dsimp only [cxOf]
    repeat walk_at "rd"
    refine y_lcET (xs := vs) hS (fun Z nZ => ⟨fun i H1 => Kx [] H H1 ∧ H1 Z = some (.lst ((liveUp slots i).map V.int)), ⟨(Kx.refl _ _).new nZ, upd_same⟩, ?_, ?_, ?_⟩)
    · rintro i H1 hi ⟨k1, _⟩
      exact k1.sqT (by simp) hS
    · rintro i x H1 H1' hi ⟨k1, e1⟩ ⟨U, x1, x2, rfl, nU, rfl, f1, f2⟩
      cases f1
      have nUZ : Z ≠ U := ne_of_none e1 nU
      have h40 := wf.most
      repeat walk_at "rd"
      refine ⟨rfl, ?_⟩
      have hs : i < slots.length := by omega
      repeat walk_at "rd"
      have es := List.getElem?_eq_getElem hs
      have hlen := liveUp_len slots i
      rcases hv i _ es with ⟨e, z⟩ | ⟨r, row, e, z, _⟩
      · cases Option.some.inj (z.symm.trans f2)
        refine iteF ⟨(k1.new nU), ?_⟩
        rw [liveUp_succ, if_neg (by simp [isLive, es, e])]
        exact lk_ne e1 nU
      · cases Option.some.inj (z.symm.trans f2)
        refine iteT ?_
        repeat walk_at "rd"
        refine ⟨_, lk_ne e1 nU, small1000 (by rw [List.length_map]; omega), (k1.new nU).wr (.inl nZ), ?_⟩
        rw [upd_same, liveUp_succ, if_pos (by simp [isLive, es, e]), List.map_append]
        rfl
    · rintro H1 ⟨k1, e1⟩
      rw [hl] at e1
      exact k Z H1 nZ k1 e1
end


theorem held_set {rows : List (List V)} {j : Nat} {row row' : List V} (hj : rows[j]? = some row) (hs : ∀ x ∈ row, x ∈ row') {x : V} (h : ∃ r ∈ rows, x ∈ r) : ∃ r ∈ rows.set j row', x ∈ r := by
  obtain ⟨r, hr, hx⟩ := h
  have hjl := (List.getElem?_eq_some_iff.mp hj).1
  obtain ⟨i, hi⟩ := List.mem_iff_getElem?.mp hr
  by_cases e : i = j
  · subst e
    rw [hj] at hi
    cases Option.some.inj hi
    exact ⟨row', List.mem_of_getElem? (List.getElem?_set_self hjl), hs x hx⟩
  · exact ⟨r, List.mem_of_getElem? (i := i) (by rw [List.getElem?_set_ne (Ne.symm e)]; exact hi), hx⟩
theorem held_new {rows : List (List V)} {j : Nat} {row row' : List V} (hj : rows[j]? = some row) {x : V} (hx : x ∈ row') : ∃ r ∈ rows.set j row', x ∈ r :=
  ⟨row', List.mem_of_getElem? (List.getElem?_set_self (List.getElem?_eq_some_iff.mp hj).1), hx⟩
theorem x_orG {σ : SS} {H : Hp} {tt tu : TT} {QB : Bool → Hp → Prop} (P : Hp → Prop) (q : ∀ G : Bool → Hp → Prop, (∀ H, P H → G true H) → tOr tt tu σ H G) (r : ∀ H, P H → QB true H) : tOr tt tu σ H QB := q QB r
abbrev liveI (N : Nat) : List Int := (List.range N).map fun m : Nat => (m : Int)
theorem liveI_mem {N : Nat} {z : Int} (h0 : 0 ≤ z) (h1 : z < N) : z ∈ liveI N := List.mem_map.mpr ⟨z.toNat, List.mem_range.mpr (by omega), by omega⟩
section
variable {P : Program} {w : World} {K : PySem.W.Frag} {mg : Str → Option Value} {base : Heap}

def spLinks (K : PySem.W.Frag) : Sp := fun vs H Q _ => ∃ (p c : Addr) (n N : Nat), vs = [.ref p, .int N] ∧ PenAt H p c n ∧ 1 ≤ N ∧ N ≤ 40 ∧ n ≤ 900000 ∧
  ∀ R rs rows H', RowsI H H' R rs rows (liveI N) 40 → rs.length = N → (∀ v : Nat, 1 ≤ v → v < N → ∃ row ∈ rows, V.int v ∈ row) → Kx [p] H H' → PenAt H' p c (n + 700) → Q (.ref R) H'
theorem ok_links {f : Addr} {fd : FuncData} (F : Fun K "_law_links" "_law_links" sQLinks f fd) (T : Txt mg) (l_law_draw : Lo P w K mg base "_law_draw" 1 ["_law_pen_here", "_law_bound"] spDraw) :
    FnOk P w K mg base CX0 2 f fd ["_law_pen_here", "_law_size_here"] (spLinks K) := by
  refine F.ok scQLinks (fun vs H Q E h => ?_) (fun cdv A outer s H vs Q E hr h => ?_)
  · obtain ⟨p, c, n, N, rfl, _⟩ := h
    rfl
  · obtain ⟨p, c, n, N, rfl, hpen, hN1, hN, hn, k⟩ := h
    refine ⟨_, (pss_cons (ps_set (i := 2) scQLinks.nd rfl (Or.inl rfl) (pe_lo l_law_draw (hr.mono (by decide)) (by rfl) (pa_cons (pv 0) (pa_cons pe_int pa_nil))))
      (pss_cons (ps_set (i := 3) scQLinks.nd rfl (Or.inl rfl) (pe_lo l_law_draw (hr.mono (by decide)) (by rfl) (pa_cons (pv 0) (pa_cons pe_int pa_nil))))
      (pss_cons (ps_setLc (i := 5) (own := [("_law_k", 4)]) rfl scQLinks.nd rfl rfl (sw_true rfl rfl rfl (by decide +kernel)) (pi_range1 (by rfl) T.b_range (pa_cons (pv 1) pa_nil)) (blkOk_by (N := ["_law_pen_here", "_law_size_here", "_law_way", "_law_deep", "_law_k", "_law_rows", "_law_v", "_law_holder", "_law_row", "_law_a", "_law_b"]) (sc := defScope sQLinks) (by decide +kernel)) (fun _ _ _ _ _ => (pg_name (i := 4) scQLinks.nd rfl (Or.inl rfl))) (fun _ _ _ _ _ => pts_nil) (fun _ _ _ _ _ => (pe_lst pa_nil)))
      (pss_cons (ps_for PassesOwn.never rfl (pi_range2 (by rfl) T.b_range (pa_cons pe_int (pa_cons (pv 1) pa_nil))) (pg_name (i := 6) scQLinks.nd rfl (Or.inl rfl))
      (pss_cons (ps_set (i := 7) scQLinks.nd rfl (Or.inl rfl) (pe_ix ix_list (pe_lst (pa_cons (pe_lo l_law_draw (hr.mono (by decide)) (by rfl) (pa_cons (pv 0) (pa_cons (pv 6) pa_nil))) (pa_cons (pe_op op_sub (pv 6) pe_int) (pa_cons (pe_callB (call_max2 rfl) (by rfl) T.b_max boot'_max (pa_cons pe_int (pa_cons (pe_op op_sub (pe_op op_sub (pv 6) pe_int) (pe_lo l_law_draw (hr.mono (by decide)) (by rfl) (pa_cons (pv 0) (pa_cons pe_int pa_nil)))) pa_nil))) pa_nil)))) (pv 3) (fun _ _ => rfl)))
      (pss_cons (ps_set (i := 8) scQLinks.nd rfl (Or.inl rfl) (pe_ix ix_list (pv 5) (pv 7) (fun _ _ => rfl)))
      (pss_one (ps_expr (pe_bm PySem.F.plainAttrs_list PySem.F.slot_list_insert PySem.F.type_list_insert mt_insert (pv 8) (pa_cons (pe_lo l_law_draw (hr.mono (by decide)) (by rfl) (pa_cons (pv 0) (pa_cons (pe_op op_add (pe_callB call_len_seq (by rfl) T.b_len boot'_len (pa_cons (pv 8) pa_nil)) pe_int) pa_nil))) (pa_cons (pv 6) pa_nil))))))))
      (pss_cons (ps_for PassesOwn.never rfl (pi_range1 (by rfl) T.b_range (pa_cons (pe_ix ix_list (pe_lst (pa_cons pe_int (pa_cons (pe_lo l_law_draw (hr.mono (by decide)) (by rfl) (pa_cons (pv 0) (pa_cons pe_int pa_nil))) (pa_cons (pv 1) (pa_cons (pe_op op_mul pe_int (pv 1)) pa_nil))))) (pv 2) (fun _ _ => rfl)) pa_nil)) (pg_name (i := 4) scQLinks.nd rfl (Or.inl rfl))
      (pss_cons (ps_set (i := 9) scQLinks.nd rfl (Or.inl rfl) (pe_lo l_law_draw (hr.mono (by decide)) (by rfl) (pa_cons (pv 0) (pa_cons (pv 1) pa_nil))))
      (pss_cons (ps_set (i := 10) scQLinks.nd rfl (Or.inl rfl) (pe_lo l_law_draw (hr.mono (by decide)) (by rfl) (pa_cons (pv 0) (pa_cons (pv 1) pa_nil))))
      (pss_cons (ps_if (PW.pt (pw_and (pt_cmpR op_le (pv 10) (pv 9) (nomark _)) (pw_and1 (PW.pt (pw_or (pt_cmpR op_lt (pv 2) pe_int (nomark _)) (pw_or1 (pt_cmpR op_gt (pe_lo l_law_draw (hr.mono (by decide)) (by rfl) (pa_cons (pv 0) (pa_cons pe_int pa_nil))) pe_int (nomark _)))))))) (pss_one (ps_par (i := 9) (j := 10) rfl scQLinks.nd rfl rfl (by decide) rfl rfl (pa_cons (pe_callB (call_min2 rfl) (by rfl) T.b_min boot'_min (pa_cons (pv 9) (pa_cons (pv 10) pa_nil))) (pa_cons (pe_callB (call_min2 rfl) (by rfl) T.b_min boot'_min (pa_cons (pe_op op_sub (pv 1) pe_int) (pa_cons (pe_op op_add (pe_callB (call_max2 rfl) (by rfl) T.b_max boot'_max (pa_cons (pv 9) (pa_cons (pv 10) pa_nil))) (pe_callTy call_int1 (by rfl) T.b_int boot'_int (pa_cons (pe_cmpR op_eq (pv 9) (pv 10) (nomark _)) pa_nil))) pa_nil))) pa_nil)) (by rfl))) pss_nil)
      (pss_cons (ps_set (i := 8) scQLinks.nd rfl (Or.inl rfl) (pe_ix ix_list (pv 5) (pv 9) (fun _ _ => rfl)))
      (pss_one (ps_if (PW.pt (pw_and (pt_cmpR op_lt (pe_callB call_len_seq (by rfl) T.b_len boot'_len (pa_cons (pv 8) pa_nil)) pe_int (nomark _)) (pw_and1 (PW.pt (pw_or (pt_cmpR op_ne (pv 9) (pv 10) (nomark _)) (pw_or1 (pt_cmpR op_eq (pv 2) pe_int (nomark _)))))))) (pss_one (ps_expr (pe_bm PySem.F.plainAttrs_list PySem.F.slot_list_insert PySem.F.type_list_insert mt_insert (pv 8) (pa_cons (pe_lo l_law_draw (hr.mono (by decide)) (by rfl) (pa_cons (pv 0) (pa_cons (pe_op op_add (pe_callB call_len_seq (by rfl) T.b_len boot'_len (pa_cons (pv 8) pa_nil)) pe_int) pa_nil))) (pa_cons (pv 10) pa_nil))))) pss_nil)))))))
      (pss_cons (ps_for PassesOwn.never rfl (pi_list (pv 5)) (pg_name (i := 8) scQLinks.nd rfl (Or.inl rfl))
      (pss_one (ps_if (pt_cmpR op_eq (pe_lo l_law_draw (hr.mono (by decide)) (by rfl) (pa_cons (pv 0) (pa_cons pe_int pa_nil))) pe_int (nomark _)) (pss_one (ps_expr (pe_bm PySem.F.plainAttrs_list PySem.F.slot_list_insert PySem.F.type_list_insert mt_insert (pv 8) (pa_cons (pe_lo l_law_draw (hr.mono (by decide)) (by rfl) (pa_cons (pv 0) (pa_cons (pe_op op_add (pe_callB call_len_seq (by rfl) T.b_len boot'_len (pa_cons (pv 8) pa_nil)) pe_int) pa_nil))) (pa_cons pe_non pa_nil))))) pss_nil)))
      (pss_one (ps_ret (pv 5))))))))), ?_⟩
    refine x_start (σ' := [some (.ref p), some (.int N), none, none, none, none, none, none, none, none, none]) rfl ?_
    try dsimp only [cxOf]
    obtain ⟨⟨op, hp⟩, oc, hc⟩ := hpen.some
    have hSp : ∀ b ∈ [p], ∃ o, H b = some o := by simpa using ⟨_, hp⟩
    repeat walk_at "rd"
    refine x_draw hpen (by omega) (by omega) (by omega) fun way HA w0 w1 kA PA => ?_
    repeat walk_at "rd"
    refine x_draw PA (by omega) (by omega) (by omega) fun deep HB e0 e1 kB PB => ?_
    have K0 := kA.trans kB
    obtain ⟨⟨opB, hpB⟩, ocB, hcB⟩ := PB.some
    repeat walk_at "rd"
    refine y_lcR1 (by omega) (by omega) (fun R nR => ⟨fun i H1 => ∃ rs : List Addr, rs.length = i ∧ H1 R = some (.lst (rs.map V.ref)) ∧ rs.Nodup ∧ R ∉ rs ∧ (∀ r ∈ rs, HB r = none ∧ H1 r = some (.lst [])) ∧ Kx [] HB H1,
      ⟨[], rfl, upd_same, List.nodup_nil, by simp, by simp, (Kx.refl _ _).new nR⟩, fun _ _ _ _ => trivial, ?_, ?_⟩)
    · rintro i x H1 H1' hi ⟨rs, e1, e2, e3, e4, e5, k1⟩ ⟨rfl, rfl⟩
      have hi40 : i < 40 := by omega
      repeat walk_at "rd"
      refine ⟨rfl, ?_⟩
      repeat walk_at "rd"
      rename_i q nq
      have nqR : q ≠ R := (ne_of_none e2 nq).symm
      refine ⟨rs.map V.ref, lk_ne e2 nq, small1000 (by rw [List.length_map]; omega), rs ++ [q], by rw [List.length_append, e1]; rfl, ?_, ?_, ?_, ?_, ?_⟩
      · rw [upd_same, List.map_append]
        rfl
      · rw [List.nodup_append]
        refine ⟨e3, by simp, ?_⟩
        intro b hb b2 hb2
        rw [List.mem_singleton.mp hb2]
        exact ne_of_none (e5 b hb).2 nq
      · simp only [List.mem_append, List.mem_singleton, not_or]
        exact ⟨e4, nqR.symm⟩
      · intro r hr
        rcases List.mem_append.mp hr with z | z
        · have nrR : r ≠ R := fun e => e4 (e ▸ z)
          exact ⟨(e5 r z).1, by rw [upd_ne nrR]; exact lk_ne (e5 r z).2 nq⟩
        · rw [List.mem_singleton.mp z]
          exact ⟨k1.fresh (by simp) nq, by rw [upd_ne nqR]; exact upd_same⟩
      · exact (k1.new nq).wr (.inl nR)
    rintro H1 ⟨rs, e1', e2, e3, e4, e5, k1⟩
    have hrl : rs.length = N := by rw [e1']; exact Int.toNat_natCast N
    have fr0 : ∀ b, HB b = none → H b = none := fun b hb => by
      cases e : H b with
      | none => rfl
      | some o =>
        by_cases hbp : b = p
        · rw [hbp, hpB] at hb
          cases hb
        · rw [K0 b o (by simpa using hbp) e] at hb
          cases hb
    have I1 : RowsI H H1 R rs (rs.map fun _ => []) (liveI N) 0 := by
      refine ⟨e2, by rw [List.length_map], e3, fun r hr => fr0 r (e5 r hr).1, fr0 R nR, e4, ?_, ?_⟩
      · intro i r row h1 h2
        rw [List.getElem?_map, h1] at h2
        rw [← Option.some.inj h2]
        exact (e5 r (List.mem_of_getElem? h1)).2
      · intro row hrow
        obtain ⟨_, _, rfl⟩ := List.mem_map.mp hrow
        exact ⟨Nat.le_refl _, by simp⟩
    have P1 : PenAt H1 p c (n + 2) := PB.keep k1 (by simp) (by simp) (Nat.le_refl _)
    have K1 : Kx [p] H H1 := K0.trans (k1.mono (by simp))
    have hnp : ∀ b, H b = none → b ≠ p := fun b hb e => by
      rw [e, hp] at hb
      cases hb
    have hnc : ∀ b, H b = none → b ≠ c := fun b hb e => by
      rw [e, hc] at hb
      cases hb
    clear e2 e3 e4 e5 k1 K0 PA PB kA kB
    repeat walk_at "rd"
    refine y_forR2 (by omega) (by omega) (by omega) (by omega) ⟨fun i σ H3 => ∃ rows y4 y6 y7 y8, σ = [some (.ref p), some (.int N), some (.int way), some (.int deep), y4, some (.ref R), y6, y7, y8, none, none] ∧
      RowsI H H3 R rs rows (liveI N) i ∧ (∀ v : Nat, 1 ≤ v → v < 1 + i → ∃ row ∈ rows, V.int v ∈ row) ∧ Kx [p] H H3 ∧ PenAt H3 p c (n + 2 + 3 * i), ⟨_, none, none, none, none, rfl, I1, fun v h1 h2 => by omega, K1, P1⟩, fun _ _ _ _ _ => trivial, ?_, ?_⟩
    · rintro i x σ H3 H3' hi ⟨rows, y4, y6, y7, y8, rfl, I3, hh3, K3, P3⟩ ⟨rfl, rfl⟩
      have hi2 : 1 + (i : Int) < N := by omega
      repeat walk_at "rd"
      refine x_draw P3 (by omega) (by omega) (by omega) fun d1 H4 a0 a1 k4 P4 => ?_
      replace K3 := K3.trans k4
      replace I3 := I3.keep k4 hSp
      clear k4 P3
      repeat walk_at "rd"
      refine x_draw P4 (by omega) (by omega) (by omega) fun d2 H5 b0 b1 k5 P5 => ?_
      replace K3 := K3.trans k5
      replace I3 := I3.keep k5 hSp
      clear k5 P4
      obtain ⟨hold, hat, hb0, hb1⟩ : ∃ hold, atI [V.int d1, V.int (1 + (i : Int) - 1), V.int (if 1 + (i : Int) - 1 - d2 > 0 then 1 + (i : Int) - 1 - d2 else 0)] deep = some (.int hold) ∧ 0 ≤ hold ∧ hold ≤ (i : Int) := by
        obtain ⟨z, hz, _, hz2⟩ := at_ints (zs := [d1, 1 + (i : Int) - 1, if 1 + (i : Int) - 1 - d2 > 0 then 1 + (i : Int) - 1 - d2 else 0]) e0 (by simpa using e1)
        refine ⟨z, hz2, ?_⟩
        simp only [List.mem_cons, List.not_mem_nil, or_false] at hz
        rcases hz with rfl | rfl | rfl
        · omega
        · omega
        · split <;> omega
      obtain ⟨j, r, row, rfl, hrs, hrow, hr, hatr, hr0⟩ := I3.get hb0 (by omega)
      have hR := I3.hR
      have nrp := hnp r hr0
      have nrc := hnc r hr0
      have hrow' := I3.good row (List.mem_of_getElem? hrow)
      repeat walk_at "rd"
      rename_i q nq
      refine ⟨ty_list (SqL.of (by walk_at "lk")), ?_⟩
      repeat walk_at "rd"
      refine x_draw (P5.keep ((Kx.refl [] H5).new nq) (by simp) (by simp) (Nat.le_refl _)) (by omega) (by omega) (by omega) fun d3 H6 c0 c1 k6 P6 => ?_
      have hr6 : H6 r = some (.lst row) := k6 r _ (by simpa using nrp) (lk_ne hr nq)
      replace K3 := (K3.new nq).trans k6
      replace I3 := (I3.keep ((Kx.refl [] H5).new nq) (by simp)).keep k6 hSp
      clear k6 P5
      repeat walk_at "rd"
      refine ⟨_, _, _, _, _, rfl, (I3.mono (Nat.le_succ i)).wr hrs (row' := row.take d3.toNat ++ [V.int (1 + (i : Int))] ++ row.drop d3.toNat) ?_ ?_, fun v h1 h2 => ?_, K3.wr (.inl hr0), ?_⟩
      · rw [ins_perm.length_eq, List.length_append, List.length_singleton]
        omega
      · intro v hv
        rcases List.mem_append.mp (ins_perm.mem_iff.mp hv) with hv | hv
        · exact hrow'.2 v hv
        · exact .inr ⟨_, liveI_mem (by omega) (by omega), List.mem_singleton.mp hv⟩
      · by_cases hv : v < 1 + i
        · exact held_set hrow (fun x hx => ins_perm.mem_iff.mpr (List.mem_append_left _ hx)) (hh3 v h1 hv)
        · have hv2 : (v : Int) = 1 + (i : Int) := by omega
          rw [hv2]
          exact held_new hrow (ins_perm.mem_iff.mpr (by simp))
      · exact P6.up (upd_ne nrp.symm) (upd_ne nrc.symm) (by omega)
    · rintro σ H3 ⟨rows, y4, y6, y7, y8, rfl, I3, hh3, K3, P3⟩
      have hh : ∀ v : Nat, 1 ≤ v → v < N → ∃ row ∈ rows, V.int v ∈ row := fun v h1 h2 => hh3 v h1 (by omega)
      replace I3 := I3.mono (show (N - 1 : Int).toNat ≤ 39 by omega)
      clear hh3
      repeat walk_at "rd"
      refine x_draw P3 (by omega) (by omega) (by omega) fun u1 H5 g0 g1 k5 P5 => ?_
      replace K3 := K3.trans k5
      replace I3 := I3.keep k5 hSp
      clear k5 P3
      obtain ⟨cnt, hat, hc0, hc1⟩ : ∃ cnt, atI [V.int 0, V.int u1, V.int N, V.int (2 * (N : Int))] way = some (.int cnt) ∧ 0 ≤ cnt ∧ cnt ≤ 80 := by
        obtain ⟨z, hz, _, hz2⟩ := at_ints (zs := [0, u1, (N : Int), 2 * (N : Int)]) w0 (by simpa using w1)
        refine ⟨z, hz2, ?_⟩
        simp only [List.mem_cons, List.not_mem_nil, or_false] at hz
        omega
      repeat walk_at "rd"
      rename_i q nq
      replace K3 := K3.new (o := .lst [V.int 0, V.int u1, V.int N, V.int (2 * (N : Int))]) nq
      replace I3 := I3.keep ((Kx.refl [] H5).new (o := .lst [V.int 0, V.int u1, V.int N, V.int (2 * (N : Int))]) nq) (by simp)
      have P6 := P5.keep ((Kx.refl [] H5).new (o := .lst [V.int 0, V.int u1, V.int N, V.int (2 * (N : Int))]) nq) (by simp) (by simp) (Nat.le_refl _)
      generalize upd H5 q (.lst [V.int 0, V.int u1, V.int N, V.int (2 * (N : Int))]) = H6 at *
      refine y_forR1 hc0 (by omega) ⟨fun i σ H7 => ∃ rows y4 y6 y7 y8 y9 y10, σ = [some (.ref p), some (.int N), some (.int way), some (.int deep), y4, some (.ref R), y6, y7, y8, y9, y10] ∧
        RowsI H H7 R rs rows (liveI N) 39 ∧ (∀ v : Nat, 1 ≤ v → v < N → ∃ row ∈ rows, V.int v ∈ row) ∧ Kx [p] H H7 ∧ PenAt H7 p c (n + 130 + 4 * i), ⟨_, _, _, _, _, _, _, rfl, I3, hh, K3, P6.keep (Kx.refl [] H6) (by simp) (by simp) (by omega)⟩, fun _ _ _ _ _ => trivial, ?_, ?_⟩
      · rintro i x σ H7 H7' hi ⟨rows, y4, y6, y7, y8, y9, y10, rfl, I3, hh, K3, P3⟩ ⟨rfl, rfl⟩
        have hi2 : i < 80 := by omega
        repeat walk_at "rd"
        refine x_draw P3 (by omega) (by omega) (by omega) fun d1 H4 a0 a1 k4 P4 => ?_
        replace K3 := K3.trans k4
        replace I3 := I3.keep k4 hSp
        clear k4 P3
        repeat walk_at "rd"
        refine x_draw P4 (by omega) (by omega) (by omega) fun d2 H5 b0 b1 k5 P5 => ?_
        replace K3 := K3.trans k5
        replace I3 := I3.keep k5 hSp
        clear k5 P4
        refine x_name ?_
        simp only [List.set_cons_zero, List.set_cons_succ]
        refine x_seqG (fun σ H6 => ∃ (za zb : Int), σ = [some (.ref p), some (.int N), some (.int way), some (.int deep), some (.int (0 + (i : Int))), some (.ref R), y6, y7, y8, some (.int za), some (.int zb)] ∧ 0 ≤ za ∧ za < N ∧ 0 ≤ zb ∧ zb < N ∧ RowsI H H6 R rs rows (liveI N) 39 ∧ Kx [p] H H6 ∧ PenAt H6 p c (n + 130 + 4 * i + 3)) (fun G hG => ?_) ?_
        · repeat walk_at "rd"
          have fin : ∀ Hx, RowsI H Hx R rs rows (liveI N) 39 → Kx [p] H Hx → PenAt Hx p c (n + 130 + 4 * i + 3) → ∀ zb : Int, 0 ≤ zb → zb < N → ∀ za : Int, 0 ≤ za → za < N → G [some (.ref p), some (.int N), some (.int way), some (.int deep), some (.int (0 + (i : Int))), some (.ref R), y6, y7, y8, some (.int za), some (.int zb)] Hx := fun Hx h1 h2 h3 zb h4 h5 za h6 h7 => hG _ _ ⟨za, zb, rfl, h6, h7, h4, h5, h1, h2, h3⟩
          by_cases hle : d2 ≤ d1
          · refine iteP (decide_eq_true hle) ?_
            repeat walk_at "rd"
            by_cases hw3 : way < 3
            · refine iteP (decide_eq_true hw3) ?_
              repeat walk_at "rd"
              exact fin _ I3 K3 (P5.up rfl rfl (by omega)) _ (by split <;> split <;> split <;> omega) (by split <;> split <;> split <;> omega) _ (by split <;> omega) (by split <;> omega)
            · refine iteN (decide_eq_false hw3) ?_
              repeat walk_at "rd"
              refine x_draw P5 (by omega) (by omega) (by omega) fun d3 H6 c0 c1 k6 P6 => ?_
              repeat walk_at "rd"
              by_cases hd3 : 0 < d3
              · refine iteP (decide_eq_true hd3) ?_
                repeat walk_at "rd"
                exact fin _ (I3.keep k6 hSp) (K3.trans k6) (P6.up rfl rfl (by omega)) _ (by split <;> split <;> split <;> omega) (by split <;> split <;> split <;> omega) _ (by split <;> omega) (by split <;> omega)
              · refine iteN (decide_eq_false hd3) ?_
                repeat walk_at "rd"
                exact fin _ (I3.keep k6 hSp) (K3.trans k6) (P6.up rfl rfl (by omega)) _ b0 b1 _ a0 a1
          · refine iteN (decide_eq_false hle) ?_
            repeat walk_at "rd"
            try refine iteN (by decide) ?_
            repeat walk_at "rd"
            exact fin _ I3 K3 (P5.up rfl rfl (by omega)) _ b0 b1 _ a0 a1
        clear K3 I3 P5
        rintro σ H6 ⟨za, zb, rfl, za0, za1, zb0, zb1, I3, K3, P6⟩
        obtain ⟨j, r, row, rfl, hrs, hrow, hr, hatr, hr0⟩ := I3.get za0 (by omega)
        have hR := I3.hR
        have nrp := hnp r hr0
        have nrc := hnc r hr0
        have hrow' := I3.good row (List.mem_of_getElem? hrow)
        repeat walk_at "rd"
        have stay : ∀ (σ : SS), σ = [some (.ref p), some (.int N), some (.int way), some (.int deep), some (.int (0 + (i : Int))), some (.ref R), y6, y7, some (.ref r), some (.int (j : Int)), some (.int zb)] → ∃ rows y4 y6 y7 y8 y9 y10, σ = [some (.ref p), some (.int N), some (.int way), some (.int deep), y4, some (.ref R), y6, y7, y8, y9, y10] ∧
            RowsI H H6 R rs rows (liveI N) 39 ∧ (∀ v : Nat, 1 ≤ v → v < N → ∃ row ∈ rows, V.int v ∈ row) ∧ Kx [p] H H6 ∧ PenAt H6 p c (n + 130 + 4 * (i + 1)) := fun σ e => ⟨rows, _, _, _, _, _, _, e, I3, hh, K3, P6.up rfl rfl (by omega)⟩
        by_cases hl : (row.length : Int) < 38
        · refine iteP (decide_eq_true hl) ?_
          by_cases hdo : (j : Int) ≠ zb ∨ way = 3
          · refine x_orG (fun H' => H' = H6) (fun Gq hGq => ?_) ?_
            · repeat walk_at "rd"
              by_cases hne : (j : Int) = zb
              · have h3 := hdo.resolve_left (fun h => h hne)
                refine iteN (by simp [hne]) ?_
                repeat walk_at "rd"
                rw [decide_eq_true (show V.int way = V.int 3 by rw [h3])]
                exact hGq _ rfl
              · refine iteP (by simp [hne]) ?_
                exact hGq _ rfl
            · rintro _ rfl
              repeat walk_at "rd"
              refine ⟨ty_list (SqL.of hr), ?_⟩
              repeat walk_at "rd"
              refine x_draw P6 (by omega) (by omega) (by omega) fun d4 H8 c0 c1 k8 P8 => ?_
              have hr8 : H8 r = some (.lst row) := k8 r _ (by simpa using nrp) hr
              replace K3 := K3.trans k8
              replace I3 := I3.keep k8 hSp
              repeat walk_at "rd"
              refine ⟨_, _, _, _, _, _, _, rfl, I3.wr hrs (row' := row.take d4.toNat ++ [V.int zb] ++ row.drop d4.toNat) ?_ ?_, fun v h1 h2 => ?_, K3.wr (.inl hr0), ?_⟩
              · rw [ins_perm.length_eq, List.length_append, List.length_singleton]
                omega
              · intro v hv
                rcases List.mem_append.mp (ins_perm.mem_iff.mp hv) with hv | hv
                · exact hrow'.2 v hv
                · exact .inr ⟨_, liveI_mem zb0 zb1, List.mem_singleton.mp hv⟩
              · exact held_set hrow (fun x hx => ins_perm.mem_iff.mpr (List.mem_append_left _ hx)) (hh v h1 h2)
              · exact P8.up (upd_ne nrp.symm) (upd_ne nrc.symm) (by omega)
          · have hne : (j : Int) = zb := by
              by_cases h : (j : Int) = zb
              · exact h
              · exact absurd (.inl h) hdo
            have h3 : way ≠ 3 := fun h => hdo (.inr h)
            repeat walk_at "rd"
            refine iteN (by simp [hne]) ?_
            repeat walk_at "rd"
            refine iteN (decide_eq_false fun h => h3 (V.int.inj h)) ?_
            repeat walk_at "rd"
            exact stay _ rfl
        · refine iteN (decide_eq_false hl) ?_
          repeat walk_at "rd"
          try refine iteN (by decide) ?_
          repeat walk_at "rd"
          exact stay _ rfl
      · rintro σ H7 ⟨rows, y4, y6, y7, y8, y9, y10, rfl, I3, hh, K3, P3⟩
        repeat walk_at "rd"
        refine y_forL (xs := rs.map V.ref) (SqL.of I3.hR) ⟨fun i σ H8 => ∃ rows y8, σ = [some (.ref p), some (.int N), some (.int way), some (.int deep), y4, some (.ref R), y6, y7, y8, y9, y10] ∧
          RowsI H H8 R rs rows (liveI N) 40 ∧ (∀ (j : Nat) (row : List V), i ≤ j → rows[j]? = some row → row.length ≤ 39) ∧ (∀ v : Nat, 1 ≤ v → v < N → ∃ row ∈ rows, V.int v ∈ row) ∧ Kx [p] H H8 ∧ PenAt H8 p c (n + 500 + 2 * i), ?_, ?_, ?_, ?_⟩
        · exact ⟨rows, _, rfl, I3.mono (by decide), fun j row _ hj => (I3.good row (List.mem_of_getElem? hj)).1, hh, K3, P3.up rfl rfl (by omega)⟩
        · rintro i σ H8 hi ⟨rows, y8, rfl, I8, _⟩
          exact SqL.of I8.hR
        · rintro i x σ H8 H8' hi ⟨rows, y8, rfl, I8, hs8, hh, K8, P8⟩ ⟨rfl, hx⟩
          rw [List.length_map] at hi
          replace hx : (rs.map V.ref)[i]? = some x := hx
          rw [List.getElem?_map, List.getElem?_eq_getElem hi] at hx
          cases Option.some.inj hx
          obtain ⟨j, r, row, hij, hrs, hrow, hr, hatr, hr0⟩ := I8.get (z := (i : Int)) (by omega) (by omega)
          have hij2 : i = j := by omega
          subst hij2
          rw [List.getElem?_eq_getElem hi] at hrs
          cases Option.some.inj hrs
          have hrs : rs[i]? = some rs[i] := List.getElem?_eq_getElem hi
          generalize rs[i] = r at *
          have hrow' := I8.good row (List.mem_of_getElem? hrow)
          have hr39 := hs8 i row (Nat.le_refl _) hrow
          have nrp := hnp r hr0
          have nrc := hnc r hr0
          repeat walk_at "rd"
          refine x_draw P8 (by omega) (by omega) (by omega) fun d4 H9 c0 c1 k9 P9 => ?_
          have hr9 : H9 r = some (.lst row) := k9 r _ (by simpa using nrp) hr
          replace K8 := K8.trans k9
          replace I8 := I8.keep k9 hSp
          repeat walk_at "rd"
          by_cases hd : d4 = 0
          · refine iteP (decide_eq_true (by rw [hd])) ?_
            repeat walk_at "rd"
            refine ⟨ty_list (SqL.of hr9), ?_⟩
            repeat walk_at "rd"
            refine x_draw P9 (by omega) (by omega) (by omega) fun d5 HA e0' e1' kA PA => ?_
            have hrA : HA r = some (.lst row) := kA r _ (by simpa using nrp) hr9
            replace K8 := K8.trans kA
            replace I8 := I8.keep kA hSp
            repeat walk_at "rd"
            refine ⟨_, _, rfl, I8.wr hrs (row' := row.take d5.toNat ++ [V.non] ++ row.drop d5.toNat) ?_ ?_, fun j row2 hj hrow2 => ?_, fun v h1 h2 => ?_, K8.wr (.inl hr0), ?_⟩
            · rw [ins_perm.length_eq, List.length_append, List.length_singleton]
              omega
            · intro v hv
              rcases List.mem_append.mp (ins_perm.mem_iff.mp hv) with hv | hv
              · exact hrow'.2 v hv
              · exact .inl (List.mem_singleton.mp hv)
            · rw [List.getElem?_set_ne (by omega)] at hrow2
              exact hs8 j row2 (by omega) hrow2
            · exact held_set hrow (fun x hx => ins_perm.mem_iff.mpr (List.mem_append_left _ hx)) (hh v h1 h2)
            · exact PA.up (upd_ne nrp.symm) (upd_ne nrc.symm) (by omega)
          · refine iteN (decide_eq_false (fun h => hd (V.int.inj h))) ?_
            repeat walk_at "rd"
            exact ⟨rows, _, rfl, I8, fun j row2 hj hrow2 => hs8 j row2 (by omega) hrow2, hh, K8, P9.up rfl rfl (by omega)⟩
        · rintro σ H8 ⟨rows, y8, rfl, I8, _, hh, K8, P8⟩
          rw [List.length_map] at P8
          repeat walk_at "rd"
          exact k R rs rows H8 I8 hrl hh K8 (P8.up rfl rfl (by omega))
end

theorem sqT_kx {S : List Addr} {K : PySem.W.Frag} {H H' : Hp} {a : Addr} {xs : List V} (h : SqT K H a xs) (k : Kx S H H') (l : ∀ b ∈ S, ∃ ys : List V, H b = some (.lst ys)) : SqT K H' a xs := by
  rcases h with h | h
  · refine .inl ?_
    rcases h with h | ⟨o, h⟩
    · exact .inl (k _ _ (fun z => by obtain ⟨ys, e⟩ := l _ z; rw [h] at e; cases e) h)
    · exact .inr ⟨o, k _ _ (fun z => by obtain ⟨ys, e⟩ := l _ z; rw [h] at e; cases e) h⟩
  · exact .inr h
theorem sqT_wr {K : PySem.W.Frag} {H : Hp} {a p : Addr} {xs ys : List V} {o : HO} (h : SqT K H a xs) (l : H p = some (.lst ys)) : SqT K (upd H p o) a xs :=
  sqT_kx (S := [p]) h (fun b u hb e => lk_ne2 (fun z => hb (by rw [z]; exact List.mem_cons_self)) e) (fun b hb => by rw [List.mem_singleton.mp hb]; exact ⟨ys, l⟩)
theorem pen_lst {H : Hp} {p c : Addr} {n : Nat} (h : PenAt H p c n) : ∀ b ∈ [p], ∃ ys : List V, H b = some (.lst ys) := by
  obtain ⟨cs, pl, r, hp, _⟩ := h
  intro b hb
  rw [List.mem_singleton.mp hb]
  exact ⟨_, hp⟩
/-- the rows of a heap, in a list of values -/
structure RowsT (K : PySem.W.Frag) (H : Hp) (vs : List V) (slots : List (Option Rw)) : Prop where
  len : vs.length = slots.length
  at_ : ∀ (i : Nat) (o : Option Rw), slots[i]? = some o → (o = none ∧ vs[i]? = some V.non) ∨ ∃ r row, o = some row ∧ vs[i]? = some (.ref r) ∧ SqT K H r (rowV row)
theorem RowsT.kx {S : List Addr} {K : PySem.W.Frag} {H H' : Hp} {vs : List V} {slots : List (Option Rw)} (h : RowsT K H vs slots) (k : Kx S H H') (l : ∀ b ∈ S, ∃ ys : List V, H b = some (.lst ys)) : RowsT K H' vs slots := by
  refine ⟨h.len, fun i o ho => ?_⟩
  rcases h.at_ i o ho with z | ⟨r, row, e1, e2, e3⟩
  · exact .inl z
  · exact .inr ⟨r, row, e1, e2, sqT_kx e3 k l⟩
theorem RowsT.keep {K : PySem.W.Frag} {H H' : Hp} {vs : List V} {slots : List (Option Rw)} (h : RowsT K H vs slots) (k : Kx [] H H') : RowsT K H' vs slots := h.kx k (by simp)
theorem RowsT.wr {K : PySem.W.Frag} {H : Hp} {p : Addr} {ys vs : List V} {o : HO} {slots : List (Option Rw)} (h : RowsT K H vs slots) (l : H p = some (.lst ys)) : RowsT K (upd H p o) vs slots :=
  h.kx (S := [p]) (fun b u hb e => lk_ne2 (fun z => hb (by rw [z]; exact List.mem_cons_self)) e) (fun b hb => by rw [List.mem_singleton.mp hb]; exact ⟨ys, l⟩)
theorem RowsT.set {K : PySem.W.Frag} {H : Hp} {vs : List V} {slots : List (Option Rw)} (h : RowsT K H vs slots) {n : Nat} {t : Addr} {row : Rw} (ht : SqT K H t (rowV row)) (hn : n < slots.length) : RowsT K H (vs.set n (.ref t)) (slots.set n (some row)) := by
  refine ⟨by rw [List.length_set, List.length_set]; exact h.len, fun i o ho => ?_⟩
  by_cases e : i = n
  · subst e
    rw [List.getElem?_set_self hn] at ho
    cases Option.some.inj ho
    exact .inr ⟨t, row, rfl, List.getElem?_set_self (by rw [h.len]; exact hn), ht⟩
  · rw [List.getElem?_set_ne (Ne.symm e)] at ho
    rw [List.getElem?_set_ne (Ne.symm e)]
    exact h.at_ i o ho
theorem rowV_len (a : Rw) : (rowV a).length = a.length := List.length_map _
theorem rowV_app (a b : Rw) : rowV (a ++ b) = rowV a ++ rowV b := List.map_append

/-- the row with the drawn names -/
def renR (ns : List Nat) (row : List V) : Rw := row.map fun v => (unV v).map fun m => ns.getD m 0
theorem renR_len (ns : List Nat) (row : List V) : (renR ns row).length = row.length := List.length_map _
/-- every live node is referred to -/
def Refd (slots : List (Option Rw)) (outs : List Int) : Prop := ∀ p, isLive slots p = true → 1 ≤ (outs[p]?).getD 0 ∨ ∃ (h : Nat) (row : Rw), slots[h]? = some (some row) ∧ some p ∈ row
theorem list_ext_none {M : Nat} {l : List (Option Rw)} : (List.replicate M (none : Option Rw))[0]? = l[0]? → True := fun _ => trivial
theorem rep_non (M : Nat) : (List.replicate M [V.non]).flatten = (List.replicate M (none : Option Rw)).map fun _ => V.non := by
  induction M with
  | zero => rfl
  | succ M ih => rw [List.replicate_succ, List.flatten_cons, ih]; rfl
theorem rep_int (M : Nat) (z : Int) : (List.replicate M [V.int z]).flatten = (List.replicate M z).map V.int := by
  induction M with
  | zero => rfl
  | succ M ih => rw [List.replicate_succ, List.flatten_cons, ih]; rfl
section
variable {P : Program} {w : World} {K : PySem.W.Frag} {mg : Str → Option Value} {base : Heap}

def spHeap (K : PySem.W.Frag) : Sp := fun vs H Q _ => ∃ (p c : Addr) (n M : Nat), vs = [.ref p, .int M] ∧ PenAt H p c n ∧ 1 ≤ M ∧ M ≤ 40 ∧ n ≤ 800000 ∧
  ∀ (B D : Addr) (lab : Nat) (slots : List (Option Rw)) (outs : List Int) (ls : List Nat) H', H' B = some (.tup [.ref D, .int lab]) → HeapT K H' D slots outs → Wf slots outs → Refd slots outs → 1 ≤ slots.length → slots.length ≤ M + 3 → (∀ p, isLive slots p = true ↔ p ∈ ls) → ls.Nodup → ls.length ≤ M → isLive slots lab = true → (∃ z, outs[lab]? = some z ∧ 1 ≤ z) → Kx [p] H H' → PenAt H' p c (n + 1000) → Q (.ref B) H'
theorem ok_heap {f : Addr} {fd : FuncData} (F : Fun K "_law_heap" "_law_heap" sQHeap f fd) (T : Txt mg) (l_law_draw : Lo P w K mg base "_law_draw" 1 ["_law_pen_here", "_law_bound"] spDraw) (l_law_order : Lo P w K mg base "_law_order" 2 ["_law_pen_here", "_law_size_here"] spOrder)
    (l_law_size : Lo P w K mg base "_law_size" 2 ["_law_pen_here", "_law_most"] spSize) (l_law_links : Lo P w K mg base "_law_links" 2 ["_law_pen_here", "_law_size_here"] (spLinks K)) : FnOk P w K mg base CX0 3 f fd ["_law_pen_here", "_law_most"] (spHeap K) := by
  refine F.ok scQHeap (fun vs H Q E h => ?_) (fun cdv A outer s H vs Q E hr h => ?_)
  · obtain ⟨p, c, n, M, rfl, _⟩ := h
    rfl
  · obtain ⟨p, c, n, M0, rfl, hpen, hM1, hM40, hn, k⟩ := h
    refine ⟨_, (pss_cons (ps_set (i := 2) scQHeap.nd rfl (Or.inl rfl) (pe_lo l_law_size (hr.mono (by decide)) (by rfl) (pa_cons (pv 0) (pa_cons (pv 1) pa_nil))))
      (pss_cons (ps_set (i := 3) scQHeap.nd rfl (Or.inl rfl) (pe_lo l_law_links (hr.mono (by decide)) (by rfl) (pa_cons (pv 0) (pa_cons (pv 2) pa_nil))))
      (pss_cons (ps_set (i := 4) scQHeap.nd rfl (Or.inl rfl) (pe_callB (call_min2 rfl) (by rfl) T.b_min boot'_min (pa_cons (pe_op op_sub pe_int (pv 2)) (pa_cons (pe_ix ix_list (pe_lst (pa_cons pe_int (pa_cons pe_int (pa_cons pe_int (pa_cons (pe_lo l_law_draw (hr.mono (by decide)) (by rfl) (pa_cons (pv 0) (pa_cons pe_int pa_nil))) pa_nil))))) (pe_lo l_law_draw (hr.mono (by decide)) (by rfl) (pa_cons (pv 0) (pa_cons pe_int pa_nil))) (fun _ _ => rfl)) pa_nil))))
      (pss_cons (ps_set (i := 5) scQHeap.nd rfl (Or.inr rfl) (pe_lo l_law_order (hr.mono (by decide)) (by rfl) (pa_cons (pv 0) (pa_cons (pe_op op_add (pv 2) (pv 4)) pa_nil))))
      (pss_cons (ps_set (i := 6) scQHeap.nd rfl (Or.inl rfl) (pe_op op_rep (pe_lst (pa_cons pe_non pa_nil)) (pe_op op_add (pv 2) (pv 4))))
      (pss_cons (ps_set (i := 7) scQHeap.nd rfl (Or.inl rfl) (pe_op op_rep (pe_lst (pa_cons pe_int pa_nil)) (pe_op op_add (pv 2) (pv 4))))
      (pss_cons (ps_for PassesOwn.never rfl (pi_range1 (by rfl) T.b_range (pa_cons (pv 2) pa_nil)) (pg_name (i := 8) scQHeap.nd rfl (Or.inl rfl))
      (pss_cons (ps_asg (pe_callTy call_tuple_of (by rfl) T.b_tuple boot'_tuple (pa_cons (pe_lc (own := [("_law_held", 9)]) rfl scQHeap.nd (pi_list (pe_ix ix_list (pv 3) (pv 8) (fun _ _ => rfl))) (blkOk_by (N := ["_law_pen_here", "_law_most", "_law_size_here", "_law_rows", "_law_spare", "_law_names", "_law_slots", "_law_outside", "_law_v", "_law_held"]) (sc := defScope sQHeap) (by decide +kernel)) (fun _ _ _ _ _ => (pg_name (i := 9) scQHeap.nd rfl (Or.inl rfl))) (fun _ _ _ _ _ => pts_nil) (fun _ _ _ _ _ => (pe_ifExp (pt_cmpR op_isN1 (pv 9) pe_non (nomark _)) pe_non (pe_ix (ix_listK (K := K)) (pv 5) (pv 9) (fun _ _ => rfl))))) pa_nil)) (pg_sub (pv 6) (pe_ix ix_list (pv 5) (pv 8) (fun _ _ => rfl)) set_list))
      (pss_one (ps_if (PW.pt (pw_and (pt_cmpR op_gt (pv 8) pe_int (nomark _)) (pw_and1 (pt_cmpR op_eq (pe_lo l_law_draw (hr.mono (by decide)) (by rfl) (pa_cons (pv 0) (pa_cons pe_int pa_nil))) pe_int (nomark _))))) (pss_one (ps_asg (pe_op op_add pe_int (pe_lo l_law_draw (hr.mono (by decide)) (by rfl) (pa_cons (pv 0) (pa_cons pe_int pa_nil)))) (pg_sub (pv 7) (pe_ix ix_list (pv 5) (pv 8) (fun _ _ => rfl)) set_list))) pss_nil))))
      (pss_cons (ps_asg (pe_ix ix_list (pe_lst (pa_cons pe_int (pa_cons pe_int (pa_cons pe_int (pa_cons pe_int (pa_cons pe_int pa_nil)))))) (pe_lo l_law_draw (hr.mono (by decide)) (by rfl) (pa_cons (pv 0) (pa_cons pe_int pa_nil))) (fun _ _ => rfl)) (pg_sub (pv 7) (pe_ix ix_list (pv 5) pe_int (fun _ _ => rfl)) set_list))
      (pss_one (ps_ret (pe_tup (pa_cons (pe_tup (pa_cons (pe_callTy call_tuple_of (by rfl) T.b_tuple boot'_tuple (pa_cons (pv 6) pa_nil)) (pa_cons (pe_callTy call_tuple_of (by rfl) T.b_tuple boot'_tuple (pa_cons (pv 7) pa_nil)) pa_nil))) (pa_cons (pe_ix ix_list (pv 5) pe_int (fun _ _ => rfl)) pa_nil))))))))))))), ?_⟩
    refine x_start (σ' := [some (.ref p), some (.int M0), none, none, none, none, none, none, none, none]) rfl ?_
    try dsimp only [cxOf]
    obtain ⟨⟨op, hp⟩, oc, hc⟩ := hpen.some
    repeat walk_at "rd"
    refine ⟨p, c, n, M0, rfl, hpen, hM1, by omega, by omega, fun N H1 hN1 hN2 k1 P1 => ?_⟩
    obtain ⟨⟨op1, hp1⟩, oc1, hc1⟩ := P1.some
    repeat walk_at "rd"
    refine ⟨p, c, _, N, rfl, P1, hN1, by omega, by omega, fun R rs rows H2 I2 hrl hheld k2 P2 => ?_⟩
    repeat walk_at "rd"
    refine x_draw P2 (by omega) (by decide) (by decide) fun u1 H3 a0 a1 k3 P3 => ?_
    have I3 := I2.keep k3 (by obtain ⟨⟨o, ho⟩, _⟩ := P1.some; simpa using ⟨o, ho⟩)
    repeat walk_at "rd"
    rename_i q nq
    have kq := (Kx.refl [] H3).new (o := .lst [V.int 0, V.int 0, V.int 1, V.int u1]) nq
    have P4 := P3.keep kq (by simp) (by simp) (Nat.le_refl _)
    have I4 := I3.keep kq (by simp)
    have eq4 := upd_same (H := H3) (a := q) (o := .lst [V.int 0, V.int 0, V.int 1, V.int u1])
    have nqp : q ≠ p := fun z => by
      obtain ⟨⟨o, ho⟩, _⟩ := P3.some
      rw [z, ho] at nq
      cases nq
    have k04 := ((k1.trans k2).trans k3).trans (kq.mono (by simp))
    generalize upd H3 q (.lst [V.int 0, V.int 0, V.int 1, V.int u1]) = H4 at *
    refine x_draw P4 (by omega) (by decide) (by decide) fun u2 H5 b0 b1 k5 P5 => ?_
    have eq5 := k5 q _ (by simpa using nqp) eq4
    have I5 := I4.keep k5 (by obtain ⟨⟨o, ho⟩, _⟩ := P1.some; simpa using ⟨o, ho⟩)
    obtain ⟨sp, hat, hs0, hs3⟩ : ∃ sp, atI [V.int 0, V.int 0, V.int 1, V.int u1] u2 = some (.int sp) ∧ 0 ≤ sp ∧ sp ≤ 3 := by
      obtain ⟨z, hz, _, hz2⟩ := at_ints (zs := [0, 0, 1, u1]) b0 (by simpa using b1)
      refine ⟨z, hz2, ?_⟩
      simp only [List.mem_cons, List.not_mem_nil, or_false] at hz
      omega
    repeat walk_at "rd"
    obtain ⟨sp', hsp, hsp0, hsp3, hsp40⟩ : ∃ sp' : Nat, (if sp < 40 - (N : Int) then sp else 40 - (N : Int)) = sp' ∧ True ∧ sp' ≤ 3 ∧ N + sp' ≤ 40 := by
      refine ⟨(if sp < 40 - (N : Int) then sp else 40 - (N : Int)).toNat, ?_, trivial, ?_, ?_⟩ <;> (split <;> omega)
    rw [hsp, show ((N : Int) + (sp' : Int)) = ((N + sp' : Nat) : Int) by omega]
    generalize hM : N + sp' = M at *
    refine ⟨p, c, _, M, rfl, P5, by omega, by omega, fun ln ns H6 nln hperm k6 eln P6 => ?_⟩
    have I6 := I5.keep k6 (by obtain ⟨⟨o, ho⟩, _⟩ := P1.some; simpa using ⟨o, ho⟩)
    have k06 := (k04.trans k5).trans k6
    have hnl : ns.length = M := by rw [hperm.length_eq, List.length_range]
    have hnd : ns.Nodup := hperm.symm.nodup List.nodup_range
    have hnlt : ∀ m ∈ ns, m < M := fun m hm => List.mem_range.mp (hperm.mem_iff.mp hm)
    have hgd : ∀ i : Nat, i < M → ns[i]? = some (ns.getD i 0) := fun i hi => by
      rw [List.getElem?_eq_getElem (by omega), List.getD_eq_getElem?_getD, List.getElem?_eq_getElem (by omega)]
      rfl
    have hgm : ∀ i : Nat, i < M → ns.getD i 0 < M := fun i hi => hnlt _ (List.mem_of_getElem? (hgd i hi))
    have hgi : ∀ i j : Nat, i < M → j < M → ns.getD i 0 = ns.getD j 0 → i = j := fun i j hi hj e => (List.getElem?_inj (by omega) hnd).mp ((hgd i hi).trans ((congrArg some e).trans (hgd j hj).symm))
    obtain ⟨⟨op5, hp5⟩, _⟩ := P5.some
    clear k3 k5 k6 P1 P2 P3 P4 P5 I2 I3 I4 I5 k1 k2 kq eq4 eq5 k04
    obtain ⟨⟨op6, hp6⟩, oc6, hc6⟩ := P6.some
    have fr6 : ∀ b, H6 b = none → H b = none := fun b hb => by
      cases e : H b with
      | none => rfl
      | some o =>
        by_cases hbp : b = p
        · rw [hbp, hp6] at hb
          cases hb
        · rw [k06 b o (by simpa using hbp) e] at hb
          cases hb
    repeat walk_at "rd"
    rename_i q1 nq1
    refine x_rep (xs := [V.non]) upd_same (by omega) (by omega) (show 1 * Int.toNat ((N : Int) + (sp' : Int)) ≤ sizeLine from Nat.le_of_lt (small1000 (by omega))) fun S nS => ?_
    rw [show Int.toNat ((N : Int) + sp') = M by omega, rep_non]
    have kq1 := (Kx.refl [] H6).new (o := .lst [V.non]) nq1
    have nS6 := kq1.fresh (by simp) nS
    have kS := kq1.new (o := .lst ((List.replicate M (none : Option Rw)).map fun _ => V.non)) nS
    have eS := upd_same (H := upd H6 q1 (.lst [V.non])) (a := S) (o := .lst ((List.replicate M (none : Option Rw)).map fun _ => V.non))
    generalize upd (upd H6 q1 (.lst [V.non])) S (.lst ((List.replicate M (none : Option Rw)).map fun _ => V.non)) = H7 at *
    repeat walk_at "rd"
    rename_i q2 nq2
    refine x_rep (xs := [V.int 0]) upd_same (by omega) (by omega) (show 1 * Int.toNat ((N : Int) + (sp' : Int)) ≤ sizeLine from Nat.le_of_lt (small1000 (by omega))) fun O nO => ?_
    rw [show Int.toNat ((N : Int) + sp') = M by omega, rep_int]
    have kq2 := (Kx.refl [] H7).new (o := .lst [V.int 0]) nq2
    have nO7 := kq2.fresh (by simp) nO
    have nO6 := kS.fresh (by simp) nO7
    have nSO : S ≠ O := ne_of_none eS nO7
    have kO := kq2.new (o := .lst ((List.replicate M (0 : Int)).map V.int)) nO
    have eO := upd_same (H := upd H7 q2 (.lst [V.int 0])) (a := O) (o := .lst ((List.replicate M (0 : Int)).map V.int))
    have eS8 := kO S _ (by simp) eS
    have k68 := kS.trans kO
    generalize upd (upd H7 q2 (.lst [V.int 0])) O (.lst ((List.replicate M (0 : Int)).map V.int)) = H8 at *
    have P8 := P6.keep k68 (by simp) (by simp) (Nat.le_refl _)
    have nRp : R ≠ p := fun e => by
      have := I6.frR
      rw [e, hp1] at this
      cases this
    have nrp : ∀ r ∈ rs, r ≠ p := fun r hr e => by
      have := I6.fr r hr
      rw [e, hp1] at this
      cases this
    have nlp : ln ≠ p := fun e => by
      rw [e, hp5] at nln
      cases nln
    have nSp : S ≠ p := fun e => by rw [e, hp6] at nS6; cases nS6
    have nOp : O ≠ p := fun e => by rw [e, hp6] at nO6; cases nO6
    have nSc : S ≠ c := fun e => by rw [e, hc6] at nS6; cases nS6
    have nOc : O ≠ c := fun e => by rw [e, hc6] at nO6; cases nO6
    have hrowN : ∀ v : Nat, v < N → ∃ r row, rs[v]? = some r ∧ rows[v]? = some row ∧ H6 r = some (.lst row) ∧ atI (rs.map V.ref) (v : Int) = some (.ref r) ∧ r ≠ p ∧ row.length ≤ 40 ∧ ∀ x ∈ row, x = .non ∨ ∃ m : Nat, m < N ∧ x = V.int m := fun v hv => by
      obtain ⟨j, r, row, hj, h1, h2, h3, h4, h5⟩ := I6.get (z := (v : Int)) (by omega) (by omega)
      have : v = j := by omega
      subst this
      refine ⟨r, row, h1, h2, h3, h4, nrp r (List.mem_of_getElem? h1), (I6.good row (List.mem_of_getElem? h2)).1, fun x hx => ?_⟩
      rcases (I6.good row (List.mem_of_getElem? h2)).2 x hx with h | ⟨z, hz, h⟩
      · exact .inl h
      · obtain ⟨m, hm, rfl⟩ := List.mem_map.mp hz
        exact .inr ⟨m, List.mem_range.mp hm, h⟩
    have hR6 := I6.hR
    have rt8 : RowsT K H8 ((List.replicate M (none : Option Rw)).map fun _ => V.non) (List.replicate M none) := by
      refine ⟨by simp, fun i o ho => .inl ?_⟩
      have hi := (List.getElem?_eq_some_iff.mp ho).1
      rw [List.length_replicate] at hi
      rw [List.getElem?_replicate_of_lt hi] at ho
      cases Option.some.inj ho
      exact ⟨rfl, by rw [List.getElem?_map, List.getElem?_replicate_of_lt hi]; rfl⟩
    repeat walk_at "rd"
    refine y_forR1 (by omega) (by omega) ⟨fun i σ Hi => ∃ (vs' : List V) (slots : List (Option Rw)) (outs : List Int) (y8 : Option V), σ = [some (.ref p), some (.int M0), some (.int N), some (.ref R), some (.int sp'), some (.ref ln), some (.ref S), some (.ref O), y8, none] ∧
      Hi S = some (.lst vs') ∧ RowsT K Hi vs' slots ∧ Hi O = some (.lst (outs.map V.int)) ∧ slots.length = M ∧ outs.length = M ∧ (∀ v : Nat, v < i → ∃ row, rows[v]? = some row ∧ slots[ns.getD v 0]? = some (some (renR ns row))) ∧ (∀ u : Nat, u < M → (∀ v : Nat, v < i → ns.getD v 0 ≠ u) → slots[u]? = some none ∧ outs[u]? = some 0) ∧
      (∀ z ∈ outs, 0 ≤ z ∧ z ≤ 9) ∧ Kx [p] H6 Hi ∧ PenAt Hi p c (n + 4 + 700 + 2 + M + 2 * i), ?_, fun _ _ _ _ _ => trivial, ?_, ?_⟩
    · refine ⟨_, _, _, none, rfl, eS8, rt8, eO, List.length_replicate, List.length_replicate, fun v hv => absurd hv (by omega), fun u hu _ => ⟨List.getElem?_replicate_of_lt hu, List.getElem?_replicate_of_lt hu⟩, fun z hz => ?_, k68.mono (by simp), P8.up rfl rfl (by omega)⟩
      rw [List.eq_of_mem_replicate hz]
      decide
    · rintro i x σ Hi Hi' hi ⟨vs', slots, outs, y8, rfl, eSi, rti, eOi, hsl, hol, hdn, hun, ho9, ki, Pi⟩ ⟨rfl, rfl⟩
      have hiN : i < N := by omega
      obtain ⟨r, row, hrs, hrow, hr6, hatr, hrp, hrow40, hrv⟩ := hrowN i hiN
      have hri := ki r _ (by simpa using hrp) hr6
      have hRi := ki R _ (by simpa using nRp) hR6
      have hlni := ki ln _ (by simpa using nlp) eln
      dsimp only
      rw [Int.zero_add]
      repeat walk_at "rd"
      refine y_lcL (xs := row) (SqL.of hri) (fun Z nZ => ⟨fun t Ht => Kx [] Hi' Ht ∧ Ht Z = some (.lst (rowV (renR ns (row.take t)))), ⟨(Kx.refl _ _).new nZ, upd_same⟩, ?_, ?_, ?_⟩)
      · rintro t Ht ht ⟨kt, _⟩
        exact kt.sqL (by simp) (SqL.of hri)
      · rintro t x Ht Ht' ht ⟨kt, eZ⟩ ⟨rfl, hx⟩
        have htk : row.take (t + 1) = row.take t ++ [x] := by rw [List.take_add_one, hx]; rfl
        have hlnt := kt ln _ (by simp) hlni
        have hzl : (rowV (renR ns (row.take t))).length < sizeLine := small1000 (by rw [rowV_len, renR_len, List.length_take]; omega)
        repeat walk_at "rd"
        refine ⟨rfl, ?_⟩
        repeat walk_at "rd"
        rcases hrv x (List.mem_of_getElem? hx) with rfl | ⟨m, hm, rfl⟩
        · refine iteP (by simp) ?_
          repeat walk_at "rd"
          refine ⟨_, eZ, hzl, kt.wr (.inl nZ), ?_⟩
          rw [upd_same, htk]
          unfold renR
          rw [List.map_append, rowV_app]
          rfl
        · have hatm : atI (natV ns) (m : Int) = some (.int (ns.getD m 0 : Nat)) := natV_at (hgd m (by omega))
          refine iteN (by simp) ?_
          repeat walk_at "rd"
          refine ⟨_, eZ, hzl, kt.wr (.inl nZ), ?_⟩
          rw [upd_same, htk]
          unfold renR
          rw [List.map_append, rowV_app]
          congr 1
      rintro Ht ⟨kt, eZ⟩
      rw [List.take_length] at eZ
      have hlnt := kt ln _ (by simp) hlni
      have eSt := kt S _ (by simp) eSi
      have eOt := kt O _ (by simp) eOi
      have rtt := rti.keep kt
      have hnm := hgm i (by omega)
      have hati : atI (natV ns) (i : Int) = some (.int (ns.getD i 0 : Nat)) := natV_at (hgd i (by omega))
      repeat walk_at "rd"
      intro W nW
      have kW : Kx [] Ht (upd Ht W (.tup (rowV (renR ns row)))) := (Kx.refl [] Ht).new nW
      have eW := upd_same (H := Ht) (a := W) (o := .tup (rowV (renR ns row)))
      have hlnW := kW ln _ (by simp) hlnt
      have eSW := kW S _ (by simp) eSt
      have eOW := kW O _ (by simp) eOt
      have rtW := rtt.keep kW
      have ktW := kt.trans kW
      generalize upd Ht W (.tup (rowV (renR ns row))) = HW at *
      have ixS : ixN vs'.length ((ns.getD i 0 : Nat) : Int) = some (ns.getD i 0) := ix_nat (by rw [rti.len]; omega)
      repeat walk_at "rd"
      have hslot : (slots.set (ns.getD i 0) (some (renR ns row))).length = M := by rw [List.length_set]; exact hsl
      have rt9 : RowsT K (upd HW S (.lst (vs'.set (ns.getD i 0) (.ref W)))) (vs'.set (ns.getD i 0) (.ref W)) (slots.set (ns.getD i 0) (some (renR ns row))) := (rtW.wr eSW).set (SqT.of (lk_ne2 (fun e => by rw [e, eSW] at eW; cases eW) eW)) (by omega)
      have eO9 : (upd HW S (.lst (vs'.set (ns.getD i 0) (.ref W)))) O = some (.lst (outs.map V.int)) := lk_ne2 nSO.symm eOW
      have k9 : Kx [p] H6 (upd HW S (.lst (vs'.set (ns.getD i 0) (.ref W)))) := (ki.trans (ktW.mono (by simp))).wr (.inl nS6)
      have P9 : PenAt (upd HW S (.lst (vs'.set (ns.getD i 0) (.ref W)))) p c (n + 4 + 700 + 2 + M + 2 * i) := (Pi.keep ktW (by simp) (by simp) (Nat.le_refl _)).up (upd_ne nSp.symm) (upd_ne nSc.symm) (Nat.le_refl _)
      have eS9 := upd_same (H := HW) (a := S) (o := .lst (vs'.set (ns.getD i 0) (.ref W)))
      have hln9 := lk_ne2 (H := HW) (p := S) (o := .lst (vs'.set (ns.getD i 0) (.ref W))) (show ln ≠ S from fun e => by rw [e] at eln; rw [eln] at nS6; cases nS6) hlnW
      generalize upd HW S (.lst (vs'.set (ns.getD i 0) (.ref W))) = H9 at *
      have hdn9 : ∀ v : Nat, v < i + 1 → ∃ row, rows[v]? = some row ∧ (slots.set (ns.getD i 0) (some (renR ns row))).length = (slots.set (ns.getD i 0) (some (renR ns row))).length ∧ (slots.set (ns.getD i 0) (some (renR ns (rows.getD i []))))[ns.getD v 0]? = some (some (renR ns row)) := fun v hv => by
        have hri2 : rows.getD i [] = row := by rw [List.getD_eq_getElem?_getD, hrow]; rfl
        rw [hri2]
        by_cases e : v = i
        · subst e
          exact ⟨row, hrow, rfl, List.getElem?_set_self (by omega)⟩
        · obtain ⟨row2, h1, h2⟩ := hdn v (by omega)
          exact ⟨row2, h1, rfl, by rw [List.getElem?_set_ne (fun h => e (hgi _ _ (by omega) (by omega) h.symm))]; exact h2⟩
      have hdnF : ∀ v : Nat, v < i + 1 → ∃ row', rows[v]? = some row' ∧ (slots.set (ns.getD i 0) (some (renR ns row)))[ns.getD v 0]? = some (some (renR ns row')) := fun v hv => by
        obtain ⟨row2, h1, _, h2⟩ := hdn9 v hv
        rw [show rows.getD i [] = row by rw [List.getD_eq_getElem?_getD, hrow]; rfl] at h2
        exact ⟨row2, h1, h2⟩
      have hunF : ∀ u : Nat, u < M → (∀ v : Nat, v < i + 1 → ns.getD v 0 ≠ u) → (slots.set (ns.getD i 0) (some (renR ns row)))[u]? = some none ∧ outs[u]? = some 0 := fun u hu hv => by
        obtain ⟨h1, h2⟩ := hun u hu fun v h => hv v (by omega)
        exact ⟨by rw [List.getElem?_set_ne (hv i (by omega))]; exact h1, h2⟩
      by_cases hi0 : 0 < i
      · refine iteP (decide_eq_true (by omega)) ?_
        repeat walk_at "rd"
        refine x_draw P9 (by omega) (by decide) (by decide) fun d1 HA c0 c1 kA PA => ?_
        have rtA := rt9.kx kA (pen_lst P9)
        have eSA := kA S _ (by simpa using nSp) eS9
        have eOA := kA O _ (by simpa using nOp) eO9
        have hlnA := kA ln _ (by simpa using nlp) hln9
        have k6A := k9.trans kA
        repeat walk_at "rd"
        by_cases hd1 : d1 = 0
        · refine iteP (decide_eq_true (by rw [hd1])) ?_
          repeat walk_at "rd"
          refine x_draw PA (by omega) (by decide) (by decide) fun d2 HC c2 c3 kC PC => ?_
          have rtC := rtA.kx kC (pen_lst PA)
          have eSC := kC S _ (by simpa using nSp) eSA
          have eOC := kC O _ (by simpa using nOp) eOA
          have hlnC := kC ln _ (by simpa using nlp) hlnA
          have k6C := k6A.trans kC
          have ixO : ixN (outs.map V.int).length ((ns.getD i 0 : Nat) : Int) = some (ns.getD i 0) := ix_nat (by rw [List.length_map]; omega)
          repeat walk_at "rd"
          refine ⟨_, _, outs.set (ns.getD i 0) (1 + d2), _, rfl, lk_ne2 nSO eSC, rtC.wr eOC, by rw [upd_same, List.map_set], hslot, by rw [List.length_set]; exact hol, hdnF, fun u hu hv => ?_, fun z hz => ?_, k6C.wr (.inl nO6), PC.up (upd_ne nOp.symm) (upd_ne nOc.symm) (by omega)⟩
          · obtain ⟨h1, h2⟩ := hunF u hu hv
            exact ⟨h1, by rw [List.getElem?_set_ne (hv i (by omega))]; exact h2⟩
          · rcases List.mem_or_eq_of_mem_set hz with h | rfl
            · exact ho9 z h
            · omega
        · refine iteN (decide_eq_false (fun h => hd1 (V.int.inj h))) ?_
          repeat walk_at "rd"
          exact ⟨_, _, outs, _, rfl, eSA, rtA, eOA, hslot, hol, hdnF, hunF, ho9, k6A, PA.up rfl rfl (by omega)⟩
      · refine iteN (decide_eq_false (by omega)) ?_
        repeat walk_at "rd"
        try refine iteN (by decide) ?_
        repeat walk_at "rd"
        exact ⟨_, _, outs, _, rfl, eS9, rt9, eO9, hslot, hol, hdnF, hunF, ho9, k9, P9.up rfl rfl (by omega)⟩
    · rintro σ Hi ⟨vs', slots, outs, y8, rfl, eSi, rti, eOi, hsl, hol, hdn, hun, ho9, ki, Pi⟩
      rw [Int.toNat_natCast] at hdn hun Pi
      have hlni := ki ln _ (by simpa using nlp) eln
      have hat0 : atI (natV ns) 0 = some (.int (ns.getD 0 0 : Nat)) := natV_at (i := 0) (hgd 0 (by omega))
      have hn0 := hgm 0 (by omega)
      repeat walk_at "rd"
      rename_i q3 nq3
      have kq3 := (Kx.refl [] Hi).new (o := .lst [V.int 1, V.int 1, V.int 1, V.int 2, V.int 9]) nq3
      have eq3 := upd_same (H := Hi) (a := q3) (o := .lst [V.int 1, V.int 1, V.int 1, V.int 2, V.int 9])
      have nq3p : q3 ≠ p := fun z => by
        obtain ⟨⟨o, ho⟩, _⟩ := Pi.some
        rw [z, ho] at nq3
        cases nq3
      have P3 := Pi.keep kq3 (by simp) (by simp) (Nat.le_refl _)
      have k3 := ki.trans (kq3.mono (by simp))
      have eS3 := kq3 S _ (by simp) eSi
      have eO3 := kq3 O _ (by simp) eOi
      have hln3 := kq3 ln _ (by simp) hlni
      have rt3 := rti.keep kq3
      generalize upd Hi q3 (.lst [V.int 1, V.int 1, V.int 1, V.int 2, V.int 9]) = Hj at *
      refine x_draw P3 (by omega) (by decide) (by decide) fun d3 HC c2 c3 kC PC => ?_
      have rtC := rt3.kx kC (pen_lst P3)
      have eSC := kC S _ (by simpa using nSp) eS3
      have eOC := kC O _ (by simpa using nOp) eO3
      have hlnC := kC ln _ (by simpa using nlp) hln3
      have eqC := kC q3 _ (by simpa using nq3p) eq3
      have k6C := k3.trans kC
      obtain ⟨zh, hath, hz1, hz9⟩ : ∃ zh, atI [V.int 1, V.int 1, V.int 1, V.int 2, V.int 9] d3 = some (.int zh) ∧ 1 ≤ zh ∧ zh ≤ 9 := by
        obtain ⟨z, hz, _, hz2⟩ := at_ints (zs := [1, 1, 1, 2, 9]) c2 (by simpa using c3)
        refine ⟨z, hz2, ?_⟩
        simp only [List.mem_cons, List.not_mem_nil, or_false] at hz
        omega
      have ixO : ixN (outs.map V.int).length ((ns.getD 0 0 : Nat) : Int) = some (ns.getD 0 0) := ix_nat (by rw [List.length_map]; omega)
      repeat walk_at "rd"
      have eO9 : (upd HC O (.lst ((outs.map V.int).set (ns.getD 0 0) (.int zh)))) O = some (.lst ((outs.set (ns.getD 0 0) zh).map V.int)) := by rw [upd_same, List.map_set]
      have eS9 := lk_ne2 (o := .lst ((outs.map V.int).set (ns.getD 0 0) (.int zh))) nSO eSC
      have rt9 := rtC.wr (o := .lst ((outs.map V.int).set (ns.getD 0 0) (.int zh))) eOC
      have hln9 := lk_ne2 (p := O) (o := .lst ((outs.map V.int).set (ns.getD 0 0) (.int zh))) (show ln ≠ O from fun e => by rw [e] at eln; rw [eln] at nO6; cases nO6) hlnC
      have k9 := k6C.wr (p := O) (o := .lst ((outs.map V.int).set (ns.getD 0 0) (.int zh))) (.inl nO6)
      have P9 := PC.up (upd_ne (o := .lst ((outs.map V.int).set (ns.getD 0 0) (.int zh))) nOp.symm) (upd_ne nOc.symm) (Nat.le_refl _)
      generalize upd HC O (.lst ((outs.map V.int).set (ns.getD 0 0) (.int zh))) = H9 at *
      repeat walk_at "rd"
      intro S' nS'
      repeat walk_at "rd"
      intro O' nO'
      repeat walk_at "rd"
      rename_i X nX B nB
      have kf := ((((Kx.refl [] H9).new (o := .tup vs') nS').new (o := .tup ((outs.set (ns.getD 0 0) zh).map V.int)) nO').new (o := .tup [.ref S', .ref O']) nX).new (o := .tup [.ref X, .int (ns.getD 0 0 : Nat)]) nB
      have rtf := rt9.keep kf
      have hrowsl : rows.length = N := by rw [I6.len, hrl]
      have hcase : ∀ (u : Nat) (r : Rw), slots[u]? = some (some r) → ∃ v row, v < N ∧ ns.getD v 0 = u ∧ rows[v]? = some row ∧ r = renR ns row := fun u r hu => by
        have huM : u < M := by rw [← hsl]; exact (List.getElem?_eq_some_iff.mp hu).1
        by_cases h : ∃ v, v < N ∧ ns.getD v 0 = u
        · obtain ⟨v, hv, rfl⟩ := h
          obtain ⟨row, h1, h2⟩ := hdn v hv
          rw [hu] at h2
          exact ⟨v, row, hv, rfl, h1, Option.some.inj (Option.some.inj h2)⟩
        · have := (hun u huM fun v hv e => h ⟨v, hv, e⟩).1
          rw [hu] at this
          cases this
      have hlv : ∀ u, isLive slots u = true ↔ ∃ v, v < N ∧ ns.getD v 0 = u := fun u => by
        constructor
        · intro h
          cases e : slots[u]? with
          | none => simp [isLive, e] at h
          | some o =>
            cases o with
            | none => simp [isLive, e] at h
            | some r =>
              obtain ⟨v, _, h1, h2, _⟩ := hcase u r e
              exact ⟨v, h1, h2⟩
        · rintro ⟨v, hv, rfl⟩
          obtain ⟨row, _, h2⟩ := hdn v hv
          unfold isLive
          rw [h2]
          rfl
      have hls : ∀ u, u ∈ ns.take N ↔ ∃ v, v < N ∧ ns.getD v 0 = u := fun u => by
        rw [List.mem_iff_getElem?]
        constructor
        · rintro ⟨v, hv⟩
          have hvN : v < N := by
            have := (List.getElem?_eq_some_iff.mp hv).1
            rw [List.length_take] at this
            omega
          rw [List.getElem?_take_of_lt hvN, hgd v (by omega)] at hv
          exact ⟨v, hvN, Option.some.inj hv⟩
        · rintro ⟨v, hv, rfl⟩
          exact ⟨v, by rw [List.getElem?_take_of_lt hv, hgd v (by omega)]⟩
      have hz0 : (outs.set (ns.getD 0 0) zh)[ns.getD 0 0]? = some zh := List.getElem?_set_self (by omega)
      refine k B X (ns.getD 0 0) slots (outs.set (ns.getD 0 0) zh) (ns.take N) _ upd_same ⟨S', O', vs', SqT.of (by walk_at "lk"), SqT.of (by walk_at "lk"), SqT.of (by walk_at "lk"), rtf.len, rtf.at_⟩ ⟨?_, by omega, fun m hm => ?_, fun z hz => ?_, fun r hr' => ?_, fun r hr' q hq => ?_⟩ (fun q hq => ?_) (by omega) (by omega) (fun q => (hlv q).trans (hls q).symm) ((List.take_sublist N ns).nodup hnd) (by rw [List.length_take]; omega) ((hlv _).mpr ⟨0, by omega, rfl⟩) ⟨zh, hz0, hz1⟩ ((k06.trans k9).trans (kf.mono (by simp))) (P9.keep kf (by simp) (by simp) (by omega))
      · rw [List.length_set]
        omega
      · have hmM : m < M := by rw [← hsl]; exact (List.getElem?_eq_some_iff.mp hm).1
        have hno : ∀ v : Nat, v < N → ns.getD v 0 ≠ m := fun v hv e => by
          obtain ⟨row, _, h2⟩ := hdn v hv
          rw [e, hm] at h2
          cases h2
        rw [List.getElem?_set_ne (hno 0 (by omega))]
        exact (hun m hmM hno).2
      · rcases List.mem_or_eq_of_mem_set hz with h | rfl
        · exact ho9 z h
        · omega
      · obtain ⟨u, hu⟩ := List.mem_iff_getElem?.mp hr'
        obtain ⟨v, row, hv, _, h1, rfl⟩ := hcase u r hu
        rw [renR_len]
        obtain ⟨_, row2, _, h3, _, _, _, h4, _⟩ := hrowN v hv
        rw [h1] at h3
        cases h3
        exact h4
      · obtain ⟨u, hu⟩ := List.mem_iff_getElem?.mp hr'
        obtain ⟨v, row, hv, _, h1, rfl⟩ := hcase u r hu
        obtain ⟨_, row2, _, h3, _, _, _, _, h5⟩ := hrowN v hv
        rw [h1] at h3
        cases h3
        obtain ⟨x, hx, e⟩ := List.mem_map.mp hq
        rcases h5 x hx with rfl | ⟨m, hm, rfl⟩
        · cases e
        · obtain ⟨row3, _, h7⟩ := hdn m hm
          have e2 : some (ns.getD m 0) = some q := e
          cases Option.some.inj e2
          exact ⟨_, h7⟩
      · obtain ⟨v, hv, rfl⟩ := (hlv q).mp hq
        by_cases hv0 : v = 0
        · subst hv0
          left
          rw [hz0]
          exact hz1
        · right
          obtain ⟨row, hrow, hx⟩ := hheld v (by omega) hv
          obtain ⟨w', hw⟩ := List.mem_iff_getElem?.mp hrow
          have hwN : w' < N := by rw [← hrowsl]; exact (List.getElem?_eq_some_iff.mp hw).1
          obtain ⟨row2, h1, h2⟩ := hdn w' hwN
          rw [hw] at h1
          cases h1
          exact ⟨_, _, h2, List.mem_map.mpr ⟨_, hx, rfl⟩⟩
end

/-! ### the machine, as a function of plain data -/
def rowOf (slots : List (Option Rw)) (h : Nat) : Rw := ((slots[h]?).getD none).getD []
theorem rowOf_some {slots : List (Option Rw)} {h : Nat} {row : Rw} (e : slots[h]? = some (some row)) : rowOf slots h = row := by simp [rowOf, e]
theorem live_lt {slots : List (Option Rw)} {m : Nat} (h : isLive slots m = true) : ∃ row, slots[m]? = some (some row) ∧ m < slots.length := by
  unfold isLive at h
  cases e : slots[m]? with
  | none => rw [e] at h; cases h
  | some o =>
    cases o with
    | none => rw [e] at h; cases h
    | some row => exact ⟨row, rfl, (List.getElem?_eq_some_iff.mp e).1⟩
/-- a release that waits: holder and slot that held the node, its depth -/
structure Pd where
  holder : Option Nat
  slot : Option Nat
  node : Nat
  depth : Nat
inductive Ev
  | release (holder slot : Option Nat) (node : Nat) (left : Int)
  | destroy (node depth : Nat)
  | shelve (node size : Nat)
  | take (node size : Nat)
def Ev.dead : Ev → Option Nat
  | .destroy n _ => some n
  | _ => none
def Ev.size : Ev → Option Int
  | .shelve _ k => some k
  | _ => none
structure FS where
  pend : List Pd
  shelf : List Nat
  evs : List Ev
def FS.log (s : FS) : List Nat := s.evs.filterMap Ev.dead
section
variable (slots : List (Option Rw)) (outs : List Int)
def cntH (log : List Nat) (m : Nat) : Nat := ((List.range slots.length).map fun h => if h ∈ log then 0 else (rowOf slots h).count (some m)).sum
def pendC (p : List Pd) (m : Nat) : Nat := (p.map (·.node)).count m
def tal (log : List Nat) (pend : List Pd) (m : Nat) : Int := (outs[m]?).getD 0 + cntH slots log m + pendC pend m
def kidsAt (n d : Nat) : Nat → Rw → List Pd
  | _, [] => []
  | j, none :: r => kidsAt n d (j + 1) r
  | j, some m :: r => ⟨some n, some j, m, d⟩ :: kidsAt n d (j + 1) r
def kids (n d : Nat) : List Pd := kidsAt n d 0 (rowOf slots n)
def stepF (lim : Int) (s : FS) : Option FS :=
  match s.pend with
  | p :: rest =>
    if 0 < tal slots outs s.log rest p.node then some ⟨rest, s.shelf, s.evs ++ [.release p.holder p.slot p.node (tal slots outs s.log rest p.node)]⟩
    else if (p.depth : Int) < lim then some ⟨kids slots p.node (p.depth + 1) ++ rest, s.shelf, s.evs ++ [.release p.holder p.slot p.node (tal slots outs s.log rest p.node), .destroy p.node p.depth]⟩
    else some ⟨rest, s.shelf ++ [p.node], s.evs ++ [.release p.holder p.slot p.node (tal slots outs s.log rest p.node), .shelve p.node (s.shelf.length + 1)]⟩
  | [] => match s.shelf.getLast? with
    | none => none
    | some n => some ⟨kids slots n 1, s.shelf.dropLast, s.evs ++ [.take n s.shelf.dropLast.length, .destroy n 0]⟩
def run (lim : Int) : Nat → FS → Option FS
  | 0, s => some s
  | n + 1, s => (run lim n s).bind (stepF slots outs lim)
/-- s' is reached from s -/
def Steps (lim : Int) (s s' : FS) : Prop := ∃ n, run slots outs lim n s = some s'
end
section
variable {slots : List (Option Rw)} {outs : List Int} {lim : Int}
theorem Steps.refl (s : FS) : Steps slots outs lim s s := ⟨0, rfl⟩
theorem Steps.tail {s t u : FS} (h : Steps slots outs lim s t) (e : stepF slots outs lim t = some u) : Steps slots outs lim s u := by
  obtain ⟨n, hn⟩ := h
  exact ⟨n + 1, by show (run slots outs lim n s).bind _ = _; rw [hn]; exact e⟩
theorem run_past {s t : FS} {n : Nat} (h : run slots outs lim n s = some t) (e : stepF slots outs lim t = none) : ∀ k, run slots outs lim (n + 1 + k) s = none
  | 0 => by show (run slots outs lim n s).bind _ = none; rw [h]; exact e
  | k + 1 => by
    show (run slots outs lim (n + 1 + k) s).bind _ = none
    rw [run_past h e k]
    rfl
/-- where it ends is told -/
theorem Steps.det {s t u : FS} (h : Steps slots outs lim s t) (e : stepF slots outs lim t = none) (h' : Steps slots outs lim s u) (e' : stepF slots outs lim u = none) : t = u := by
  obtain ⟨n, hn⟩ := h
  obtain ⟨m, hm⟩ := h'
  rcases Nat.lt_trichotomy n m with l | l | l
  · have := run_past hn e (m - (n + 1))
    rw [show n + 1 + (m - (n + 1)) = m by omega, hm] at this
    cases this
  · subst l
    rw [hn] at hm
    exact Option.some.inj hm
  · have := run_past hm e' (n - (m + 1))
    rw [show m + 1 + (n - (m + 1)) = n by omega, hn] at this
    cases this
theorem Steps.trans {s t u : FS} (h : Steps slots outs lim s t) (h' : Steps slots outs lim t u) : Steps slots outs lim s u := by
  obtain ⟨m, hm⟩ := h'
  induction m generalizing u with
  | zero => cases Option.some.inj (hm : some t = some u); exact h
  | succ m ih =>
    have hm : (run slots outs lim m t).bind (stepF slots outs lim) = some u := hm
    cases e : run slots outs lim m t with
    | none => rw [e] at hm; cases hm
    | some v => rw [e] at hm; exact (ih e).tail hm
theorem kidsAt_count (n d m : Nat) : ∀ (r : Rw) (j : Nat), pendC (kidsAt n d j r) m = r.count (some m)
  | [], _ => rfl
  | none :: r, j => by
    show pendC (kidsAt n d (j + 1) r) m = _
    rw [kidsAt_count n d m r, List.count_cons]
    simp
  | some k :: r, j => by
    have ih := kidsAt_count n d m r (j + 1)
    unfold pendC at ih ⊢
    show ((⟨some n, some j, k, d⟩ :: kidsAt n d (j + 1) r : List Pd).map (·.node)).count m = _
    rw [List.map_cons, List.count_cons, List.count_cons, ih]
    by_cases e : k = m <;> simp [e]
theorem kidsAt_mem {n d : Nat} : ∀ {r : Rw} {j : Nat} {p : Pd}, p ∈ kidsAt n d j r → some p.node ∈ r
  | [], _, _, h => by cases h
  | none :: r, j, p, h => List.mem_cons_of_mem _ (kidsAt_mem (r := r) (j := j + 1) h)
  | some k :: r, j, p, h => by
    rcases List.mem_cons.mp (show p ∈ (⟨some n, some j, k, d⟩ :: kidsAt n d (j + 1) r : List Pd) from h) with e | h
    · rw [e]
      exact List.mem_cons_self
    · exact List.mem_cons_of_mem _ (kidsAt_mem h)
theorem kidsAt_len (n d : Nat) : ∀ (r : Rw) (j : Nat), (kidsAt n d j r).length ≤ r.length
  | [], _ => Nat.le_refl _
  | none :: r, j => Nat.le_succ_of_le (kidsAt_len n d r (j + 1))
  | some k :: r, j => Nat.succ_le_succ (kidsAt_len n d r (j + 1))
theorem pendC_app (a b : List Pd) (m : Nat) : pendC (a ++ b) m = pendC a m + pendC b m := by
  unfold pendC
  rw [List.map_append, List.count_append]
theorem pendC_cons (p : Pd) (b : List Pd) (m : Nat) : pendC (p :: b) m = pendC b m + if p.node = m then 1 else 0 := by
  unfold pendC
  rw [List.map_cons, List.count_cons]
  by_cases e : p.node = m <;> simp [e]
theorem sum_drop1 {f g : Nat → Nat} {n N : Nat} (hn : n < N) (hg : g n = 0) (he : ∀ h, h ≠ n → g h = f h) : ((List.range N).map g).sum + f n = ((List.range N).map f).sum := by
  induction N with
  | zero => omega
  | succ N ih =>
    rw [List.range_succ, List.map_append, List.map_append, List.sum_append, List.sum_append]
    simp only [List.map_cons, List.map_nil, List.sum_cons, List.sum_nil, Nat.add_zero]
    by_cases e : n = N
    · subst e
      have : (List.range n).map g = (List.range n).map f := List.map_congr_left fun h hh => he h (Nat.ne_of_lt (List.mem_range.mp hh))
      rw [this, hg]
      omega
    · have := ih (by omega)
      rw [he N (Ne.symm e)]
      omega
theorem cntH_dead {log : List Nat} {n : Nat} (hn : n < slots.length) (hl : n ∉ log) (m : Nat) : cntH slots (log ++ [n]) m + (rowOf slots n).count (some m) = cntH slots log m := by
  have := sum_drop1 (f := fun h => if h ∈ log then 0 else (rowOf slots h).count (some m)) (g := fun h => if h ∈ log ++ [n] then 0 else (rowOf slots h).count (some m)) hn (by simp) (fun h e => by
    have : (h ∈ log ++ [n]) ↔ h ∈ log := by simp [e]
    simp only [this])
  simp only [if_neg hl] at this
  exact this
theorem tal_pop (log : List Nat) (p : Pd) (rest : List Pd) (m : Nat) : tal slots outs log (p :: rest) m = tal slots outs log rest m + if p.node = m then 1 else 0 := by
  unfold tal
  rw [pendC_cons]
  by_cases e : p.node = m
  · simp only [e, if_true]
    omega
  · simp only [e, if_false]
    omega
theorem tal_dead {log : List Nat} {n : Nat} (hn : n < slots.length) (hl : n ∉ log) (d : Nat) (rest : List Pd) (m : Nat) : tal slots outs (log ++ [n]) (kids slots n d ++ rest) m = tal slots outs log rest m := by
  have h1 := cntH_dead (slots := slots) hn hl m
  have h2 := kidsAt_count n d m (rowOf slots n) 0
  unfold tal
  rw [pendC_app, show pendC (kids slots n d) m = (rowOf slots n).count (some m) from h2]
  omega
theorem tal_nonneg (ho : ∀ z ∈ outs, 0 ≤ z) (log : List Nat) (pend : List Pd) (m : Nat) : (pendC pend m : Int) ≤ tal slots outs log pend m := by
  have : 0 ≤ (outs[m]?).getD 0 := by
    cases e : outs[m]? with
    | none => exact Int.le_refl 0
    | some z => exact ho z (List.mem_of_getElem? e)
  unfold tal
  omega
/-- what holds of every state -/
structure SOk (slots : List (Option Rw)) (outs : List Int) (s : FS) : Prop where
  pl : ∀ p ∈ s.pend, isLive slots p.node = true
  nd : (s.log ++ s.shelf).Nodup
  z : ∀ n ∈ s.log ++ s.shelf, tal slots outs s.log s.pend n = 0
  lv : ∀ n ∈ s.log ++ s.shelf, isLive slots n = true
theorem kids_live (wl : ∀ row, some row ∈ slots → ∀ k, some k ∈ row → ∃ r, slots[k]? = some (some r)) {n d : Nat} (hl : isLive slots n = true) : ∀ p ∈ kids slots n d, isLive slots p.node = true := by
  intro p hp
  obtain ⟨row, e, _⟩ := live_lt hl
  have h := kidsAt_mem hp
  rw [rowOf_some e] at h
  obtain ⟨r, er⟩ := wl row (List.mem_of_getElem? e) _ h
  simp [isLive, er]
theorem SOk.new {s : FS} (o : SOk slots outs s) (ho : ∀ z ∈ outs, 0 ≤ z) {p : Pd} {rest : List Pd} (hp : s.pend = p :: rest) : p.node ∉ s.log ++ s.shelf := by
  intro h
  have h1 := o.z _ h
  have h2 := tal_nonneg (slots := slots) ho s.log s.pend p.node
  rw [hp, pendC_cons] at h2
  rw [hp] at h1
  simp only [if_true] at h2
  omega
theorem nodup_snoc {a b : List Nat} {n : Nat} (h : (a ++ b).Nodup) (hn : n ∉ a ++ b) : ((a ++ [n]) ++ b).Nodup ∧ (a ++ (b ++ [n])).Nodup := by
  have p1 : ((a ++ [n]) ++ b).Perm (n :: (a ++ b)) := by
    rw [List.append_assoc]
    exact List.perm_middle
  have p2 : (a ++ (b ++ [n])).Perm (n :: (a ++ b)) := by
    rw [← List.append_assoc]
    exact List.perm_append_comm
  have h2 : (n :: (a ++ b)).Nodup := List.nodup_cons.mpr ⟨hn, h⟩
  exact ⟨p1.symm.nodup h2, p2.symm.nodup h2⟩
theorem log_app (a b : List Ev) : (⟨[], [], a ++ b⟩ : FS).log = (⟨[], [], a⟩ : FS).log ++ (⟨[], [], b⟩ : FS).log := List.filterMap_append
theorem SOk.step {s s' : FS} (o : SOk slots outs s) (ho : ∀ z ∈ outs, 0 ≤ z) (wl : ∀ row, some row ∈ slots → ∀ k, some k ∈ row → ∃ r, slots[k]? = some (some r)) (e : stepF slots outs lim s = some s') : SOk slots outs s' := by
  cases hp : s.pend with
  | nil =>
    unfold stepF at e
    rw [hp] at e
    simp only at e
    cases hs : s.shelf.getLast? with
    | none => rw [hs] at e; cases e
    | some n =>
      rw [hs] at e
      cases Option.some.inj e
      have hsp : s.shelf = s.shelf.dropLast ++ [n] := by
        obtain ⟨ys, hy⟩ := List.getLast?_eq_some_iff.mp hs
        rw [hy, List.dropLast_concat]
      have hlog : FS.log ⟨kids slots n 1, s.shelf.dropLast, s.evs ++ [.take n s.shelf.dropLast.length, .destroy n 0]⟩ = s.log ++ [n] := by
        unfold FS.log
        rw [List.filterMap_append]
        rfl
      have hmem : n ∈ s.log ++ s.shelf := by rw [hsp]; simp
      have hlv := o.lv n hmem
      obtain ⟨_, _, hlt⟩ := live_lt hlv
      have hnd := o.nd
      rw [hsp] at hnd
      have hnl : n ∉ s.log := fun h => (List.nodup_append.mp hnd).2.2 n h n (by simp) rfl
      have hsub : ∀ m, m ∈ (s.log ++ [n]) ++ s.shelf.dropLast → m ∈ s.log ++ s.shelf := by
        intro m hm
        rw [hsp]
        simp only [List.mem_append, List.mem_singleton] at hm ⊢
        rcases hm with (h | h) | h
        · exact .inl h
        · exact .inr (.inr h)
        · exact .inr (.inl h)
      refine ⟨kids_live wl hlv, ?_, fun m hm => ?_, fun m hm => ?_⟩
      · rw [hlog]
        show ((s.log ++ [n]) ++ s.shelf.dropLast).Nodup
        have hnd2 : (s.log ++ s.shelf.dropLast ++ [n]).Nodup := by rwa [List.append_assoc]
        have hn2 : n ∉ s.log ++ s.shelf.dropLast := fun h => (List.nodup_append.mp hnd2).2.2 n h n (by simp) rfl
        exact (nodup_snoc (List.nodup_append.mp hnd2).1 hn2).1
      · rw [hlog] at hm ⊢
        show tal slots outs (s.log ++ [n]) (kids slots n 1) m = 0
        have := tal_dead (slots := slots) (outs := outs) hlt hnl 1 [] m
        rw [List.append_nil] at this
        rw [this, ← hp]
        exact o.z m (hsub m hm)
      · rw [hlog] at hm
        exact o.lv m (hsub m hm)
  | cons p rest =>
    have hn := o.new ho hp
    have hl := o.pl p (by rw [hp]; exact List.mem_cons_self)
    obtain ⟨_, _, hlt⟩ := live_lt hl
    have hrest : ∀ q ∈ rest, isLive slots q.node = true := fun q hq => o.pl q (by rw [hp]; exact List.mem_cons_of_mem _ hq)
    have hz : ∀ m ∈ s.log ++ s.shelf, tal slots outs s.log rest m = 0 := by
      intro m hm
      have h1 := o.z m hm
      rw [hp, tal_pop, if_neg (fun e => hn (by rw [e]; exact hm))] at h1
      omega
    have hge : 0 ≤ tal slots outs s.log rest p.node := by
      have := tal_nonneg (slots := slots) ho s.log rest p.node
      omega
    unfold stepF at e
    rw [hp] at e
    simp only at e
    by_cases h0 : 0 < tal slots outs s.log rest p.node
    · rw [if_pos h0] at e
      cases Option.some.inj e
      have hlog : FS.log ⟨rest, s.shelf, s.evs ++ [.release p.holder p.slot p.node (tal slots outs s.log rest p.node)]⟩ = s.log := by
        unfold FS.log
        rw [List.filterMap_append]
        exact List.append_nil _
      exact ⟨hrest, by rw [hlog]; exact o.nd, fun m hm => by rw [hlog] at hm ⊢; exact hz m hm, fun m hm => by rw [hlog] at hm; exact o.lv m hm⟩
    · rw [if_neg h0] at e
      have hzero : tal slots outs s.log rest p.node = 0 := by omega
      by_cases hd : (p.depth : Int) < lim
      · rw [if_pos hd] at e
        cases Option.some.inj e
        have hlog : FS.log ⟨kids slots p.node (p.depth + 1) ++ rest, s.shelf, s.evs ++ [.release p.holder p.slot p.node (tal slots outs s.log rest p.node), .destroy p.node p.depth]⟩ = s.log ++ [p.node] := by
          unfold FS.log
          rw [List.filterMap_append]
          rfl
        have hnl : p.node ∉ s.log := fun h => hn (List.mem_append_left _ h)
        have hsplit : ∀ m, m ∈ (s.log ++ [p.node]) ++ s.shelf → m = p.node ∨ m ∈ s.log ++ s.shelf := by
          intro m hm
          simp only [List.mem_append, List.mem_singleton] at hm ⊢
          rcases hm with (h | h) | h
          · exact .inr (.inl h)
          · exact .inl h
          · exact .inr (.inr h)
        refine ⟨fun q hq => ?_, by rw [hlog]; exact (nodup_snoc o.nd hn).1, fun m hm => ?_, fun m hm => ?_⟩
        · rcases List.mem_append.mp hq with hq | hq
          · exact kids_live wl hl q hq
          · exact hrest q hq
        · rw [hlog] at hm ⊢
          show tal slots outs (s.log ++ [p.node]) (kids slots p.node (p.depth + 1) ++ rest) m = 0
          rw [tal_dead hlt hnl]
          rcases hsplit m hm with rfl | h
          · exact hzero
          · exact hz m h
        · rw [hlog] at hm
          rcases hsplit m hm with rfl | h
          · exact hl
          · exact o.lv m h
      · rw [if_neg hd] at e
        cases Option.some.inj e
        have hlog : FS.log ⟨rest, s.shelf ++ [p.node], s.evs ++ [.release p.holder p.slot p.node (tal slots outs s.log rest p.node), .shelve p.node (s.shelf.length + 1)]⟩ = s.log := by
          unfold FS.log
          rw [List.filterMap_append]
          exact List.append_nil _
        have hsplit : ∀ m, m ∈ s.log ++ (s.shelf ++ [p.node]) → m = p.node ∨ m ∈ s.log ++ s.shelf := by
          intro m hm
          simp only [List.mem_append, List.mem_singleton] at hm ⊢
          rcases hm with h | h | h
          · exact .inr (.inl h)
          · exact .inr (.inr h)
          · exact .inl h
        refine ⟨hrest, by rw [hlog]; exact (nodup_snoc o.nd hn).2, fun m hm => ?_, fun m hm => ?_⟩
        · rw [hlog] at hm ⊢
          rcases hsplit m hm with rfl | h
          · exact hzero
          · exact hz m h
        · rw [hlog] at hm
          rcases hsplit m hm with rfl | h
          · exact hl
          · exact o.lv m h
theorem SOk.steps {s s' : FS} (o : SOk slots outs s) (ho : ∀ z ∈ outs, 0 ≤ z) (wl : ∀ row, some row ∈ slots → ∀ k, some k ∈ row → ∃ r, slots[k]? = some (some r)) (h : Steps slots outs lim s s') : SOk slots outs s' := by
  obtain ⟨n, hn⟩ := h
  induction n generalizing s' with
  | zero => cases Option.some.inj (hn : some s = some s'); exact o
  | succ n ih =>
    have hn : (run slots outs lim n s).bind (stepF slots outs lim) = some s' := hn
    cases e : run slots outs lim n s with
    | none => rw [e] at hn; cases hn
    | some v => rw [e] at hn; exact (ih e).step ho wl hn
/-- what is left to do -/
def left (slots : List (Option Rw)) (log : List Nat) : Nat := ((List.range slots.length).map fun h => if h ∈ log then 0 else (rowOf slots h).length + 2).sum
theorem left_dead {log : List Nat} {n : Nat} (hn : n < slots.length) (hl : n ∉ log) : left slots (log ++ [n]) + ((rowOf slots n).length + 2) = left slots log := by
  have := sum_drop1 (f := fun h => if h ∈ log then 0 else (rowOf slots h).length + 2) (g := fun h => if h ∈ log ++ [n] then 0 else (rowOf slots h).length + 2) hn (by simp) (fun h e => by
    have : (h ∈ log ++ [n]) ↔ h ∈ log := by simp [e]
    simp only [this])
  simp only [if_neg hl] at this
  exact this
def FS.mu (slots : List (Option Rw)) (s : FS) : Nat := left slots s.log + s.pend.length
end

theorem step_mu {slots : List (Option Rw)} {outs : List Int} {lim : Int} {s s' : FS} (o : SOk slots outs s) (ho : ∀ z ∈ outs, 0 ≤ z) (e : stepF slots outs lim s = some s') : s'.mu slots < s.mu slots ∧ s'.evs.length ≤ s.evs.length + 2 := by
  cases hp : s.pend with
  | nil =>
    unfold stepF at e
    rw [hp] at e
    simp only at e
    cases hs : s.shelf.getLast? with
    | none => rw [hs] at e; cases e
    | some n =>
      rw [hs] at e
      cases Option.some.inj e
      have hsp : s.shelf = s.shelf.dropLast ++ [n] := by
        obtain ⟨ys, hy⟩ := List.getLast?_eq_some_iff.mp hs
        rw [hy, List.dropLast_concat]
      have hlog : FS.log ⟨kids slots n 1, s.shelf.dropLast, s.evs ++ [.take n s.shelf.dropLast.length, .destroy n 0]⟩ = s.log ++ [n] := by
        unfold FS.log
        rw [List.filterMap_append]
        rfl
      have hmem : n ∈ s.log ++ s.shelf := by rw [hsp]; simp
      obtain ⟨_, _, hlt⟩ := live_lt (o.lv n hmem)
      have hnd := o.nd
      rw [hsp] at hnd
      have hnl : n ∉ s.log := fun h => (List.nodup_append.mp hnd).2.2 n h n (by simp) rfl
      have h1 := left_dead (slots := slots) hlt hnl
      have h2 := kidsAt_len n 1 (rowOf slots n) 0
      unfold FS.mu
      rw [hlog, hp]
      refine ⟨?_, by simp⟩
      show left slots (s.log ++ [n]) + (kids slots n 1).length < left slots s.log + 0
      unfold kids
      omega
  | cons p rest =>
    have hn := o.new ho hp
    have hl := o.pl p (by rw [hp]; exact List.mem_cons_self)
    obtain ⟨_, _, hlt⟩ := live_lt hl
    unfold stepF at e
    rw [hp] at e
    simp only at e
    by_cases h0 : 0 < tal slots outs s.log rest p.node
    · rw [if_pos h0] at e
      cases Option.some.inj e
      have hlog : FS.log ⟨rest, s.shelf, s.evs ++ [.release p.holder p.slot p.node (tal slots outs s.log rest p.node)]⟩ = s.log := by
        unfold FS.log
        rw [List.filterMap_append]
        exact List.append_nil _
      unfold FS.mu
      rw [hlog, hp]
      exact ⟨by show _ + rest.length < _ + (rest.length + 1); omega, by simp⟩
    · rw [if_neg h0] at e
      by_cases hd : (p.depth : Int) < lim
      · rw [if_pos hd] at e
        cases Option.some.inj e
        have hlog : FS.log ⟨kids slots p.node (p.depth + 1) ++ rest, s.shelf, s.evs ++ [.release p.holder p.slot p.node (tal slots outs s.log rest p.node), .destroy p.node p.depth]⟩ = s.log ++ [p.node] := by
          unfold FS.log
          rw [List.filterMap_append]
          rfl
        have hnl : p.node ∉ s.log := fun h => hn (List.mem_append_left _ h)
        have h1 := left_dead (slots := slots) hlt hnl
        have h2 := kidsAt_len p.node (p.depth + 1) (rowOf slots p.node) 0
        unfold FS.mu
        rw [hlog, hp]
        refine ⟨?_, by simp⟩
        show left slots (s.log ++ [p.node]) + (kids slots p.node (p.depth + 1) ++ rest).length < left slots s.log + (rest.length + 1)
        rw [List.length_append]
        unfold kids
        omega
      · rw [if_neg hd] at e
        cases Option.some.inj e
        have hlog : FS.log ⟨rest, s.shelf ++ [p.node], s.evs ++ [.release p.holder p.slot p.node (tal slots outs s.log rest p.node), .shelve p.node (s.shelf.length + 1)]⟩ = s.log := by
          unfold FS.log
          rw [List.filterMap_append]
          exact List.append_nil _
        unfold FS.mu
        rw [hlog, hp]
        exact ⟨by show _ + rest.length < _ + (rest.length + 1); omega, by simp⟩
theorem big_line {n : Nat} (h : n ≤ 1000000) : n < sizeLine := by rw [sizeLine_eq]; omega
/-! ### tuples in a list -/
structure TupsAt (H : Hp) (ts : List Addr) (vss : List (List V)) : Prop where
  len : ts.length = vss.length
  at_ : ∀ (j : Nat) (vs : List V), vss[j]? = some vs → ∃ t, ts[j]? = some t ∧ H t = some (.tup vs)
theorem TupsAt.nil {H : Hp} : TupsAt H [] [] := ⟨rfl, fun j vs h => by simp at h⟩
theorem TupsAt.kx {S : List Addr} {H H' : Hp} {ts : List Addr} {vss : List (List V)} (h : TupsAt H ts vss) (k : Kx S H H') (l : ∀ b ∈ S, ∃ ys : List V, H b = some (.lst ys)) : TupsAt H' ts vss := by
  refine ⟨h.len, fun j vs hj => ?_⟩
  obtain ⟨t, e1, e2⟩ := h.at_ j vs hj
  exact ⟨t, e1, k t _ (fun z => by obtain ⟨ys, e⟩ := l t z; rw [e2] at e; cases e) e2⟩
theorem TupsAt.wr {H : Hp} {a : Addr} {ys : List V} {o : HO} {ts : List Addr} {vss : List (List V)} (h : TupsAt H ts vss) (l : H a = some (.lst ys)) : TupsAt (upd H a o) ts vss := by
  refine ⟨h.len, fun j vs hj => ?_⟩
  obtain ⟨t, e1, e2⟩ := h.at_ j vs hj
  exact ⟨t, e1, lk_ne2 (fun z => by rw [z, l] at e2; cases e2) e2⟩
theorem TupsAt.new {H : Hp} {a : Addr} {o : HO} {ts : List Addr} {vss : List (List V)} (h : TupsAt H ts vss) (n : H a = none) : TupsAt (upd H a o) ts vss := by
  refine ⟨h.len, fun j vs hj => ?_⟩
  obtain ⟨t, e1, e2⟩ := h.at_ j vs hj
  exact ⟨t, e1, lk_ne e2 n⟩
theorem TupsAt.snoc {H : Hp} {ts : List Addr} {vss : List (List V)} (h : TupsAt H ts vss) {t : Addr} {vs : List V} (e : H t = some (.tup vs)) : TupsAt H (ts ++ [t]) (vss ++ [vs]) := by
  refine ⟨by rw [List.length_append, List.length_append, h.len]; rfl, fun j us hj => ?_⟩
  by_cases hl : j < vss.length
  · rw [List.getElem?_append_left hl] at hj
    rw [List.getElem?_append_left (by rw [h.len]; exact hl)]
    exact h.at_ j us hj
  · rw [List.getElem?_append_right (by omega)] at hj
    rw [List.getElem?_append_right (by rw [h.len]; omega), h.len]
    cases e2 : j - vss.length with
    | zero =>
      rw [e2] at hj
      cases Option.some.inj (hj : some vs = some us)
      exact ⟨t, rfl, e⟩
    | succ k => rw [e2] at hj; cases hj
theorem TupsAt.last {H : Hp} {ts : List Addr} {vss : List (List V)} {vs : List V} (h : TupsAt H ts (vss ++ [vs])) : ∃ ts' t, ts = ts' ++ [t] ∧ H t = some (.tup vs) ∧ TupsAt H ts' vss := by
  have hl := h.len
  rw [List.length_append] at hl
  rcases List.eq_nil_or_concat ts with rfl | ⟨ts', t, e⟩
  · exact absurd hl (Nat.ne_of_lt (Nat.succ_pos _))
  · rw [List.concat_eq_append] at e
    subst e
    rw [List.length_append] at hl
    have hl2 : ts'.length = vss.length := by
      have : [t].length = [vs].length := rfl
      omega
    obtain ⟨t2, e1, e2⟩ := h.at_ vss.length vs (by rw [List.getElem?_append_right (Nat.le_refl _), Nat.sub_self]; rfl)
    rw [← hl2, List.getElem?_append_right (Nat.le_refl _), Nat.sub_self] at e1
    cases Option.some.inj (e1 : some t = some t2)
    refine ⟨ts', t, rfl, e2, hl2, fun j us hj => ?_⟩
    have hjl := (List.getElem?_eq_some_iff.mp hj).1
    obtain ⟨t3, f1, f2⟩ := h.at_ j us (by rw [List.getElem?_append_left hjl]; exact hj)
    rw [List.getElem?_append_left (by rw [hl2]; exact hjl)] at f1
    exact ⟨t3, f1, f2⟩
/-! ### the machine in the heap -/
def optV : Option Nat → V
  | none => .non
  | some n => .int n
def pdV (p : Pd) : List V := [optV p.holder, optV p.slot, .int p.node, .int p.depth]
def evV : Ev → List V
  | .release h s n l => [.str "release", optV h, optV s, .int n, .int l]
  | .destroy n d => [.str "destroy", .int n, .int d]
  | .shelve n k => [.str "shelve", .int n, .int k]
  | .take n k => [.str "take", .int n, .int k]
def mf (aS aO aR : Addr) (lim : Int) (aE aH aV : Addr) : List (Str × V) := [("slots", .ref aS), ("outside", .ref aO), ("references", .ref aR), ("limit", .int lim), ("emptied", .ref aE), ("shelf", .ref aH), ("events", .ref aV)]
section
variable (aS aO aR : Addr) (lim : Int) (aE aH aV : Addr)
theorem mf_slots : List.lookup ("slots" : Str) (mf aS aO aR lim aE aH aV) = some (V.ref aS) := by with_unfolding_all rfl
theorem mf_outside : List.lookup ("outside" : Str) (mf aS aO aR lim aE aH aV) = some (V.ref aO) := by with_unfolding_all rfl
theorem mf_references : List.lookup ("references" : Str) (mf aS aO aR lim aE aH aV) = some (V.ref aR) := by with_unfolding_all rfl
theorem mf_limit : List.lookup ("limit" : Str) (mf aS aO aR lim aE aH aV) = some (V.int lim) := by with_unfolding_all rfl
theorem mf_emptied : List.lookup ("emptied" : Str) (mf aS aO aR lim aE aH aV) = some (V.ref aE) := by with_unfolding_all rfl
theorem mf_shelf : List.lookup ("shelf" : Str) (mf aS aO aR lim aE aH aV) = some (V.ref aH) := by with_unfolding_all rfl
theorem mf_events : List.lookup ("events" : Str) (mf aS aO aR lim aE aH aV) = some (V.ref aV) := by with_unfolding_all rfl
theorem mf_release : List.lookup ("_release" : Str) (mf aS aO aR lim aE aH aV) = none := by with_unfolding_all rfl
theorem mf_release_all : List.lookup ("_release_all" : Str) (mf aS aO aR lim aE aH aV) = none := by with_unfolding_all rfl
theorem mf_destroy : List.lookup ("_destroy" : Str) (mf aS aO aR lim aE aH aV) = none := by with_unfolding_all rfl
theorem mf_drop : List.lookup ("drop" : Str) (mf aS aO aR lim aE aH aV) = none := by with_unfolding_all rfl
theorem mf_result : List.lookup ("result" : Str) (mf aS aO aR lim aE aH aV) = none := by with_unfolding_all rfl
end
/-- the class -/
structure ClR (K : PySem.W.Frag) (C : Addr) : Prop where
  cl : Cls K C
  n_slots : NoAttr K C "slots"
  n_outside : NoAttr K C "outside"
  n_references : NoAttr K C "references"
  n_limit : NoAttr K C "limit"
  n_emptied : NoAttr K C "emptied"
  n_shelf : NoAttr K C "shelf"
  n_events : NoAttr K C "events"
/-- its places: what never changes -/
structure MS (slots : List (Option Rw)) (C : Addr) (H1 : Hp) (p dx aS aO aR aE aH aV : Addr) (ra : Nat → Addr) (lim : Int) : Prop where
  ins : H1 p = some (.ins C dx (mf aS aO aR lim aE aH aV))
  rows : ∀ (i : Nat) (row : Rw), slots[i]? = some (some row) → H1 (ra i) = some (.lst (rowV row)) ∧ ra i ∉ [aS, aO, aR, aE, aH, aV]
  dis : [aS, aO, aR, aE, aH, aV].Nodup
  pW : p ∉ [aS, aO, aR, aE, aH, aV]
  inj : ∀ (i j : Nat) (r r' : Rw), slots[i]? = some (some r) → slots[j]? = some (some r') → ra i = ra j → i = j
def slotR (slots : List (Option Rw)) (ra : Nat → Addr) (log : List Nat) (i : Nat) : V := if isLive slots i = true ∧ i ∉ log then .ref (ra i) else .non
def refR (slots : List (Option Rw)) (tf : Nat → Int) (i : Nat) : V := if isLive slots i = true then .int (tf i) else .non
/-- what it holds -/
structure MD (slots : List (Option Rw)) (H1 H : Hp) (aS aO aR aE aH aV : Addr) (ra : Nat → Addr) (outs : List Int) (tf : Nat → Int) (log : List Nat) (pend : List Pd) (shelf : List Nat) (evs : List Ev) : Prop where
  k : Kx [aS, aO, aR, aE, aH, aV] H1 H
  eS : H aS = some (.lst ((List.range slots.length).map (slotR slots ra log)))
  eO : H aO = some (.lst (outs.map V.int))
  eR : H aR = some (.lst ((List.range slots.length).map (refR slots tf)))
  eE : ∃ ts : List Addr, H aE = some (.lst (ts.map V.ref)) ∧ TupsAt H ts (pend.reverse.map pdV)
  eH : H aH = some (.lst (shelf.map fun n : Nat => V.int n))
  eV : ∃ us : List Addr, H aV = some (.lst (us.map V.ref)) ∧ TupsAt H us (evs.map evV)
section
variable {slots : List (Option Rw)} {C : Addr} {H1 H : Hp} {p dx aS aO aR aE aH aV : Addr} {ra : Nat → Addr} {lim : Int} {outs : List Int} {tf : Nat → Int} {log : List Nat} {pend : List Pd} {shelf : List Nat} {evs : List Ev}
/-- the six lists are six -/
structure Six (aS aO aR aE aH aV : Addr) : Prop where
  so : aS ≠ aO
  sr : aS ≠ aR
  se : aS ≠ aE
  sh : aS ≠ aH
  sv : aS ≠ aV
  or_ : aO ≠ aR
  oe : aO ≠ aE
  oh : aO ≠ aH
  ov : aO ≠ aV
  re : aR ≠ aE
  rh : aR ≠ aH
  rv : aR ≠ aV
  eh : aE ≠ aH
  ev : aE ≠ aV
  hv : aH ≠ aV
theorem MS.six (ms : MS slots C H1 p dx aS aO aR aE aH aV ra lim) : Six aS aO aR aE aH aV := by
  have D := ms.dis
  simp only [List.nodup_cons, List.mem_cons, List.not_mem_nil, or_false, not_or, not_false_eq_true, List.nodup_nil, and_true] at D
  obtain ⟨⟨a1, a2, a3, a4, a5⟩, ⟨b1, b2, b3, b4⟩, ⟨c1, c2, c3⟩, ⟨d1, d2⟩, e1⟩ := D
  exact ⟨a1, a2, a3, a4, a5, b1, b2, b3, b4, c1, c2, c3, d1, d2, e1⟩
theorem MD.new (m : MD slots H1 H aS aO aR aE aH aV ra outs tf log pend shelf evs) {q : Addr} {o : HO} (n : H q = none) : MD slots H1 (upd H q o) aS aO aR aE aH aV ra outs tf log pend shelf evs := by
  obtain ⟨ts, h1, h2⟩ := m.eE
  obtain ⟨us, h3, h4⟩ := m.eV
  exact ⟨m.k.new n, lk_ne m.eS n, lk_ne m.eO n, lk_ne m.eR n, ⟨ts, lk_ne h1 n, h2.new n⟩, lk_ne m.eH n, ⟨us, lk_ne h3 n, h4.new n⟩⟩
theorem MD.keep (m : MD slots H1 H aS aO aR aE aH aV ra outs tf log pend shelf evs) {H' : Hp} (k : Kx [] H H') : MD slots H1 H' aS aO aR aE aH aV ra outs tf log pend shelf evs := by
  obtain ⟨ts, h1, h2⟩ := m.eE
  obtain ⟨us, h3, h4⟩ := m.eV
  exact ⟨m.k.trans (k.mono (by simp)), k _ _ (by simp) m.eS, k _ _ (by simp) m.eO, k _ _ (by simp) m.eR, ⟨ts, k _ _ (by simp) h1, h2.kx k (by simp)⟩, k _ _ (by simp) m.eH, ⟨us, k _ _ (by simp) h3, h4.kx k (by simp)⟩⟩
theorem MD.wV (m : MD slots H1 H aS aO aR aE aH aV ra outs tf log pend shelf evs) (x : Six aS aO aR aE aH aV) {us : List Addr} (h : H aV = some (.lst (us.map V.ref))) (tu : TupsAt H us (evs.map evV)) {t : Addr} {e : Ev} (ht : H t = some (.tup (evV e))) :
    MD slots H1 (upd H aV (.lst (us.map V.ref ++ [V.ref t]))) aS aO aR aE aH aV ra outs tf log pend shelf (evs ++ [e]) := by
  obtain ⟨ts, h1, h2⟩ := m.eE
  exact ⟨m.k.wr (.inr (by simp)), lk_ne2 x.sv m.eS, lk_ne2 x.ov m.eO, lk_ne2 x.rv m.eR, ⟨ts, lk_ne2 x.ev h1, h2.wr h⟩, lk_ne2 x.hv m.eH,
    ⟨us ++ [t], by rw [upd_same, List.map_append]; rfl, by rw [List.map_append]; exact (tu.wr h).snoc (lk_ne2 (fun z => by rw [z, h] at ht; cases ht) ht)⟩⟩
theorem MD.wE (m : MD slots H1 H aS aO aR aE aH aV ra outs tf log pend shelf evs) (x : Six aS aO aR aE aH aV) {ts : List Addr} (h : H aE = some (.lst (ts.map V.ref))) (tu : TupsAt H ts (pend.reverse.map pdV)) {t : Addr} {q : Pd} (ht : H t = some (.tup (pdV q))) :
    MD slots H1 (upd H aE (.lst (ts.map V.ref ++ [V.ref t]))) aS aO aR aE aH aV ra outs tf log (q :: pend) shelf evs := by
  obtain ⟨us, h1, h2⟩ := m.eV
  exact ⟨m.k.wr (.inr (by simp)), lk_ne2 x.se m.eS, lk_ne2 x.oe m.eO, lk_ne2 x.re m.eR, ⟨ts ++ [t], by rw [upd_same, List.map_append]; rfl, by rw [List.reverse_cons, List.map_append]; exact (tu.wr h).snoc (lk_ne2 (fun z => by rw [z, h] at ht; cases ht) ht)⟩, lk_ne2 x.eh.symm m.eH,
    ⟨us, lk_ne2 x.ev.symm h1, h2.wr h⟩⟩
/-- what the popping of emptied leaves -/
theorem MD.pE {q : Pd} (m : MD slots H1 H aS aO aR aE aH aV ra outs tf log (q :: pend) shelf evs) (x : Six aS aO aR aE aH aV) : ∃ (ts : List Addr) (t : Addr), H aE = some (.lst (ts.map V.ref ++ [V.ref t])) ∧ H t = some (.tup (pdV q)) ∧
    MD slots H1 (upd H aE (.lst (ts.map V.ref))) aS aO aR aE aH aV ra outs tf log pend shelf evs := by
  obtain ⟨us, h1, h2⟩ := m.eV
  obtain ⟨ts, h3, h4⟩ := m.eE
  rw [List.reverse_cons, List.map_append] at h4
  obtain ⟨ts', t, rfl, ht, h5⟩ := h4.last
  rw [List.map_append] at h3
  exact ⟨ts', t, h3, ht, m.k.wr (.inr (by simp)), lk_ne2 x.se m.eS, lk_ne2 x.oe m.eO, lk_ne2 x.re m.eR, ⟨ts', upd_same, h5.wr h3⟩, lk_ne2 x.eh.symm m.eH, ⟨us, lk_ne2 x.ev.symm h1, h2.wr h3⟩⟩
theorem MD.wH (m : MD slots H1 H aS aO aR aE aH aV ra outs tf log pend shelf evs) (x : Six aS aO aR aE aH aV) (shelf' : List Nat) : MD slots H1 (upd H aH (.lst (shelf'.map fun n : Nat => V.int n))) aS aO aR aE aH aV ra outs tf log pend shelf' evs := by
  obtain ⟨us, h1, h2⟩ := m.eV
  obtain ⟨ts, h3, h4⟩ := m.eE
  exact ⟨m.k.wr (.inr (by simp)), lk_ne2 x.sh m.eS, lk_ne2 x.oh m.eO, lk_ne2 x.rh m.eR, ⟨ts, lk_ne2 x.eh h3, h4.wr m.eH⟩, upd_same, ⟨us, lk_ne2 x.hv.symm h1, h2.wr m.eH⟩⟩
theorem MD.wO (m : MD slots H1 H aS aO aR aE aH aV ra outs tf log pend shelf evs) (x : Six aS aO aR aE aH aV) (outs' : List Int) : MD slots H1 (upd H aO (.lst (outs'.map V.int))) aS aO aR aE aH aV ra outs' tf log pend shelf evs := by
  obtain ⟨us, h1, h2⟩ := m.eV
  obtain ⟨ts, h3, h4⟩ := m.eE
  exact ⟨m.k.wr (.inr (by simp)), lk_ne2 x.so m.eS, upd_same, lk_ne2 x.or_.symm m.eR, ⟨ts, lk_ne2 x.oe.symm h3, h4.wr m.eO⟩, lk_ne2 x.oh.symm m.eH, ⟨us, lk_ne2 x.ov.symm h1, h2.wr m.eO⟩⟩
theorem MD.wR (m : MD slots H1 H aS aO aR aE aH aV ra outs tf log pend shelf evs) (x : Six aS aO aR aE aH aV) (tf' : Nat → Int) : MD slots H1 (upd H aR (.lst ((List.range slots.length).map (refR slots tf')))) aS aO aR aE aH aV ra outs tf' log pend shelf evs := by
  obtain ⟨us, h1, h2⟩ := m.eV
  obtain ⟨ts, h3, h4⟩ := m.eE
  exact ⟨m.k.wr (.inr (by simp)), lk_ne2 x.sr m.eS, lk_ne2 x.or_ m.eO, upd_same, ⟨ts, lk_ne2 x.re.symm h3, h4.wr m.eR⟩, lk_ne2 x.rh.symm m.eH, ⟨us, lk_ne2 x.rv.symm h1, h2.wr m.eR⟩⟩
theorem MD.wS (m : MD slots H1 H aS aO aR aE aH aV ra outs tf log pend shelf evs) (x : Six aS aO aR aE aH aV) (log' : List Nat) : MD slots H1 (upd H aS (.lst ((List.range slots.length).map (slotR slots ra log')))) aS aO aR aE aH aV ra outs tf log' pend shelf evs := by
  obtain ⟨us, h1, h2⟩ := m.eV
  obtain ⟨ts, h3, h4⟩ := m.eE
  exact ⟨m.k.wr (.inr (by simp)), upd_same, lk_ne2 x.so.symm m.eO, lk_ne2 x.sr.symm m.eR, ⟨ts, lk_ne2 x.se.symm h3, h4.wr m.eS⟩, lk_ne2 x.sh.symm m.eH, ⟨us, lk_ne2 x.sv.symm h1, h2.wr m.eS⟩⟩
end
/-- one place of a list of values by number -/
theorem range_set {N n : Nat} {f : Nat → V} {v : V} (hn : n < N) {g : Nat → V} (hg : g n = v) (he : ∀ i, i ≠ n → g i = f i) : ((List.range N).map f).set n v = (List.range N).map g := by
  refine List.ext_getElem? fun i => ?_
  by_cases e : n = i
  · subst e
    rw [List.getElem?_set_self (by rw [List.length_map, List.length_range]; exact hn), List.getElem?_map, List.getElem?_range hn]
    exact congrArg some hg.symm
  · rw [List.getElem?_set_ne e, List.getElem?_map, List.getElem?_map]
    by_cases hi : i < N
    · rw [List.getElem?_range hi]
      exact congrArg some (he i (Ne.symm e)).symm
    · rw [List.getElem?_eq_none (by rw [List.length_range]; omega)]
      rfl
theorem range_at {N n : Nat} {f : Nat → V} (hn : n < N) : atI ((List.range N).map f) (n : Int) = some (f n) := atI_nat (by rw [List.getElem?_map, List.getElem?_range hn]; rfl)
theorem range_ix {N n : Nat} {f : Nat → V} (hn : n < N) : ixN ((List.range N).map f).length (n : Int) = some n := ix_nat (by rw [List.length_map, List.length_range]; exact hn)

local macro_rules | `(tactic| walk_at "na") => `(tactic| first | exact ClR.n_slots (by assumption) | exact ClR.n_outside (by assumption) | exact ClR.n_references (by assumption) | exact ClR.n_limit (by assumption) | exact ClR.n_emptied (by assumption) | exact ClR.n_shelf (by assumption) | exact ClR.n_events (by assumption))
local macro_rules | `(tactic| walk_at "fl") => `(tactic| first | exact mf_slots .. | exact mf_outside .. | exact mf_references .. | exact mf_limit .. | exact mf_emptied .. | exact mf_shelf .. | exact mf_events ..)
local macro_rules | `(tactic| walk_at "ml") => `(tactic| first | exact mf_release .. | exact mf_release_all .. | exact mf_destroy .. | exact mf_drop .. | exact mf_result ..)
local macro_rules | `(tactic| walk_at "rd") => `(tactic| ((with_reducible refine' x_fld  ?_)))
local macro_rules | `(tactic| walk_at "rd") => `(tactic| ((with_reducible refine' x_meth  ?_)))
local macro_rules | `(tactic| walk_at "rd") => `(tactic| ((with_reducible refine' x_ckw  ?_)))
local macro_rules | `(tactic| walk_at "rd") => `(tactic| ((with_reducible refine' x_iR3  ?_)))
local macro_rules | `(tactic| walk_at "rd") => `(tactic| ((with_reducible refine' x_make  ?_)))
local macro_rules | `(tactic| walk_at "rd") => `(tactic| ((with_reducible refine' x_par3  ?_); try simp only [List.set_cons_zero, List.set_cons_succ]))
local macro_rules | `(tactic| walk_at "rd") => `(tactic| ((with_reducible refine' x_three  ?_); try simp only [List.set_cons_zero, List.set_cons_succ]))
local macro_rules | `(tactic| walk_at "rd") => `(tactic| ((with_reducible refine' x_orT  ?_)))
local macro_rules | `(tactic| walk_at "rd") => `(tactic| ((with_reducible refine' x_truN  ?_)))
local macro_rules | `(tactic| walk_at "rd") => `(tactic| ((with_reducible refine' x_truT ?s0 ?_); (case s0 => walk_at "lkT")))
local macro_rules | `(tactic| walk_at "rd") => `(tactic| ((with_reducible refine' x_glst ?s0 ?s1 ?_); (case s0 => walk_at "lkL"); (case s1 => exact rfl)))
local macro_rules | `(tactic| walk_at "rd") => `(tactic| ((with_reducible refine' x_chain  ?_)))
local macro_rules | `(tactic| walk_at "rd") => `(tactic| ((with_reducible refine' x_isiII  ?_)))
local macro_rules | `(tactic| walk_at "rd") => `(tactic| ((with_reducible refine' x_isiIB  ?_)))
local macro_rules | `(tactic| walk_at "rd") => `(tactic| ((with_reducible refine' x_insF ?s0 ?s1 ?s2 ?s3 ?_); (case s0 => walk_at "lk"); (case s1 => exact ClR.cl (by assumption)); (case s2 => walk_at "na"); (case s3 => walk_at "fl")))
local macro_rules | `(tactic| walk_at "rd") => `(tactic| ((with_reducible refine' x_insM ?s0 ?s1 ?_); (case s0 => walk_at "lk"); (case s1 => walk_at "ml")))

section
variable {P : Program} {w : World} {K : PySem.W.Frag} {mg : Str → Option Value} {base : Heap}

/-- _destroy -/
def spDestroy (K : PySem.W.Frag) (C : Addr) : Sp := fun vs H Q _ => ∃ (slots : List (Option Rw)) (H1 : Hp) (p dx aS aO aR aE aH aV : Addr) (ra : Nat → Addr) (lim : Int) (outs : List Int) (tf : Nat → Int) (log : List Nat) (pend : List Pd) (shelf : List Nat) (evs : List Ev) (n d : Nat),
  vs = [.ref p, .int n, .int d] ∧ MS slots C H1 p dx aS aO aR aE aH aV ra lim ∧ MD slots H1 H aS aO aR aE aH aV ra outs tf log pend shelf evs ∧ ClR K C ∧ isLive slots n = true ∧ n ∉ log ∧ pend.length ≤ 100000 ∧ evs.length ≤ 100000 ∧ (rowOf slots n).length ≤ 100000 ∧
  ∀ H', MD slots H1 H' aS aO aR aE aH aV ra outs tf (log ++ [n]) (kids slots n (d + 1) ++ pend) shelf (evs ++ [.destroy n d]) → Q .non H'
theorem ok_destroy {C : Addr} {f : Addr} {fd : FuncData} (F : Fun K "_destroy" "Releasing._destroy" sReleasingDestroy f fd) (T : Txt mg) : FnOk P w K mg base CX0 1 f fd ["self", "node", "depth"] (spDestroy K C) := by
  refine F.ok scReleasingDestroy (fun vs H Q E h => ?_) (fun cdv A outer s H vs Q E hr h => ?_)
  · obtain ⟨slots, H1, p, dx, aS, aO, aR, aE, aH, aV, ra, lim, outs, tf, log, pend, shelf, evs, n, d, rfl, _⟩ := h
    rfl
  · obtain ⟨slots, H1, p, dx, aS, aO, aR, aE, aH, aV, ra, lim, outs, tf, log, pend, shelf, evs, n, d, rfl, ms, md, hC, hl, hn, hp1, hp2, hp3, k⟩ := h
    refine ⟨_, (pss_cons (ps_expr (pe_bm PySem.F.plainAttrs_list PySem.F.slot_list_append PySem.F.type_list_append mt_append (pe_fld (pv 0) rfl) (pa_cons (pe_tup (pa_cons pe_str (pa_cons (pv 1) (pa_cons (pv 2) pa_nil)))) pa_nil)))
      (pss_cons (ps_set (i := 3) scReleasingDestroy.nd rfl (Or.inl rfl) (pe_ix ix_list (pe_fld (pv 0) rfl) (pv 1) (fun _ _ => rfl)))
      (pss_cons (ps_asg pe_non (pg_sub (pe_fld (pv 0) rfl) (pv 1) set_list))
      (pss_one (ps_for PassesOwn.never rfl (pi_range3 (by rfl) T.b_range (pa_cons (pe_op op_sub (pe_callB call_len_seq (by rfl) T.b_len boot'_len (pa_cons (pv 3) pa_nil)) pe_int) (pa_cons (pe_un un_neg pe_int) (pa_cons (pe_un un_neg pe_int) pa_nil)))) (pg_name (i := 4) scReleasingDestroy.nd rfl (Or.inl rfl))
      (pss_one (ps_if (pt_cmpR op_notN1 (pe_ix ix_list (pv 3) (pv 4) (fun _ _ => rfl)) pe_non (nomark _)) (pss_one (ps_expr (pe_bm PySem.F.plainAttrs_list PySem.F.slot_list_append PySem.F.type_list_append mt_append (pe_fld (pv 0) rfl) (pa_cons (pe_tup (pa_cons (pv 1) (pa_cons (pv 4) (pa_cons (pe_ix ix_list (pv 3) (pv 4) (fun _ _ => rfl)) (pa_cons (pe_op op_add (pv 2) pe_int) pa_nil))))) pa_nil)))) pss_nil))))))), ?_⟩
    refine x_start (σ' := [some (.ref p), some (.int n), some (.int d), none, none]) rfl ?_
    dsimp only [cxOf]
    have hins := md.k _ _ ms.pW ms.ins
    obtain ⟨us, eV, tV⟩ := md.eV
    repeat walk_at "rd"
    refine ⟨ty_list (SqL.of eV), ?_⟩
    have six := ms.six
    have hz0 : (us.map V.ref).length < sizeLine := big_line (by rw [List.length_map, tV.len, List.length_map]; omega)
    repeat walk_at "rd"
    rename_i t nt
    have md1 := (md.new (o := .tup (evV (.destroy n d))) nt).wV six (lk_ne eV nt) (tV.new nt) (t := t) (e := .destroy n d) upd_same
    replace md1 : MD slots H1 (upd (upd H t (.tup [.str "destroy", .int n, .int d])) aV (.lst (us.map V.ref ++ [V.ref t]))) aS aO aR aE aH aV ra outs tf log pend shelf (evs ++ [.destroy n d]) := md1
    generalize (upd (upd H t (.tup [.str "destroy", .int n, .int d])) aV (.lst (us.map V.ref ++ [V.ref t]))) = H2 at *
    have hins2 := md1.k _ _ ms.pW ms.ins
    have eS2 := md1.eS
    obtain ⟨row, er, hlt⟩ := live_lt hl
    obtain ⟨hr1, hrW⟩ := ms.rows n row er
    have hrow2 : H2 (ra n) = some (.lst (rowV row)) := md1.k _ _ hrW hr1
    have at1 : atI ((List.range slots.length).map (slotR slots ra log)) (n : Int) = some (.ref (ra n)) := by
      rw [range_at hlt]
      unfold slotR
      rw [if_pos ⟨hl, hn⟩]
    have ix1 := range_ix (f := slotR slots ra log) hlt
    repeat walk_at "rd"
    have md2 := md1.wS six (log ++ [n])
    rw [← range_set (v := V.non) hlt (f := slotR slots ra log) (by unfold slotR; rw [if_neg (by simp)]) (fun i hi => by unfold slotR; simp [hi])] at md2
    generalize upd H2 aS (.lst (((List.range slots.length).map (slotR slots ra log)).set n V.non)) = H3 at *
    have hrow3 : H3 (ra n) = some (.lst (rowV row)) := md2.k _ _ hrW hr1
    have hlen : (rowV row).length = row.length := by unfold rowV; exact List.length_map _
    rw [rowOf_some er] at hp3
    repeat walk_at "rd"
    rw [hlen]
    refine y_forDown (by omega) (by omega) ⟨fun i σ H4 => ∃ (y4 : Option V), σ = [some (.ref p), some (.int n), some (.int d), some (.ref (ra n)), y4] ∧
      MD slots H1 H4 aS aO aR aE aH aV ra outs tf (log ++ [n]) (kidsAt n (d + 1) (row.length - i) (row.drop (row.length - i)) ++ pend) shelf (evs ++ [.destroy n d]),
      ⟨none, rfl, by rw [Nat.sub_zero, List.drop_length]; exact md2⟩, fun _ _ _ _ _ => trivial, ?_, ?_⟩
    · rintro i x σ H4 H4' hi ⟨y4, rfl, md4⟩ ⟨rfl, hx⟩
      have hi2 : i < row.length := by omega
      obtain ⟨j, hj⟩ : ∃ j : Nat, j = row.length - (i + 1) := ⟨_, rfl⟩
      have hjl : j < row.length := by omega
      replace hx : x = V.int ((row.length : Int) - 1 + (i : Int) * (-1)) := hx
      obtain rfl : x = V.int (j : Int) := by rw [hx]; congr 1; omega
      have hdrop : row.drop j = row[j] :: row.drop (j + 1) := List.drop_eq_getElem_cons hjl
      rw [show row.length - i = j + 1 by omega] at md4
      have hrow4 : H4' (ra n) = some (.lst (rowV row)) := md4.k _ _ hrW hr1
      have hins4 := md4.k _ _ ms.pW ms.ins
      obtain ⟨ts, eE, tE⟩ := md4.eE
      have hatj : atI (rowV row) (j : Int) = some (slotV row[j]) := atI_nat (by unfold rowV; rw [List.getElem?_map, List.getElem?_eq_getElem hjl]; rfl)
      have hz1 : (ts.map V.ref).length < sizeLine := big_line (by
        have := kidsAt_len n (d + 1) (row.drop (j + 1)) (j + 1)
        rw [List.length_drop] at this
        rw [List.length_map, tE.len, List.length_map, List.length_reverse, List.length_append]
        omega)
      cases hc : row[j] with
      | none =>
        rw [hc] at hatj hdrop
        replace hatj : atI (rowV row) (j : Int) = some V.non := hatj
        repeat walk_at "rd"
        refine iteF ?_
        repeat walk_at "rd"
        exact ⟨_, rfl, by rw [← hj, hdrop]; exact md4⟩
      | some m =>
        rw [hc] at hatj hdrop
        replace hatj : atI (rowV row) (j : Int) = some (V.int (m : Int)) := hatj
        repeat walk_at "rd"
        refine iteT ?_
        repeat walk_at "rd"
        refine ⟨ty_list (SqL.of eE), ?_⟩
        repeat walk_at "rd"
        rename_i t2 nt2
        refine ⟨_, rfl, ?_⟩
        rw [← hj, hdrop]
        exact (md4.new (o := .tup (pdV ⟨some n, some j, m, d + 1⟩)) nt2).wE six (lk_ne eE nt2) (tE.new nt2) (t := t2) (q := ⟨some n, some j, m, d + 1⟩) upd_same
    · rintro σ H4 ⟨y4, rfl, md4⟩
      rw [show row.length - ((row.length : Int) - 1 + 1).toNat = 0 by omega, List.drop_zero] at md4
      refine k H4 ?_
      unfold kids
      rw [rowOf_some er]
      exact md4
end


section
variable {P : Program} {w : World} {K : PySem.W.Frag} {mg : Str → Option Value} {base : Heap}

theorem tal_pop_self (slots : List (Option Rw)) (outs : List Int) (log : List Nat) (q : Pd) (rest : List Pd) : tal slots outs log (q :: rest) q.node - 1 = tal slots outs log rest q.node := by
  rw [tal_pop, if_pos rfl]
  omega
theorem tal_pop_other (slots : List (Option Rw)) (outs : List Int) (log : List Nat) (q : Pd) (rest : List Pd) {m : Nat} (h : m ≠ q.node) : tal slots outs log rest m = tal slots outs log (q :: rest) m := by
  rw [tal_pop, if_neg (Ne.symm h)]
  omega
/-- the facts that a walk of the machine takes along -/
structure Wk (slots : List (Option Rw)) (outs : List Int) (s : FS) : Prop where
  ok : SOk slots outs s
  ho : ∀ z ∈ outs, 0 ≤ z
  wl : ∀ row, some row ∈ slots → ∀ k, some k ∈ row → ∃ r, slots[k]? = some (some r)
  rl : ∀ row, some row ∈ slots → row.length ≤ 40
  most : slots.length ≤ 40
  sz : s.evs.length + 2 * s.mu slots ≤ 90000
theorem Wk.step {slots : List (Option Rw)} {outs : List Int} {lim : Int} {s s' : FS} (k : Wk slots outs s) (e : stepF slots outs lim s = some s') : Wk slots outs s' := by
  have h := step_mu k.ok k.ho e
  have := k.sz
  exact ⟨k.ok.step k.ho k.wl e, k.ho, k.wl, k.rl, k.most, by omega⟩
theorem Wk.shelf {slots : List (Option Rw)} {outs : List Int} {s : FS} (k : Wk slots outs s) : s.shelf.length ≤ slots.length := by
  have hn := (List.nodup_append.mp k.ok.nd).2.1
  have := hn.length_le_of_subset (l₂ := List.range slots.length) fun n hn => List.mem_range.mpr (live_lt (k.ok.lv n (List.mem_append_right _ hn))).choose_spec.2
  rwa [List.length_range] at this
theorem Wk.row {slots : List (Option Rw)} {outs : List Int} {s : FS} (k : Wk slots outs s) (n : Nat) : (rowOf slots n).length ≤ 40 := by
  unfold rowOf
  cases e : slots[n]? with
  | none => simp
  | some o =>
    cases o with
    | none => simp
    | some row => exact k.rl row (List.mem_of_getElem? e)
def spRelease (K : PySem.W.Frag) (C : Addr) : Sp := fun vs H Q _ => ∃ (slots : List (Option Rw)) (H1 : Hp) (p dx aS aO aR aE aH aV : Addr) (ra : Nat → Addr) (lim : Int) (outs : List Int) (s : FS) (q : Pd) (rest : List Pd),
  vs = [.ref p, optV q.holder, optV q.slot, .int q.node, .int q.depth] ∧ MS slots C H1 p dx aS aO aR aE aH aV ra lim ∧ s.pend = q :: rest ∧ MD slots H1 H aS aO aR aE aH aV ra outs (tal slots outs s.log s.pend) s.log rest s.shelf s.evs ∧ ClR K C ∧ Wk slots outs s ∧
  ∀ s' H', stepF slots outs lim s = some s' → MD slots H1 H' aS aO aR aE aH aV ra outs (tal slots outs s'.log s'.pend) s'.log s'.pend s'.shelf s'.evs → Q .non H'
theorem ok_release {C : Addr} {f : Addr} {fd : FuncData} (F : Fun K "_release" "Releasing._release" sReleasingRelease f fd) (T : Txt mg) (m_destroy : Lm P w K mg base C "_destroy" 1 ["self", "node", "depth"] (spDestroy K C)) (cR : Cls K C) :
    FnOk P w K mg base CX0 2 f fd ["self", "holder", "slot", "node", "depth"] (spRelease K C) := by
  refine F.ok scReleasingRelease (fun vs H Q E h => ?_) (fun cdv A outer s H vs Q E hr h => ?_)
  · obtain ⟨slots, H1, p, dx, aS, aO, aR, aE, aH, aV, ra, lim, outs, s, q, rest, rfl, _⟩ := h
    rfl
  · obtain ⟨slots, H1, p, dx, aS, aO, aR, aE, aH, aV, ra, lim, outs, st, q, rest, rfl, ms, hp, md, hC, wk, k⟩ := h
    refine ⟨_, (pss_cons (ps_augS (pe_fld (pv 0) rfl) (pv 3) get_list pe_int ip_sub set_list)
      (pss_cons (ps_set (i := 5) scReleasingRelease.nd rfl (Or.inl rfl) (pe_ix ix_list (pe_fld (pv 0) rfl) (pv 3) (fun _ _ => rfl)))
      (pss_cons (ps_expr (pe_bm PySem.F.plainAttrs_list PySem.F.slot_list_append PySem.F.type_list_append mt_append (pe_fld (pv 0) rfl) (pa_cons (pe_tup (pa_cons pe_str (pa_cons (pv 1) (pa_cons (pv 2) (pa_cons (pv 3) (pa_cons (pv 5) pa_nil)))))) pa_nil)))
      (pss_cons (ps_if (pt_cmpR op_gt (pv 5) pe_int (nomark _)) (pss_one ps_retN) pss_nil)
      (pss_one (ps_if (pt_cmpR op_lt (pv 4) (pe_fld (pv 0) rfl) (nomark _)) (pss_one (ps_expr (pe_lm m_destroy cR (hr.mono (by decide)) (pv 0) (pa_cons (pv 3) (pa_cons (pv 4) pa_nil))))) (pss_cons (ps_expr (pe_bm PySem.F.plainAttrs_list PySem.F.slot_list_append PySem.F.type_list_append mt_append (pe_fld (pv 0) rfl) (pa_cons (pv 3) pa_nil)))
      (pss_one (ps_expr (pe_bm PySem.F.plainAttrs_list PySem.F.slot_list_append PySem.F.type_list_append mt_append (pe_fld (pv 0) rfl) (pa_cons (pe_tup (pa_cons pe_str (pa_cons (pv 3) (pa_cons (pe_callB call_len_seq (by rfl) T.b_len boot'_len (pa_cons (pe_fld (pv 0) rfl) pa_nil)) pa_nil)))) pa_nil))))))))))), ?_⟩
    refine x_start (σ' := [some (.ref p), some (optV q.holder), some (optV q.slot), some (.int q.node), some (.int q.depth), none]) rfl ?_
    dsimp only [cxOf]
    have six := ms.six
    have hl := wk.ok.pl q (by rw [hp]; exact List.mem_cons_self)
    have hnew := wk.ok.new wk.ho hp
    obtain ⟨row, er, hlt⟩ := live_lt hl
    have hins := md.k _ _ ms.pW ms.ins
    have eR := md.eR
    have at1 : atI ((List.range slots.length).map (refR slots (tal slots outs st.log st.pend))) (q.node : Int) = some (.int (tal slots outs st.log st.pend q.node)) := by
      rw [range_at hlt]
      unfold refR
      rw [if_pos hl]
    have ix1 := range_ix (f := refR slots (tal slots outs st.log st.pend)) hlt
    have hset : ((List.range slots.length).map (refR slots (tal slots outs st.log st.pend))).set q.node (V.int (tal slots outs st.log st.pend q.node - 1)) = (List.range slots.length).map (refR slots (tal slots outs st.log rest)) :=
      range_set hlt (by unfold refR; rw [if_pos hl, hp, tal_pop_self]) (fun i hi => by unfold refR; rw [hp, tal_pop_other _ _ _ _ _ hi])
    repeat walk_at "rd"
    rw [hset]
    have md1 := md.wR six (tal slots outs st.log rest)
    have eR2 := md1.eR
    generalize upd H aR (.lst ((List.range slots.length).map (refR slots (tal slots outs st.log rest)))) = H2 at *
    have hins2 := md1.k _ _ ms.pW ms.ins
    have at2 : atI ((List.range slots.length).map (refR slots (tal slots outs st.log rest))) (q.node : Int) = some (.int (tal slots outs st.log rest q.node)) := by
      rw [range_at hlt]
      unfold refR
      rw [if_pos hl]
    obtain ⟨us, eV, tV⟩ := md1.eV
    have hsz := wk.sz
    have hz1 : (us.map V.ref).length < sizeLine := big_line (by rw [List.length_map, tV.len, List.length_map]; omega)
    repeat walk_at "rd"
    refine ⟨ty_list (SqL.of eV), ?_⟩
    repeat walk_at "rd"
    rename_i t nt
    have md2 := (md1.new (o := .tup (evV (.release q.holder q.slot q.node (tal slots outs st.log rest q.node)))) nt).wV six (lk_ne eV nt) (tV.new nt) (t := t) (e := .release q.holder q.slot q.node (tal slots outs st.log rest q.node)) upd_same
    replace md2 : MD slots H1 (upd (upd H2 t (.tup [.str "release", optV q.holder, optV q.slot, .int q.node, .int (tal slots outs st.log rest q.node)])) aV (.lst (us.map V.ref ++ [V.ref t]))) aS aO aR aE aH aV ra outs (tal slots outs st.log rest) st.log rest st.shelf (st.evs ++ [.release q.holder q.slot q.node (tal slots outs st.log rest q.node)]) := md2
    generalize (upd (upd H2 t (.tup [.str "release", optV q.holder, optV q.slot, .int q.node, .int (tal slots outs st.log rest q.node)])) aV (.lst (us.map V.ref ++ [V.ref t]))) = H3 at *
    by_cases h0 : 0 < tal slots outs st.log rest q.node
    · have hstep : stepF slots outs lim st = some ⟨rest, st.shelf, st.evs ++ [.release q.holder q.slot q.node (tal slots outs st.log rest q.node)]⟩ := by
        unfold stepF
        rw [hp]
        simp only
        rw [if_pos h0]
      have hlog : FS.log ⟨rest, st.shelf, st.evs ++ [.release q.holder q.slot q.node (tal slots outs st.log rest q.node)]⟩ = st.log := by
        unfold FS.log
        rw [List.filterMap_append]
        exact List.append_nil _
      refine iteP (decide_eq_true h0) ?_
      repeat walk_at "rd"
      refine k _ H3 hstep ?_
      rw [hlog]
      exact md2
    · refine iteN (decide_eq_false h0) ?_
      have hins3 := md2.k _ _ ms.pW ms.ins
      repeat walk_at "rd"
      by_cases hd : (q.depth : Int) < lim
      · have hstep : stepF slots outs lim st = some ⟨kids slots q.node (q.depth + 1) ++ rest, st.shelf, st.evs ++ [.release q.holder q.slot q.node (tal slots outs st.log rest q.node), .destroy q.node q.depth]⟩ := by
          unfold stepF
          rw [hp]
          simp only
          rw [if_neg h0, if_pos hd]
        have hlog : FS.log ⟨kids slots q.node (q.depth + 1) ++ rest, st.shelf, st.evs ++ [.release q.holder q.slot q.node (tal slots outs st.log rest q.node), .destroy q.node q.depth]⟩ = st.log ++ [q.node] := by
          unfold FS.log
          rw [List.filterMap_append]
          rfl
        have hnl : q.node ∉ st.log := fun h => hnew (List.mem_append_left _ h)
        refine iteP (decide_eq_true hd) ?_
        repeat walk_at "rd"
        have hrl := wk.row q.node
        have hmu : st.mu slots = left slots st.log + (rest.length + 1) := by unfold FS.mu; rw [hp]; rfl
        refine ⟨slots, H1, p, dx, aS, aO, aR, aE, aH, aV, ra, lim, outs, _, st.log, rest, st.shelf, _, q.node, q.depth, rfl, ms, md2, hC, hl, hnl, by omega, by rw [List.length_append]; show st.evs.length + 1 ≤ 100000; omega, by omega, fun H4 md4 => ?_⟩
        repeat walk_at "rd"
        refine k _ H4 hstep ?_
        rw [hlog]
        show MD slots H1 H4 aS aO aR aE aH aV ra outs (tal slots outs (st.log ++ [q.node]) (kids slots q.node (q.depth + 1) ++ rest)) (st.log ++ [q.node]) (kids slots q.node (q.depth + 1) ++ rest) st.shelf _
        rw [show tal slots outs (st.log ++ [q.node]) (kids slots q.node (q.depth + 1) ++ rest) = tal slots outs st.log rest from funext fun m => tal_dead hlt hnl _ _ m]
        rw [List.append_assoc] at md4
        exact md4
      · have hstep : stepF slots outs lim st = some ⟨rest, st.shelf ++ [q.node], st.evs ++ [.release q.holder q.slot q.node (tal slots outs st.log rest q.node), .shelve q.node (st.shelf.length + 1)]⟩ := by
          unfold stepF
          rw [hp]
          simp only
          rw [if_neg h0, if_neg hd]
        have hlog : FS.log ⟨rest, st.shelf ++ [q.node], st.evs ++ [.release q.holder q.slot q.node (tal slots outs st.log rest q.node), .shelve q.node (st.shelf.length + 1)]⟩ = st.log := by
          unfold FS.log
          rw [List.filterMap_append]
          exact List.append_nil _
        refine iteN (decide_eq_false hd) ?_
        have eH3 := md2.eH
        have hsl := wk.shelf
        have hm40 := wk.most
        have hz2 : (st.shelf.map fun n : Nat => V.int n).length < sizeLine := big_line (by rw [List.length_map]; omega)
        repeat walk_at "rd"
        refine ⟨ty_list (SqL.of eH3), ?_⟩
        repeat walk_at "rd"
        have md3 := md2.wH six (st.shelf ++ [q.node])
        rw [List.map_append] at md3
        replace md3 : MD slots H1 (upd H3 aH (.lst ((st.shelf.map fun n : Nat => V.int n) ++ [V.int q.node]))) aS aO aR aE aH aV ra outs (tal slots outs st.log rest) st.log rest (st.shelf ++ [q.node]) (st.evs ++ [.release q.holder q.slot q.node (tal slots outs st.log rest q.node)]) := md3
        generalize upd H3 aH (.lst ((st.shelf.map fun n : Nat => V.int n) ++ [V.int q.node])) = H4 at *
        have hins4 := md3.k _ _ ms.pW ms.ins
        have eH4 := md3.eH
        obtain ⟨us4, eV4, tV4⟩ := md3.eV
        have hz3 : (us4.map V.ref).length < sizeLine := big_line (by rw [List.length_map, tV4.len, List.length_map, List.length_append]; show st.evs.length + 1 ≤ 1000000; omega)
        repeat walk_at "rd"
        refine ⟨ty_list (SqL.of eV4), ?_⟩
        repeat walk_at "rd"
        rename_i t4 nt4
        refine k _ _ hstep ?_
        rw [hlog]
        have hls : V.int ((((st.shelf ++ [q.node]).map fun n : Nat => V.int n)).length : Int) = V.int ((st.shelf.length + 1 : Nat) : Int) := by rw [List.length_map, List.length_append]; rfl
        rw [hls]
        have md4 := (md3.new (o := .tup (evV (.shelve q.node (st.shelf.length + 1)))) nt4).wV six (lk_ne eV4 nt4) (tV4.new nt4) (t := t4) (e := .shelve q.node (st.shelf.length + 1)) upd_same
        rw [List.append_assoc] at md4
        exact md4
def spReleaseAll (K : PySem.W.Frag) (C : Addr) : Sp := fun vs H Q _ => ∃ (slots : List (Option Rw)) (H1 : Hp) (p dx aS aO aR aE aH aV : Addr) (ra : Nat → Addr) (lim : Int) (outs : List Int) (s : FS),
  vs = [.ref p] ∧ MS slots C H1 p dx aS aO aR aE aH aV ra lim ∧ MD slots H1 H aS aO aR aE aH aV ra outs (tal slots outs s.log s.pend) s.log s.pend s.shelf s.evs ∧ ClR K C ∧ Wk slots outs s ∧
  ∀ s' H', Steps slots outs lim s s' → s'.pend = [] → Wk slots outs s' → s'.mu slots ≤ s.mu slots → MD slots H1 H' aS aO aR aE aH aV ra outs (tal slots outs s'.log s'.pend) s'.log s'.pend s'.shelf s'.evs → Q .non H'
theorem ok_releaseAll {C : Addr} {f : Addr} {fd : FuncData} (F : Fun K "_release_all" "Releasing._release_all" sReleasingReleaseAll f fd) (T : Txt mg) (m_release : Lm P w K mg base C "_release" 2 ["self", "holder", "slot", "node", "depth"] (spRelease K C)) (cR : Cls K C) :
    FnOk P w K mg base CX0 3 f fd ["self"] (spReleaseAll K C) := by
  refine F.ok scReleasingReleaseAll (fun vs H Q E h => ?_) (fun cdv A outer s H vs Q E hr h => ?_)
  · obtain ⟨slots, H1, p, dx, aS, aO, aR, aE, aH, aV, ra, lim, outs, s, rfl, _⟩ := h
    rfl
  · obtain ⟨slots, H1, p, dx, aS, aO, aR, aE, aH, aV, ra, lim, outs, st, rfl, ms, md, hC, wk, k⟩ := h
    refine ⟨_, (pss_one (ps_while PassesOwn.never (pt_truth' (pe_fld (pv 0) rfl))
      (pss_cons (ps_asg (pe_bm0 PySem.F.plainAttrs_list PySem.F.slot_list_pop PySem.F.type_list_pop mt_pop (pe_fld (pv 0) rfl)) (pg_tup rfl (pgs_cons (pg_name (i := 1) scReleasingReleaseAll.nd rfl (Or.inl rfl)) (pgs_cons (pg_name (i := 2) scReleasingReleaseAll.nd rfl (Or.inl rfl)) (pgs_cons (pg_name (i := 3) scReleasingReleaseAll.nd rfl (Or.inl rfl)) (pgs_cons (pg_name (i := 4) scReleasingReleaseAll.nd rfl (Or.inl rfl)) pgs_nil))))))
      (pss_one (ps_expr (pe_lm m_release cR (hr.mono (by decide)) (pv 0) (pa_cons (pv 1) (pa_cons (pv 2) (pa_cons (pv 3) (pa_cons (pv 4) pa_nil)))))))))), ?_⟩
    refine x_start (σ' := [some (.ref p), none, none, none, none]) rfl ?_
    dsimp only [cxOf]
    have six := ms.six
    repeat walk_at "rd"
    refine ⟨fun m σ H2 => ∃ (s2 : FS) (y1 y2 y3 y4 : Option V), σ = [some (.ref p), y1, y2, y3, y4] ∧ MD slots H1 H2 aS aO aR aE aH aV ra outs (tal slots outs s2.log s2.pend) s2.log s2.pend s2.shelf s2.evs ∧ Wk slots outs s2 ∧ Steps slots outs lim st s2 ∧ s2.mu slots ≤ st.mu slots ∧ m = s2.mu slots,
      ⟨_, st, none, none, none, none, rfl, md, wk, .refl _, Nat.le_refl _, rfl⟩, ?_⟩
    rintro m σ H2 ⟨s2, y1, y2, y3, y4, rfl, md2, wk2, hs2, hm2, rfl⟩
    have hins := md2.k _ _ ms.pW ms.ins
    cases hp : s2.pend with
    | nil =>
      obtain ⟨ts, eE, tE⟩ := md2.eE
      have hts : ts = [] := by
        have := tE.len
        rw [hp] at this
        exact List.eq_nil_of_length_eq_zero this
      subst hts
      repeat walk_at "rd"
      refine iteF ?_
      exact k s2 H2 hs2 hp wk2 hm2 md2
    | cons q rest =>
      have md2' := md2
      rw [hp] at md2'
      obtain ⟨ts, t, eE, ht, md3'⟩ := md2'.pE six
      rw [← hp] at md3'
      have eat : (ts.map V.ref ++ [V.ref t])[(ts.map V.ref ++ [V.ref t]).length - 1]? = some (V.ref t) := by simp
      have nt : t ≠ aE := fun z => by
        rw [z, eE] at ht
        cases ht
      replace ht : H2 t = some (.tup [optV q.holder, optV q.slot, .int q.node, .int q.depth]) := ht
      have npE : p ≠ aE := fun z => by
        rw [z, eE] at hins
        cases hins
      repeat walk_at "rd"
      refine iteP (by simp) (x_turn ?_)
      repeat walk_at "rd"
      refine ⟨ty_list (SqL.of eE), ?_⟩
      repeat walk_at "rd"
      rw [List.dropLast_concat]
      refine ⟨slots, H1, p, dx, aS, aO, aR, aE, aH, aV, ra, lim, outs, s2, q, rest, rfl, ms, hp, md3', hC, wk2, fun s' H3 hst md4 => ?_⟩
      have hmu := (step_mu wk2.ok wk2.ho hst).1
      repeat walk_at "rd"
      exact ⟨s'.mu slots, hmu, s', _, _, _, _, rfl, md4, wk2.step hst, hs2.tail hst, by omega, rfl⟩
end


section
variable {P : Program} {w : World} {K : PySem.W.Frag} {mg : Str → Option Value} {base : Heap}

theorem tal_start {slots : List (Option Rw)} {outs : List Int} {n : Nat} {z : Int} (hz : outs[n]? = some z) (log : List Nat) (m : Nat) : tal slots (outs.set n (z - 1)) log [⟨none, none, n, 0⟩] m = tal slots outs log [] m := by
  unfold tal
  rw [pendC_cons, show pendC [] m = 0 from rfl]
  by_cases e : n = m
  · subst e
    rw [List.getElem?_set_self (List.getElem?_eq_some_iff.mp hz).1, hz]
    simp only [if_true, Option.getD_some]
    omega
  · rw [List.getElem?_set_ne e, if_neg e]
theorem set_nonneg {outs : List Int} {n : Nat} {z : Int} (ho : ∀ z ∈ outs, 0 ≤ z) (h : 1 ≤ z) : ∀ y ∈ outs.set n (z - 1), 0 ≤ y := by
  intro y hy
  rcases List.mem_or_eq_of_mem_set hy with hy | rfl
  · exact ho y hy
  · omega
theorem Wk.start {slots : List (Option Rw)} {outs : List Int} {s : FS} (k : Wk slots outs s) (hp : s.pend = []) (hs : s.shelf = []) {n : Nat} {z : Int} (hz : outs[n]? = some z) (h1 : 1 ≤ z) (hl : isLive slots n = true) (hsz : s.evs.length + 2 * s.mu slots ≤ 89000) :
    Wk slots (outs.set n (z - 1)) ⟨[⟨none, none, n, 0⟩], [], s.evs⟩ := by
  have hlog : FS.log ⟨[⟨none, none, n, 0⟩], [], s.evs⟩ = s.log := rfl
  refine ⟨⟨fun q hq => ?_, ?_, fun m hm => ?_, fun m hm => ?_⟩, set_nonneg k.ho h1, k.wl, k.rl, k.most, ?_⟩
  · rw [List.mem_singleton.mp hq]
    exact hl
  · rw [hlog]
    have := k.ok.nd
    rwa [hs] at this
  · rw [hlog] at hm ⊢
    show tal slots (outs.set n (z - 1)) s.log [⟨none, none, n, 0⟩] m = 0
    rw [tal_start hz, ← hp]
    exact k.ok.z m (by rw [hs]; exact hm)
  · rw [hlog] at hm
    exact k.ok.lv m (by rw [hs]; exact hm)
  · have h2 : s.mu slots = left slots s.log + 0 := by unfold FS.mu; rw [hp]; rfl
    have h3 : FS.mu slots ⟨[⟨none, none, n, 0⟩], [], s.evs⟩ = left slots s.log + 1 := rfl
    rw [h3]
    show s.evs.length + 2 * (left slots s.log + 1) ≤ 90000
    omega
def spMDrop (K : PySem.W.Frag) (C : Addr) : Sp := fun vs H Q _ => ∃ (slots : List (Option Rw)) (H1 : Hp) (p dx aS aO aR aE aH aV : Addr) (ra : Nat → Addr) (lim : Int) (outs : List Int) (s : FS) (n : Nat) (z : Int),
  vs = [.ref p, .int n] ∧ MS slots C H1 p dx aS aO aR aE aH aV ra lim ∧ MD slots H1 H aS aO aR aE aH aV ra outs (tal slots outs s.log []) s.log [] [] s.evs ∧ ClR K C ∧ Wk slots outs s ∧ s.pend = [] ∧ s.shelf = [] ∧ outs.length = slots.length ∧ outs[n]? = some z ∧ 1 ≤ z ∧ isLive slots n = true ∧ s.evs.length + 2 * s.mu slots ≤ 89000 ∧ 0 < lim ∧
  ∀ s' H', Steps slots (outs.set n (z - 1)) lim ⟨[⟨none, none, n, 0⟩], [], s.evs⟩ s' → s'.pend = [] → s'.shelf = [] → Wk slots (outs.set n (z - 1)) s' → MD slots H1 H' aS aO aR aE aH aV ra (outs.set n (z - 1)) (tal slots (outs.set n (z - 1)) s'.log []) s'.log [] [] s'.evs → Q .non H'
theorem ok_mdrop {C : Addr} {f : Addr} {fd : FuncData} (F : Fun K "drop" "Releasing.drop" sReleasingDrop f fd) (T : Txt mg) (m_release_all : Lm P w K mg base C "_release_all" 3 ["self"] (spReleaseAll K C)) (m_destroy : Lm P w K mg base C "_destroy" 1 ["self", "node", "depth"] (spDestroy K C)) (cR : Cls K C) :
    FnOk P w K mg base CX0 4 f fd ["self", "node"] (spMDrop K C) := by
  refine F.ok scReleasingDrop (fun vs H Q E h => ?_) (fun cdv A outer s H vs Q E hr h => ?_)
  · obtain ⟨slots, H1, p, dx, aS, aO, aR, aE, aH, aV, ra, lim, outs, s, n, z, rfl, _⟩ := h
    rfl
  · obtain ⟨slots, H1, p, dx, aS, aO, aR, aE, aH, aV, ra, lim, outs, st, n, z, rfl, ms, md, hC, wk, hp, hs, hol, hz, h1, hl, hsz, hlim, k⟩ := h
    refine ⟨_, (pss_cons (ps_augS (pe_fld (pv 0) rfl) (pv 1) get_list pe_int ip_sub set_list)
      (pss_cons (ps_expr (pe_bm PySem.F.plainAttrs_list PySem.F.slot_list_append PySem.F.type_list_append mt_append (pe_fld (pv 0) rfl) (pa_cons (pe_tup (pa_cons pe_non (pa_cons pe_non (pa_cons (pv 1) (pa_cons pe_int pa_nil))))) pa_nil)))
      (pss_cons (ps_expr (pe_lm0 m_release_all cR (hr.mono (by decide)) (pv 0)))
      (pss_one (ps_while PassesOwn.never (pt_truth' (pe_fld (pv 0) rfl))
      (pss_cons (ps_set (i := 2) scReleasingDrop.nd rfl (Or.inl rfl) (pe_bm0 PySem.F.plainAttrs_list PySem.F.slot_list_pop PySem.F.type_list_pop mt_pop (pe_fld (pv 0) rfl)))
      (pss_cons (ps_expr (pe_bm PySem.F.plainAttrs_list PySem.F.slot_list_append PySem.F.type_list_append mt_append (pe_fld (pv 0) rfl) (pa_cons (pe_tup (pa_cons pe_str (pa_cons (pv 2) (pa_cons (pe_callB call_len_seq (by rfl) T.b_len boot'_len (pa_cons (pe_fld (pv 0) rfl) pa_nil)) pa_nil)))) pa_nil)))
      (pss_cons (ps_expr (pe_lm m_destroy cR (hr.mono (by decide)) (pv 0) (pa_cons (pv 2) (pa_cons pe_int pa_nil))))
      (pss_one (ps_expr (pe_lm0 m_release_all cR (hr.mono (by decide)) (pv 0)))))))))))), ?_⟩
    refine x_start (σ' := [some (.ref p), some (.int n), none]) rfl ?_
    dsimp only [cxOf]
    have six := ms.six
    have hins := md.k _ _ ms.pW ms.ins
    have eO := md.eO
    obtain ⟨hnl, hze⟩ := List.getElem?_eq_some_iff.mp hz
    have at1 : atI (outs.map V.int) (n : Int) = some (.int z) := atI_nat (by rw [List.getElem?_map, hz]; rfl)
    have ix1 : ixN (outs.map V.int).length (n : Int) = some n := ix_nat (by rw [List.length_map]; exact hnl)
    repeat walk_at "rd"
    have md1 := md.wO six (outs.set n (z - 1))
    rw [List.map_set] at md1
    generalize upd H aO (.lst ((outs.map V.int).set n (V.int (z - 1)))) = H2 at *
    have hins2 := md1.k _ _ ms.pW ms.ins
    obtain ⟨ts, eE, tE⟩ := md1.eE
    have hz0 : (ts.map V.ref).length < sizeLine := big_line (by rw [List.length_map, tE.len]; simp)
    repeat walk_at "rd"
    refine ⟨ty_list (SqL.of eE), ?_⟩
    repeat walk_at "rd"
    rename_i t nt
    have md2 := (md1.new (o := .tup (pdV ⟨none, none, n, 0⟩)) nt).wE six (lk_ne eE nt) (tE.new nt) (t := t) (q := ⟨none, none, n, 0⟩) upd_same
    replace md2 : MD slots H1 (upd (upd H2 t (.tup [.non, .non, .int n, .int 0])) aE (.lst (ts.map V.ref ++ [V.ref t]))) aS aO aR aE aH aV ra (outs.set n (z - 1)) (tal slots outs st.log []) st.log [⟨none, none, n, 0⟩] [] st.evs := md2
    generalize (upd (upd H2 t (.tup [.non, .non, .int n, .int 0])) aE (.lst (ts.map V.ref ++ [V.ref t]))) = H3 at *
    rw [← show tal slots (outs.set n (z - 1)) st.log [⟨none, none, n, 0⟩] = tal slots outs st.log [] from funext fun m => tal_start hz _ m] at md2
    have wk2 := wk.start hp hs hz h1 hl hsz
    have hins3 := md2.k _ _ ms.pW ms.ins
    repeat walk_at "rd"
    refine ⟨slots, H1, p, dx, aS, aO, aR, aE, aH, aV, ra, lim, outs.set n (z - 1), ⟨[⟨none, none, n, 0⟩], [], st.evs⟩, rfl, ms, md2, hC, wk2, fun s3 H4 hs3 hp3 wk3 hm3 md3 => ?_⟩
    repeat walk_at "rd"
    refine ⟨fun m σ H5 => ∃ (s5 : FS) (y2 : Option V), σ = [some (.ref p), some (.int n), y2] ∧ MD slots H1 H5 aS aO aR aE aH aV ra (outs.set n (z - 1)) (tal slots (outs.set n (z - 1)) s5.log s5.pend) s5.log s5.pend s5.shelf s5.evs ∧ Wk slots (outs.set n (z - 1)) s5 ∧ s5.pend = [] ∧ Steps slots (outs.set n (z - 1)) lim ⟨[⟨none, none, n, 0⟩], [], st.evs⟩ s5 ∧ m = s5.mu slots,
      ⟨_, s3, none, rfl, md3, wk3, hp3, hs3, rfl⟩, ?_⟩
    rintro m σ H5 ⟨s5, y2, rfl, md5, wk5, hp5, hs5, rfl⟩
    have hins5 := md5.k _ _ ms.pW ms.ins
    have eH5 := md5.eH
    rcases List.eq_nil_or_concat s5.shelf with he | ⟨ss, a, he⟩
    · rw [he] at eH5
      repeat walk_at "rd"
      refine iteF ?_
      refine k s5 H5 hs5 hp5 he wk5 ?_
      rw [hp5, he] at md5
      exact md5
    · rw [List.concat_eq_append] at he
      rw [he, List.map_append] at eH5
      replace eH5 : H5 aH = some (.lst ((ss.map fun n : Nat => V.int n) ++ [V.int (a : Int)])) := eH5
      have eat : ((ss.map fun n : Nat => V.int n) ++ [V.int (a : Int)])[((ss.map fun n : Nat => V.int n) ++ [V.int (a : Int)]).length - 1]? = some (V.int (a : Int)) := by simp
      repeat walk_at "rd"
      refine iteP (by simp) (x_turn ?_)
      repeat walk_at "rd"
      refine ⟨ty_list (SqL.of eH5), ?_⟩
      repeat walk_at "rd"
      rw [List.dropLast_concat]
      have md6 := md5.wH six ss
      generalize upd H5 aH (.lst (ss.map fun n : Nat => V.int n)) = H6 at *
      have hins6 := md6.k _ _ ms.pW ms.ins
      have eH6 := md6.eH
      obtain ⟨us, eV, tV⟩ := md6.eV
      have hsz5 := wk5.sz
      have hz1 : (us.map V.ref).length < sizeLine := big_line (by rw [List.length_map, tV.len, List.length_map]; omega)
      have ham : a ∈ s5.log ++ s5.shelf := by rw [he]; simp
      have hla := wk5.ok.lv a ham
      have hnd := wk5.ok.nd
      rw [he] at hnd
      have hna : a ∉ s5.log := fun h => (List.nodup_append.mp hnd).2.2 a h a (by simp) rfl
      obtain ⟨_, _, hlta⟩ := live_lt hla
      have hstep : stepF slots (outs.set n (z - 1)) lim s5 = some ⟨kids slots a 1, ss, s5.evs ++ [.take a ss.length, .destroy a 0]⟩ := by
        unfold stepF
        rw [hp5, he]
        simp
      have wk6 := wk5.step hstep
      have hmu6 := (step_mu wk5.ok wk5.ho hstep).1
      repeat walk_at "rd"
      refine ⟨ty_list (SqL.of eV), ?_⟩
      repeat walk_at "rd"
      rename_i t2 nt2
      have md7 := (md6.new (o := .tup (evV (.take a ss.length))) nt2).wV six (lk_ne eV nt2) (tV.new nt2) (t := t2) (e := .take a ss.length) upd_same
      have hls : V.int ((ss.map fun n : Nat => V.int n).length : Int) = V.int (ss.length : Int) := by rw [List.length_map]
      rw [hls]
      replace md7 : MD slots H1 (upd (upd H6 t2 (.tup [.str "take", .int a, .int ss.length])) aV (.lst (us.map V.ref ++ [V.ref t2]))) aS aO aR aE aH aV ra (outs.set n (z - 1)) (tal slots (outs.set n (z - 1)) s5.log s5.pend) s5.log s5.pend ss (s5.evs ++ [.take a ss.length]) := md7
      generalize (upd (upd H6 t2 (.tup [.str "take", .int a, .int ss.length])) aV (.lst (us.map V.ref ++ [V.ref t2]))) = H7 at *
      have hins7 := md7.k _ _ ms.pW ms.ins
      have hrl := wk5.row a
      repeat walk_at "rd"
      refine ⟨slots, H1, p, dx, aS, aO, aR, aE, aH, aV, ra, lim, outs.set n (z - 1), _, s5.log, s5.pend, ss, _, a, 0, rfl, ms, md7, hC, hla, hna, by rw [hp5]; simp, by rw [List.length_append]; show s5.evs.length + 1 ≤ 100000; omega, by omega, fun H8 md8 => ?_⟩
      have hins8 := md8.k _ _ ms.pW ms.ins
      repeat walk_at "rd"
      have hlog6 : FS.log ⟨kids slots a 1, ss, s5.evs ++ [.take a ss.length, .destroy a 0]⟩ = s5.log ++ [a] := by
        unfold FS.log
        rw [List.filterMap_append]
        rfl
      have md9 : MD slots H1 H8 aS aO aR aE aH aV ra (outs.set n (z - 1)) (tal slots (outs.set n (z - 1)) (FS.log ⟨kids slots a 1, ss, s5.evs ++ [.take a ss.length, .destroy a 0]⟩) (kids slots a 1)) (FS.log ⟨kids slots a 1, ss, s5.evs ++ [.take a ss.length, .destroy a 0]⟩) (kids slots a 1) ss (s5.evs ++ [.take a ss.length, .destroy a 0]) := by
        rw [hlog6]
        have := md8
        rw [hp5, List.append_assoc, List.append_nil] at this
        rw [show tal slots (outs.set n (z - 1)) (s5.log ++ [a]) (kids slots a 1) = tal slots (outs.set n (z - 1)) s5.log [] from funext fun m => by
          have := tal_dead (slots := slots) (outs := outs.set n (z - 1)) hlta hna 1 [] m
          rwa [List.append_nil] at this]
        exact this
      refine ⟨slots, H1, p, dx, aS, aO, aR, aE, aH, aV, ra, lim, outs.set n (z - 1), _, rfl, ms, md9, hC, wk6, fun s9 H9 hs9 hp9 wk9 hm9 mdA => ?_⟩
      repeat walk_at "rd"
      exact ⟨s9.mu slots, by omega, s9, _, rfl, mdA, wk9, hp9, (hs5.tail hstep).trans hs9, rfl⟩
end


section
variable {P : Program} {w : World} {K : PySem.W.Frag} {mg : Str → Option Value} {base : Heap}
def usesF (f : Nat → Nat) (N : Nat) : List Int := (List.range N).map fun k => (f k : Int)
theorem usesF_len (f : Nat → Nat) (N : Nat) : (usesF f N).length = N := by
  unfold usesF
  rw [List.length_map, List.length_range]
theorem usesF_at {f : Nat → Nat} {N h : Nat} (hh : h < N) : (usesF f N)[h]? = some (f h : Int) := by
  unfold usesF
  rw [List.getElem?_map, List.getElem?_range hh]
  rfl
theorem usesF_ext {f g : Nat → Nat} {N : Nat} (h : ∀ k, k < N → f k = g k) : usesF f N = usesF g N := by
  unfold usesF
  refine List.map_congr_left fun k hk => ?_
  rw [h k (List.mem_range.mp hk)]
theorem usesF_set {f : Nat → Nat} {N h : Nat} (hh : h < N) : (usesF f N).set h ((f h : Int) + 1) = usesF (fun k => f k + if k = h then 1 else 0) N := by
  refine List.ext_getElem? fun m => ?_
  by_cases hm : m = h
  · subst hm
    rw [List.getElem?_set_self (by rw [usesF_len]; exact hh), usesF_at hh, if_pos rfl]
    rfl
  · rw [List.getElem?_set_ne (Ne.symm hm)]
    by_cases hN : m < N
    · rw [usesF_at hN, usesF_at hN, if_neg hm, Nat.add_zero]
    · rw [List.getElem?_eq_none (by rw [usesF_len]; omega), List.getElem?_eq_none (by rw [usesF_len]; omega)]
def cntUp (slots : List (Option Rw)) (i k : Nat) : Nat := ((slots.take i).map (cntO k)).sum
theorem cntUp_succ {slots : List (Option Rw)} {i : Nat} {o : Option Rw} (h : slots[i]? = some o) (k : Nat) : cntUp slots (i + 1) k = cntUp slots i k + cntO k o := by
  unfold cntUp
  rw [List.take_add_one, h, List.map_append, List.sum_append]
  simp
theorem count_succ {row : Rw} {j k : Nat} {o : Option Nat} (h : row[j]? = some o) : (row.take (j + 1)).count (some k) = (row.take j).count (some k) + if o = some k then 1 else 0 := by
  rw [List.take_add_one, h, List.count_append]
  simp [List.count_singleton]
theorem flat_rep (n : Nat) (v : V) : (List.replicate n [v]).flatten = List.replicate n v := by
  induction n with
  | zero => rfl
  | succ n ih => rw [List.replicate_succ, List.flatten_cons, ih, List.replicate_succ]; rfl
def spUses (K : PySem.W.Frag) : Sp := fun vs H Q _ => ∃ (S : Addr) (xs : List V) (slots : List (Option Rw)) (outs : List Int), vs = [.ref S] ∧ SqT K H S xs ∧ xs.length = slots.length ∧
  (∀ (i : Nat) (o : Option Rw), slots[i]? = some o → (o = none ∧ xs[i]? = some V.non) ∨ ∃ r row, o = some row ∧ xs[i]? = some (.ref r) ∧ SqT K H r (rowV row)) ∧ Wf slots outs ∧
  ∀ p H', H p = none → Kx [] H H' → H' p = some (.lst ((useL slots).map V.int)) → Q (.ref p) H'
theorem ok_uses {f : Addr} {fd : FuncData} (F : Fun K "slot_uses" "slot_uses" sSlotUses f fd) (T : Txt mg) : FnOk P w K mg base CX0 1 f fd ["slots"] (spUses K) := by
  refine F.ok scSlotUses (fun vs H Q E h => ?_) (fun cdv A outer s H vs Q E hr h => ?_)
  · obtain ⟨S, xs, slots, outs, rfl, _⟩ := h
    rfl
  · obtain ⟨S, xs, slots, outs, rfl, hS, hl, hv, wf, k⟩ := h
    refine ⟨_, (pss_cons (ps_set (i := 1) scSlotUses.nd rfl (Or.inl rfl) (pe_op op_rep (pe_lst (pa_cons pe_int pa_nil)) (pe_callB call_len_seq (by rfl) T.b_len boot'_len (pa_cons (pv 0) pa_nil))))
      (pss_cons (ps_for PassesOwn.never rfl (pi_tup (pv 0)) (pg_name (i := 2) scSlotUses.nd rfl (Or.inl rfl))
      (pss_one (ps_if (pt_cmpR op_notN1 (pv 2) pe_non (nomark _)) (pss_one (ps_for PassesOwn.never rfl (pi_tup (pv 2)) (pg_name (i := 3) scSlotUses.nd rfl (Or.inl rfl))
      (pss_one (ps_if (pt_cmpR op_notN1 (pv 3) pe_non (nomark _)) (pss_one (ps_augS (pv 1) (pv 3) get_list pe_int ip_add set_list)) pss_nil)))) pss_nil)))
      (pss_one (ps_ret (pv 1))))), ?_⟩
    refine x_start (σ' := [some (.ref S), none, none, none]) rfl ?_
    dsimp only [cxOf]
    have h40 := wf.most
    repeat walk_at "rd"
    rename_i q nq
    refine x_rep (xs := [V.int 0]) (k := (xs.length : Int)) upd_same (by omega) (by omega) (Nat.le_of_lt (small1000 (by simp; omega))) fun U nU => ?_
    rw [flat_rep]
    have nU0 : H U = none := ((Kx.refl [] H).new nq).fresh (by simp) nU
    have k0 := ((Kx.refl [] H).new nq).new (o := .lst (List.replicate (xs.length : Int).toNat (V.int 0))) nU
    have e0 : List.replicate (xs.length : Int).toNat (V.int 0) = (usesF (cntUp slots 0) slots.length).map V.int := by
      rw [Int.toNat_natCast, hl]
      refine List.ext_getElem? fun m => ?_
      rw [List.getElem?_map]
      by_cases hm : m < slots.length
      · rw [usesF_at hm, List.getElem?_replicate, if_pos hm]
        rfl
      · rw [List.getElem?_eq_none (by rw [List.length_replicate]; omega), List.getElem?_eq_none (by rw [usesF_len]; omega)]
        rfl
    repeat walk_at "rd"
    refine y_forT (xs := xs) (k0.sqT (by simp) hS) ⟨fun i σ H1 => ∃ (y2 y3 : Option V), σ = [some (.ref S), some (.ref U), y2, y3] ∧ Kx [] H H1 ∧ H1 U = some (.lst ((usesF (cntUp slots i) slots.length).map V.int)),
      ⟨none, none, rfl, k0, by rw [upd_same, e0]⟩, ?_, ?_, ?_⟩
    · rintro i σ H1 hi ⟨y2, y3, rfl, k1, e1⟩
      exact k1.sqT (by simp) hS
    · rintro i x σ H1 H1' hi ⟨y2, y3, rfl, k1, e1⟩ ⟨rfl, hx⟩
      have hs : i < slots.length := by omega
      have es := List.getElem?_eq_getElem hs
      repeat walk_at "rd"
      rcases hv i _ es with ⟨e, z⟩ | ⟨r, row, e, z, hF⟩
      · cases Option.some.inj (z.symm.trans hx)
        refine iteF ?_
        repeat walk_at "rd"
        refine ⟨_, _, rfl, k1, ?_⟩
        rw [e1]
        congr 3
        exact usesF_ext fun k _ => by rw [cntUp_succ es, e]; rfl
      · cases Option.some.inj (z.symm.trans hx)
        refine iteT ?_
        have hrow : some row ∈ slots := by rw [← e]; exact List.getElem_mem hs
        repeat walk_at "rd"
        refine y_forT (xs := rowV row) (k1.sqT (by simp) hF) ⟨fun j σ H2 => ∃ (y3 : Option V), σ = [some (.ref S), some (.ref U), some (.ref r), y3] ∧ Kx [] H H2 ∧ H2 U = some (.lst ((usesF (fun k => cntUp slots i k + (row.take j).count (some k)) slots.length).map V.int)),
          ⟨_, rfl, k1, by rw [e1]; rfl⟩, ?_, ?_, ?_⟩
        · rintro j σ H2 hj ⟨y3, rfl, k2, e2⟩
          exact (k2.sqT (by simp) hF)
        · rintro j x σ H2 H2' hj ⟨y3, rfl, k2, e2⟩ ⟨rfl, hx2⟩
          have hj2 : j < row.length := by
            unfold rowV at hj
            rwa [List.length_map] at hj
          have er := List.getElem?_eq_getElem hj2
          unfold rowV at hx2
          rw [List.getElem?_map, er] at hx2
          cases Option.some.inj hx2
          repeat walk_at "rd"
          cases ho : row[j] with
          | none =>
            refine iteF ?_
            repeat walk_at "rd"
            refine ⟨_, rfl, k2, ?_⟩
            rw [e2]
            congr 3
            exact usesF_ext fun k _ => by rw [count_succ er, ho]; simp
          | some hd =>
            obtain ⟨r2, e9⟩ := wf.live row hrow hd (by rw [← ho]; exact List.getElem_mem hj2)
            have hh := (List.getElem?_eq_some_iff.mp e9).1
            refine iteT ?_
            have hat : atI ((usesF (fun k => cntUp slots i k + (row.take j).count (some k)) slots.length).map V.int) (hd : Int) = some (.int ((cntUp slots i hd + (row.take j).count (some hd) : Nat) : Int)) := atI_nat (by rw [List.getElem?_map, usesF_at hh]; rfl)
            have hix : ixN ((usesF (fun k => cntUp slots i k + (row.take j).count (some k)) slots.length).map V.int).length (hd : Int) = some hd := ix_nat (by rw [List.length_map, usesF_len]; exact hh)
            show tAugS _ _ _ _ _ _ _ [some (.ref S), some (.ref U), some (.ref r), some (.int (hd : Int))] _
            repeat walk_at "rd"
            refine ⟨_, rfl, k2.wr (.inl nU0), ?_⟩
            rw [upd_same, ← List.map_set, usesF_set hh]
            congr 3
            exact usesF_ext fun k _ => by
              rw [count_succ er, ho]
              by_cases hk : k = hd
              · subst hk
                simp [Nat.add_assoc]
              · rw [if_neg hk, if_neg (fun e => hk (Option.some.inj e).symm), Nat.add_zero, Nat.add_zero]
        · rintro σ H2 ⟨y3, rfl, k2, e2⟩
          refine ⟨_, _, rfl, k2, ?_⟩
          rw [e2]
          congr 3
          refine usesF_ext fun k _ => ?_
          rw [cntUp_succ es, e, show (rowV row).length = row.length by unfold rowV; rw [List.length_map], List.take_length]
          rfl
    · rintro σ H1 ⟨y2, y3, rfl, k1, e1⟩
      repeat walk_at "rd"
      refine k U H1 nU0 k1 ?_
      rw [e1, hl]
      unfold useL usesF
      congr 3
      refine List.map_congr_left fun k _ => ?_
      unfold cntUp useC
      rw [List.take_length]
def spCounts (K : PySem.W.Frag) : Sp := fun vs H Q _ => ∃ (D : Addr) (slots : List (Option Rw)) (outs : List Int), vs = [.ref D] ∧ HeapT K H D slots outs ∧ Wf slots outs ∧
  ∀ p H', H p = none → Kx [] H H' → H' p = some (.tup (countsV slots outs)) → Q (.ref p) H'
theorem ok_counts {f : Addr} {fd : FuncData} (F : Fun K "counts" "counts" sCounts f fd) (T : Txt mg) (l_slot_uses : Lo P w K mg base "slot_uses" 1 ["slots"] (spUses K)) : FnOk P w K mg base CX0 2 f fd ["heap"] (spCounts K) := by
  refine F.ok scCounts (fun vs H Q E h => ?_) (fun cdv A outer s H vs Q E hr h => ?_)
  · obtain ⟨D, slots, outs, rfl, _⟩ := h
    rfl
  · obtain ⟨D, slots, outs, rfl, ⟨S, O, vs, hD, hS, hO, hl, hv⟩, wf, k⟩ := h
    refine ⟨_, (pss_cons (ps_asg (pv 0) (pg_tup rfl (pgs_cons (pg_name (i := 1) scCounts.nd rfl (Or.inl rfl)) (pgs_cons (pg_name (i := 2) scCounts.nd rfl (Or.inr rfl)) pgs_nil))))
      (pss_cons (ps_set (i := 3) scCounts.nd rfl (Or.inr rfl) (pe_lo l_slot_uses (hr.mono (by decide)) (by rfl) (pa_cons (pv 1) pa_nil)))
      (pss_one (ps_ret (pe_callTy call_tuple_of (by rfl) T.b_tuple boot'_tuple (pa_cons (pe_lc (own := [("node", 4), ("row", 5)]) rfl scCounts.nd (pi_enumT (by rfl) T.b_enumerate (pa_cons (pv 1) pa_nil)) (blkOk_by (N := ["heap", "slots", "outside", "uses", "node", "row"]) (sc := defScope sCounts) (by decide +kernel)) (fun _ _ _ _ _ => (pg_tupK (K := K) (n := 2) rfl rfl (pgs_cons (pg_name (i := 4) scCounts.nd rfl (Or.inl rfl)) (pgs_cons (pg_name (i := 5) scCounts.nd rfl (Or.inl rfl)) pgs_nil)))) (fun _ _ _ _ _ => pts_nil) (fun _ _ _ _ _ => (pe_ifExp (pt_cmpR op_isN1 (pv 5) pe_non (nomark _)) pe_non (pe_op op_add (pe_ix (ix_tupK (K := K)) (pv 2) (pv 4) (fun _ _ => rfl)) (pe_ix (ix_listK (K := K)) (pv 3) (pv 4) (fun _ _ => rfl)))))) pa_nil)))))), ?_⟩
    refine x_start (σ' := [some (.ref D), none, none, none, none, none]) rfl ?_
    dsimp only [cxOf]
    have h40 := wf.most
    repeat walk_at "rd"
    refine ⟨S, vs, slots, outs, rfl, hS, hl, hv, wf, fun U H1 nU k1 e1 => ?_⟩
    have hS1 : SqT K H1 S vs := k1.sqT (by simp) hS
    have hO1 : SqT K H1 O (outs.map V.int) := k1.sqT (by simp) hO
    repeat walk_at "rd"
    refine y_lcET (xs := vs) hS1 (fun Z nZ => ⟨fun i H2 => Kx [] H1 H2 ∧ H2 Z = some (.lst ((List.range i).map (countV slots outs))), ⟨(Kx.refl _ _).new nZ, upd_same⟩, ?_, ?_, ?_⟩)
    · rintro i H2 hi ⟨k2, _⟩
      exact k2.sqT (by simp) hS1
    · rintro i x H2 H2' hi ⟨k2, e2⟩ ⟨W, x1, x2, rfl, nW, rfl, f1, f2⟩
      cases f1
      have nWZ : Z ≠ W := ne_of_none e2 nW
      repeat walk_at "rd"
      refine ⟨rfl, ?_⟩
      have hs : i < slots.length := by omega
      have es := List.getElem?_eq_getElem hs
      have e3 : (upd H2 W (.tup [.int (i : Int), x2])) Z = some (.lst ((List.range i).map (countV slots outs))) := lk_ne e2 nW
      have hO2 : SqT K (upd H2 W (.tup [.int (i : Int), x2])) O (outs.map V.int) := (k2.new nW).sqT (by simp) hO1
      have hU2 : SqL K (upd H2 W (.tup [.int (i : Int), x2])) U ((useL slots).map V.int) := SqL.of ((k2.new nW) _ _ (by simp) e1)
      have hout : i < outs.length := by rw [wf.len]; exact hs
      have at1 : atI (outs.map V.int) (i : Int) = some (.int outs[i]) := atI_nat (by rw [List.getElem?_map, List.getElem?_eq_getElem hout]; rfl)
      have at2 : atI ((useL slots).map V.int) (i : Int) = some (.int (useC slots i : Int)) := atI_nat (by
        unfold useL
        rw [List.getElem?_map, List.getElem?_map, List.getElem?_range hs]
        rfl)
      have hnew : (List.range (i + 1)).map (countV slots outs) = (List.range i).map (countV slots outs) ++ [countV slots outs i] := by rw [List.range_succ, List.map_append]; rfl
      repeat walk_at "rd"
      rcases hv i _ es with ⟨e, z⟩ | ⟨r, row, e, z, _⟩
      · cases Option.some.inj (z.symm.trans f2)
        refine iteT ?_
        repeat walk_at "rd"
        refine ⟨_, e3, small1000 (by rw [List.length_map, List.length_range]; omega), (k2.new nW).wr (.inl nZ), ?_⟩
        rw [upd_same, hnew, show countV slots outs i = V.non by simp [countV, isLive, es, e]]
      · cases Option.some.inj (z.symm.trans f2)
        refine iteF ?_
        repeat walk_at "rd"
        refine ⟨_, e3, small1000 (by rw [List.length_map, List.length_range]; omega), (k2.new nW).wr (.inl nZ), ?_⟩
        rw [upd_same, hnew, show countV slots outs i = V.int (outs[i] + (useC slots i : Int)) by simp [countV, isLive, es, e, List.getElem?_eq_getElem hout]]
    · rintro H2 ⟨k2, e2⟩
      rw [hl] at e2
      repeat walk_at "rd"
      intro l nl
      repeat walk_at "rd"
      exact k l _ ((k1.trans k2).fresh (by simp) nl) ((k1.trans k2).new nl) upd_same

def spIsInt : Sp := fun vs H Q _ => ∃ i : Int, vs = [.int i] ∧ Q (.bl true) H
theorem ok_isInt {f : Addr} {fd : FuncData} (F : Fun K "is_integer" "is_integer" sIsInteger f fd) (T : Txt mg) : FnOk P w K mg base CX0 1 f fd ["value"] spIsInt := by
  refine F.ok scIsInteger (fun vs H Q E h => ?_) (fun cdv A outer s H vs Q E hr h => ?_)
  · obtain ⟨i, rfl, _⟩ := h
    rfl
  · obtain ⟨i, rfl, k⟩ := h
    refine ⟨_, (pss_one (ps_ret (pe_and (pe_callB call_isi (by rfl) T.b_isinstance boot'_isinstance (pa_cons (pv 0) (pa_cons (pe_bltn (v := .ty "int") (by rfl) T.b_int boot'_int rfl) pa_nil))) (pe_one (pe_not (pe_callB call_isi (by rfl) T.b_isinstance boot'_isinstance (pa_cons (pv 0) (pa_cons (pe_bltn (v := .ty "bool") (by rfl) T.b_bool boot'_bool rfl) pa_nil)))))))), ?_⟩
    refine x_start (σ' := [some (.int i)]) rfl ?_
    try dsimp only [cxOf]
    repeat walk_at "rd"
    exact k
def spBetween : Sp := fun vs H Q _ => ∃ i a b : Int, vs = [.int i, .int a, .int b] ∧ a ≤ i ∧ i ≤ b ∧ Q (.bl true) H
theorem ok_between {f : Addr} {fd : FuncData} (F : Fun K "is_between" "is_between" sIsBetween f fd) (T : Txt mg) (l_is_integer : Lo P w K mg base "is_integer" 1 ["value"] spIsInt) : FnOk P w K mg base CX0 2 f fd ["value", "low", "high"] spBetween := by
  refine F.ok scIsBetween (fun vs H Q E h => ?_) (fun cdv A outer s H vs Q E hr h => ?_)
  · obtain ⟨i, a, b, rfl, _⟩ := h
    rfl
  · obtain ⟨i, a, b, rfl, h1, h2, k⟩ := h
    refine ⟨_, (pss_one (ps_ret (pe_and (pe_lo l_is_integer (hr.mono (by decide)) (by rfl) (pa_cons (pv 0) pa_nil)) (pe_one (pe_chain op_le op_le (pv 1) (pv 0) (pv 2)))))), ?_⟩
    refine x_start (σ' := [some (.int i), some (.int a), some (.int b)]) rfl ?_
    try dsimp only [cxOf]
    repeat walk_at "rd"
    refine ⟨i, rfl, ?_⟩
    repeat walk_at "rd"
    refine iteP (decide_eq_true h1) ?_
    repeat walk_at "rd"
    rw [decide_eq_true h2]
    exact k
def spIsLive (K : PySem.W.Frag) : Sp := fun vs H Q _ => ∃ (D : Addr) (slots : List (Option Rw)) (outs : List Int) (n : Nat), vs = [.ref D, .int n] ∧ HeapT K H D slots outs ∧ isLive slots n = true ∧ slots.length ≤ 40 ∧ Q (.bl true) H
theorem ok_isLive {f : Addr} {fd : FuncData} (F : Fun K "is_live" "is_live" sIsLive f fd) (T : Txt mg) (l_is_between : Lo P w K mg base "is_between" 2 ["value", "low", "high"] spBetween) : FnOk P w K mg base CX0 3 f fd ["heap", "value"] (spIsLive K) := by
  refine F.ok scIsLive (fun vs H Q E h => ?_) (fun cdv A outer s H vs Q E hr h => ?_)
  · obtain ⟨D, slots, outs, n, rfl, _⟩ := h
    rfl
  · obtain ⟨D, slots, outs, n, rfl, hT, hl, h40, k⟩ := h
    obtain ⟨S, O, vs, hD, hS, hO, hvl, hv⟩ := hT.ex
    obtain ⟨row, er, hlt⟩ := live_lt hl
    refine ⟨_, (pss_cons (ps_set (i := 2) scIsLive.nd rfl (Or.inl rfl) (pe_ix ix_tup (pv 0) pe_int (fun _ _ => rfl)))
      (pss_one (ps_ret (pe_and (pe_lo l_is_between (hr.mono (by decide)) (by rfl) (pa_cons (pv 1) (pa_cons pe_int (pa_cons (pe_op op_sub (pe_callB call_len_seq (by rfl) T.b_len boot'_len (pa_cons (pv 2) pa_nil)) pe_int) pa_nil)))) (pe_one (pe_cmpR op_notN1 (pe_ix ix_tup (pv 2) (pv 1) (fun _ _ => rfl)) pe_non (nomark _))))))), ?_⟩
    refine x_start (σ' := [some (.ref D), some (.int n), none]) rfl ?_
    try dsimp only [cxOf]
    rcases hv n _ er with ⟨e', _⟩ | ⟨r, _, _, z, _⟩
    · cases e'
    have at2 : atI vs (n : Int) = some (.ref r) := atI_nat z
    repeat walk_at "rd"
    refine ⟨n, 0, _, rfl, by omega, by omega, ?_⟩
    repeat walk_at "rd"
    exact k
def spNeedLive (K : PySem.W.Frag) : Sp := fun vs H Q _ => ∃ (D : Addr) (slots : List (Option Rw)) (outs : List Int) (n : Nat), vs = [.ref D, .int n] ∧ HeapT K H D slots outs ∧ isLive slots n = true ∧ slots.length ≤ 40 ∧ Q .non H
theorem ok_needLive {f : Addr} {fd : FuncData} (F : Fun K "need_live" "need_live" sNeedLive f fd) (T : Txt mg) (l_is_live : Lo P w K mg base "is_live" 3 ["heap", "value"] (spIsLive K)) : FnOk P w K mg base CX0 4 f fd ["heap", "node"] (spNeedLive K) := by
  refine F.ok scNeedLive (fun vs H Q E h => ?_) (fun cdv A outer s H vs Q E hr h => ?_)
  · obtain ⟨D, slots, outs, n, rfl, _⟩ := h
    rfl
  · obtain ⟨D, slots, outs, n, rfl, hT, hl, h40, k⟩ := h
    refine ⟨_, (pss_one (ps_if (pt_not (pt_val (pe_lo l_is_live (hr.mono (by decide)) (by rfl) (pa_cons (pv 0) (pa_cons (pv 1) pa_nil))))) (pss_one ps_never) pss_nil)), ?_⟩
    refine x_start (σ' := [some (.ref D), some (.int n)]) rfl ?_
    try dsimp only [cxOf]
    repeat walk_at "rd"
    refine ⟨D, slots, outs, n, rfl, hT, hl, h40, ?_⟩
    repeat walk_at "rd"
    refine iteF ?_
    repeat walk_at "rd"
    exact k
def spNeedRef (K : PySem.W.Frag) : Sp := fun vs H Q _ => ∃ (D : Addr) (slots : List (Option Rw)) (outs : List Int) (n : Nat) (z : Int), vs = [.ref D, .int n] ∧ HeapT K H D slots outs ∧ isLive slots n = true ∧ slots.length ≤ 40 ∧ outs[n]? = some z ∧ 1 ≤ z ∧ Q .non H
theorem ok_needRef {f : Addr} {fd : FuncData} (F : Fun K "need_reference" "need_reference" sNeedReference f fd) (T : Txt mg) (l_need_live : Lo P w K mg base "need_live" 4 ["heap", "node"] (spNeedLive K)) : FnOk P w K mg base CX0 5 f fd ["heap", "node"] (spNeedRef K) := by
  refine F.ok scNeedReference (fun vs H Q E h => ?_) (fun cdv A outer s H vs Q E hr h => ?_)
  · obtain ⟨D, slots, outs, n, z, rfl, _⟩ := h
    rfl
  · obtain ⟨D, slots, outs, n, z, rfl, hT, hl, h40, hz, h1, k⟩ := h
    obtain ⟨S, O, vs, hD, hS, hO, hvl, hv⟩ := id hT.ex
    refine ⟨_, (pss_cons (ps_expr (pe_lo l_need_live (hr.mono (by decide)) (by rfl) (pa_cons (pv 0) (pa_cons (pv 1) pa_nil))))
      (pss_one (ps_if (pt_cmpR op_eq (pe_ix ix_tup (pe_ix ix_tup (pv 0) pe_int (fun _ _ => rfl)) (pv 1) (fun _ _ => rfl)) pe_int (nomark _)) (pss_one ps_never) pss_nil))), ?_⟩
    refine x_start (σ' := [some (.ref D), some (.int n)]) rfl ?_
    try dsimp only [cxOf]
    have at1 : atI (outs.map V.int) (n : Int) = some (.int z) := atI_nat (by rw [List.getElem?_map, hz]; rfl)
    repeat walk_at "rd"
    refine ⟨D, slots, outs, n, rfl, hT, hl, h40, ?_⟩
    repeat walk_at "rd"
    refine iteN (decide_eq_false (fun e => by have := V.int.inj e; omega)) ?_
    repeat walk_at "rd"
    exact k
end


theorem pf1 {v : V} : putF ("slots" : Str) v [] = [(("slots" : Str), v)] := rfl
theorem pf2 {a v : V} : putF ("outside" : Str) v [(("slots" : Str), a)] = [(("slots" : Str), a), (("outside" : Str), v)] := by with_unfolding_all rfl
theorem pf3 {a b v : V} : putF ("references" : Str) v [(("slots" : Str), a), (("outside" : Str), b)] = [(("slots" : Str), a), (("outside" : Str), b), (("references" : Str), v)] := by with_unfolding_all rfl
theorem pf4 {a b c v : V} : putF ("limit" : Str) v [(("slots" : Str), a), (("outside" : Str), b), (("references" : Str), c)] = [(("slots" : Str), a), (("outside" : Str), b), (("references" : Str), c), (("limit" : Str), v)] := by with_unfolding_all rfl
theorem pf5 {a b c d v : V} : putF ("emptied" : Str) v [(("slots" : Str), a), (("outside" : Str), b), (("references" : Str), c), (("limit" : Str), d)] = [(("slots" : Str), a), (("outside" : Str), b), (("references" : Str), c), (("limit" : Str), d), (("emptied" : Str), v)] := by with_unfolding_all rfl
theorem pf6 {a b c d e v : V} : putF ("shelf" : Str) v [(("slots" : Str), a), (("outside" : Str), b), (("references" : Str), c), (("limit" : Str), d), (("emptied" : Str), e)] = [(("slots" : Str), a), (("outside" : Str), b), (("references" : Str), c), (("limit" : Str), d), (("emptied" : Str), e), (("shelf" : Str), v)] := by with_unfolding_all rfl
theorem pf7 {a b c d e f v : V} : putF ("events" : Str) v [(("slots" : Str), a), (("outside" : Str), b), (("references" : Str), c), (("limit" : Str), d), (("emptied" : Str), e), (("shelf" : Str), f)] = [(("slots" : Str), a), (("outside" : Str), b), (("references" : Str), c), (("limit" : Str), d), (("emptied" : Str), e), (("shelf" : Str), f), (("events" : Str), v)] := by with_unfolding_all rfl
theorem x_insS {K : PySem.W.Frag} {H : Hp} {C a dx : Addr} {fs : List (Str × V)} {f : Str} {R : Addr → Addr → Addr → List (Str × V) → Prop} (h : H a = some (.ins C dx fs)) (c : Cls K C) (n : NoAttr K C f) (l : fs.length < 1000) (q : R a C dx fs) :
    ∃ a' C' dx' fs', V.ref a = .ref a' ∧ H a' = some (.ins C' dx' fs') ∧ Cls K C' ∧ NoAttr K C' f ∧ List.length fs' < 1000 ∧ R a' C' dx' fs' := ⟨a, C, dx, fs, rfl, h, c, n, l, q⟩
local macro_rules | `(tactic| walk_at "rd") => `(tactic| with_reducible refine' x_sfld ?_) --keep
section
variable {P : Program} {w : World} {K : PySem.W.Frag} {mg : Str → Option Value} {base : Heap}

def spMInit (K : PySem.W.Frag) (C : Addr) : Sp := fun vs H Q _ => ∃ (p dx D : Addr) (slots : List (Option Rw)) (outs : List Int) (lim : Int), vs = [.ref p, .ref D, .int lim] ∧ H p = some (.ins C dx []) ∧ HeapT K H D slots outs ∧ Wf slots outs ∧ ClR K C ∧
  ∀ H' aS aO aR aE aH aV ra, MS slots C H' p dx aS aO aR aE aH aV ra lim → MD slots H' H' aS aO aR aE aH aV ra outs (tal slots outs [] []) [] [] [] [] → Kx [p] H H' → (∀ b ∈ [aS, aO, aR, aE, aH, aV], H b = none) → (∀ (i : Nat) (r : Rw), slots[i]? = some (some r) → H (ra i) = none) → Q .non H'
theorem cntH_use (slots : List (Option Rw)) (m : Nat) : cntH slots [] m = useC slots m := by
  unfold cntH useC
  congr 1
  refine List.ext_getElem? fun i => ?_
  rw [List.getElem?_map, List.getElem?_map]
  by_cases hi : i < slots.length
  · rw [List.getElem?_range hi, List.getElem?_eq_getElem hi]
    simp only [Option.map_some, List.not_mem_nil, if_false]
    unfold rowOf
    rw [List.getElem?_eq_getElem hi]
    cases slots[i] <;> rfl
  · rw [List.getElem?_eq_none (by rw [List.length_range]; omega), List.getElem?_eq_none (by omega)]
    rfl
theorem counts_ref {slots : List (Option Rw)} {outs : List Int} : countsV slots outs = (List.range slots.length).map (refR slots (tal slots outs [] [])) := by
  unfold countsV
  refine List.map_congr_left fun m _ => ?_
  unfold countV refR tal
  rw [cntH_use, show pendC [] m = 0 from rfl]
  simp
theorem sqT_ins {S : List Addr} {H H' : Hp} {a p C dx : Addr} {fs : List (Str × V)} {xs : List V} (h : SqT K H a xs) (hp : H p = some (.ins C dx fs)) (k : Kx [p] H H') : SqT K H' a xs := by
  rcases h with h | h
  · refine .inl ?_
    rcases h with h | ⟨o, h⟩
    · exact .inl (k _ _ (fun z => by rw [List.mem_singleton.mp z, hp] at h; cases h) h)
    · exact .inr ⟨o, k _ _ (fun z => by rw [List.mem_singleton.mp z, hp] at h; cases h) h⟩
  · exact .inr h
theorem HeapT.kp {H H' : Hp} {D p C dx : Addr} {fs : List (Str × V)} {slots : List (Option Rw)} {outs : List Int} (h : HeapT K H D slots outs) (hp : H p = some (.ins C dx fs)) (k : Kx [p] H H') : HeapT K H' D slots outs := by
  obtain ⟨S, O, vs, h1, h2, h3, h4, h5⟩ := h.ex
  refine ⟨S, O, vs, sqT_ins (S := []) h1 hp k, sqT_ins (S := []) h2 hp k, sqT_ins (S := []) h3 hp k, h4, fun i o ho => ?_⟩
  rcases h5 i o ho with z | ⟨r, row, e1, e2, e3⟩
  · exact .inl z
  · exact .inr ⟨r, row, e1, e2, sqT_ins (S := []) e3 hp k⟩
def RaI (slots : List (Option Rw)) (as : List Addr) (i : Nat) : Prop := ∀ (j j' : Nat) (r r' : Rw), j < i → j' < i → slots[j]? = some (some r) → slots[j']? = some (some r') → as.getD j 0 = as.getD j' 0 → j = j'
theorem RaI.grow {slots : List (Option Rw)} {as : List Addr} {i : Nat} (h : RaI slots as i) (ha : as.length = i) {a : Addr} (hn : slots[i]? = some none ∨ ∀ (j : Nat) (r : Rw), j < i → slots[j]? = some (some r) → as.getD j 0 ≠ a) : RaI slots (as ++ [a]) (i + 1) := by
  have gold : ∀ j : Nat, j < i → (as ++ [a]).getD j 0 = as.getD j 0 := by
    intro j hj
    simp only [List.getD_eq_getElem?_getD]
    rw [List.getElem?_append_left (by omega)]
  have gnew : (as ++ [a]).getD i 0 = a := by
    simp only [List.getD_eq_getElem?_getD]
    rw [List.getElem?_append_right (by omega), ha, Nat.sub_self]
    rfl
  intro j j' r r' hj hj' hr hr' he
  rcases hn with hn | hn
  · have h1 : j ≠ i := fun z => by rw [z, hn] at hr; cases hr
    have h2 : j' ≠ i := fun z => by rw [z, hn] at hr'; cases hr'
    rw [gold j (by omega), gold j' (by omega)] at he
    exact h j j' r r' (by omega) (by omega) hr hr' he
  · by_cases h1 : j = i
    · by_cases h2 : j' = i
      · omega
      · subst h1
        rw [gnew, gold j' (by omega)] at he
        exact absurd he.symm (hn j' r' (by omega) hr')
    · by_cases h2 : j' = i
      · subst h2
        rw [gnew, gold j (by omega)] at he
        exact absurd he (hn j r (by omega) hr)
      · rw [gold j (by omega), gold j' (by omega)] at he
        exact h j j' r r' (by omega) (by omega) hr hr' he
def RaF (H : Hp) (slots : List (Option Rw)) (as : List Addr) (i : Nat) : Prop := ∀ (j : Nat) (r : Rw), j < i → slots[j]? = some (some r) → H (as.getD j 0) = none
theorem RaF.grow {H : Hp} {slots : List (Option Rw)} {as : List Addr} {i : Nat} (h : RaF H slots as i) (ha : as.length = i) {a : Addr} (hn : slots[i]? = some none ∨ H a = none) : RaF H slots (as ++ [a]) (i + 1) := by
  intro j r hj hr
  by_cases h1 : j = i
  · subst h1
    rcases hn with hn | hn
    · rw [hn] at hr
      cases hr
    · simp only [List.getD_eq_getElem?_getD]
      rw [List.getElem?_append_right (by omega), ha, Nat.sub_self]
      exact hn
  · simp only [List.getD_eq_getElem?_getD]
    rw [List.getElem?_append_left (by omega), ← List.getD_eq_getElem?_getD]
    exact h j r (by omega) hr
theorem ok_minit {C : Addr} {f : Addr} {fd : FuncData} (F : Fun K "__init__" "Releasing.__init__" sReleasingInit f fd) (T : Txt mg) (l_counts : Lo P w K mg base "counts" 2 ["heap"] (spCounts K)) : FnOk P w K mg base CX0 3 f fd ["self", "heap", "limit"] (spMInit K C) := by
  refine F.ok scReleasingInit (fun vs H Q E h => ?_) (fun cdv A outer s H vs Q E hr h => ?_)
  · obtain ⟨p, dx, D, slots, outs, lim, rfl, _⟩ := h
    rfl
  · obtain ⟨p, dx, D, slots, outs, lim, rfl, hins, hT, wf, hC, k⟩ := h
    obtain ⟨S, O, vs, hD, hS, hO, hl, hv⟩ := id hT.ex
    refine ⟨_, (pss_cons (ps_fld (pv 0) (pe_lc (own := [("row", 3)]) rfl scReleasingInit.nd (pi_tup (pe_ix ix_tup (pv 1) pe_int (fun _ _ => rfl))) (blkOk_by (N := ["self", "heap", "limit", "row"]) (sc := defScope sReleasingInit) (by decide +kernel)) (fun _ _ _ _ _ => (pg_name (i := 3) scReleasingInit.nd rfl (Or.inl rfl))) (fun _ _ _ _ _ => pts_nil) (fun _ _ _ _ _ => (pe_ifExp (pt_cmpR op_isN1 (pv 3) pe_non (nomark _)) pe_non (pe_callTy (call_list_ofK (K := K)) (by rfl) T.b_list boot'_list (pa_cons (pv 3) pa_nil))))) rfl)
      (pss_cons (ps_fld (pv 0) (pe_callTy call_list_of (by rfl) T.b_list boot'_list (pa_cons (pe_ix ix_tup (pv 1) pe_int (fun _ _ => rfl)) pa_nil)) rfl)
      (pss_cons (ps_fld (pv 0) (pe_callTy call_list_of (by rfl) T.b_list boot'_list (pa_cons (pe_lo l_counts (hr.mono (by decide)) (by rfl) (pa_cons (pv 1) pa_nil)) pa_nil)) rfl)
      (pss_cons (ps_fld (pv 0) (pv 2) rfl)
      (pss_cons (ps_fld (pv 0) (pe_lst pa_nil) rfl)
      (pss_cons (ps_fld (pv 0) (pe_lst pa_nil) rfl)
      (pss_one (ps_fld (pv 0) (pe_lst pa_nil) rfl)))))))), ?_⟩
    refine x_start (σ' := [some (.ref p), some (.ref D), some (.int lim), none]) rfl ?_
    dsimp only [cxOf]
    have h40 := wf.most
    repeat walk_at "rd"
    refine y_lcT (xs := vs) hS (fun Z nZ => ⟨fun i H1 => Kx [] H H1 ∧ ∃ as : List Addr, as.length = i ∧ H1 Z = some (.lst ((List.range i).map (slotR slots (fun j => as.getD j 0) []))) ∧
      (∀ (j : Nat) (row : Rw), j < i → slots[j]? = some (some row) → H1 (as.getD j 0) = some (.lst (rowV row)) ∧ as.getD j 0 ≠ Z) ∧ RaI slots as i ∧ RaF H slots as i, ⟨(Kx.refl _ _).new nZ, [], rfl, upd_same, fun j row hj => absurd hj (Nat.not_lt_zero _), fun j _ _ _ hj => absurd hj (Nat.not_lt_zero _), fun j _ hj => absurd hj (Nat.not_lt_zero _)⟩, ?_, ?_, ?_⟩)
    · rintro i H1 hi ⟨k1, _⟩
      exact k1.sqT (by simp) hS
    · rintro i x H1 H1' hi ⟨k1, as, ha, e1, hr1, hin, hfr⟩ ⟨rfl, hx⟩
      have hs : i < slots.length := by omega
      have es := List.getElem?_eq_getElem hs
      have grow : ∀ a : Addr, (List.range (i + 1)).map (slotR slots (fun j => (as ++ [a]).getD j 0) []) = (List.range i).map (slotR slots (fun j => as.getD j 0) []) ++ [slotR slots (fun _ => a) [] i] := by
        intro a
        rw [List.range_succ, List.map_append]
        congr 1
        · refine List.map_congr_left fun j hj => ?_
          have := List.mem_range.mp hj
          unfold slotR
          simp only [List.getD_eq_getElem?_getD]
          rw [List.getElem?_append_left (by omega)]
        · simp only [List.map_cons, List.map_nil]
          unfold slotR
          simp only [List.getD_eq_getElem?_getD]
          rw [List.getElem?_append_right (by omega), ha, Nat.sub_self]
          rfl
      have gold : ∀ (a : Addr) (j : Nat), j < i → (as ++ [a]).getD j 0 = as.getD j 0 := by
        intro a j hj
        simp only [List.getD_eq_getElem?_getD]
        rw [List.getElem?_append_left (by omega)]
      have gnew : ∀ a : Addr, (as ++ [a]).getD i 0 = a := by
        intro a
        simp only [List.getD_eq_getElem?_getD]
        rw [List.getElem?_append_right (by omega), ha, Nat.sub_self]
        rfl
      repeat walk_at "rd"
      refine ⟨rfl, ?_⟩
      repeat walk_at "rd"
      rcases hv i _ es with ⟨e, z⟩ | ⟨r, row, e, z, hR⟩
      · cases Option.some.inj (z.symm.trans hx)
        refine iteT ?_
        repeat walk_at "rd"
        refine ⟨_, e1, small1000 (by rw [List.length_map, List.length_range]; omega), k1.wr (.inl nZ), as ++ [0], by rw [List.length_append, ha]; rfl, ?_, ?_, hin.grow ha (.inl (by rw [es, e])), hfr.grow ha (.inl (by rw [es, e]))⟩
        · rw [upd_same, grow, show slotR slots (fun _ => 0) [] i = V.non by unfold slotR; rw [if_neg]; simp [isLive, es, e]]
        · intro j row hj hjr
          by_cases hji : j = i
          · subst hji
            rw [es, e] at hjr
            cases hjr
          · rw [gold _ _ (by omega)]
            obtain ⟨h1, h2⟩ := hr1 j row (by omega) hjr
            exact ⟨lk_ne2 h2 h1, h2⟩
      · cases Option.some.inj (z.symm.trans hx)
        have hR1 := k1.sqT (by simp) hR
        refine iteF ?_
        repeat walk_at "rd"
        intro a na
        have naZ : a ≠ Z := (ne_of_none e1 na).symm
        refine ⟨_, lk_ne e1 na, small1000 (by rw [List.length_map, List.length_range]; omega), (k1.new na).wr (.inl nZ), as ++ [a], by rw [List.length_append, ha]; rfl, ?_, ?_, hin.grow ha (.inr fun j r hj hjr => ne_of_none (hr1 j r hj hjr).1 na), hfr.grow ha (.inr (k1.fresh (by simp) na))⟩
        · rw [upd_same, grow, show slotR slots (fun _ => a) [] i = V.ref a by unfold slotR; rw [if_pos]; simp [isLive, es, e]]
        · intro j row' hj hjr
          by_cases hji : j = i
          · subst hji
            rw [es, e] at hjr
            cases Option.some.inj (Option.some.inj hjr)
            rw [gnew]
            exact ⟨lk_ne2 naZ upd_same, naZ⟩
          · rw [gold _ _ (by omega)]
            obtain ⟨h1, h2⟩ := hr1 j row' (by omega) hjr
            exact ⟨lk_ne2 h2 (lk_ne h1 na), h2⟩
    rintro H1 ⟨k1, as, ha, eS, hrows, hin, hfr⟩
    rw [hl] at eS
    have hp1 := k1 p _ (by simp) hins
    repeat walk_at "rd"
    refine x_insS hp1 hC.cl hC.n_slots (by simp) ?_
    rw [pf1]
    have nZp : Z ≠ p := fun z => by rw [z, hins] at nZ; cases nZ
    have k2 : Kx [p] H (upd H1 p (.ins C dx [("slots", .ref Z)])) := (k1.mono (by simp)).wr (.inr (by simp))
    have hp2 : (upd H1 p (.ins C dx [("slots", .ref Z)])) p = some (.ins C dx [("slots", .ref Z)]) := upd_same
    have eS2 := lk_ne2 (p := p) (o := .ins C dx [("slots", .ref Z)]) nZp eS
    have rows2 : ∀ (j : Nat) (row : Rw), j < vs.length → slots[j]? = some (some row) → (upd H1 p (.ins C dx [("slots", .ref Z)])) (as.getD j 0) = some (.lst (rowV row)) ∧ as.getD j 0 ≠ Z := fun j row hj hjr => by
      obtain ⟨h1, h2⟩ := hrows j row hj hjr
      exact ⟨lk_ne2 (fun z => by rw [z, hp1] at h1; cases h1) h1, h2⟩
    generalize upd H1 p (.ins C dx [("slots", .ref Z)]) = H2 at *
    clear hrows eS hp1 k1
    have hT2 := hT.kp hins k2
    obtain ⟨S2, O2, vs2, hD2, _, hO2, _⟩ := id hT2.ex
    repeat walk_at "rd"
    intro aO nO
    repeat walk_at "rd"
    refine x_insS (lk_ne hp2 nO) hC.cl hC.n_outside (by simp) ?_
    rw [pf2]
    have npO : p ≠ aO := ne_of_none hp2 nO
    have nSO : Z ≠ aO := ne_of_none eS2 nO
    have k3 := (k2.new (o := .lst (outs.map V.int)) nO).wr (p := p) (o := .ins C dx [("slots", .ref Z), ("outside", .ref aO)]) (.inr (by simp))
    have hp3 : (upd (upd H2 aO (.lst (outs.map V.int))) p (.ins C dx [("slots", .ref Z), ("outside", .ref aO)])) p = some (.ins C dx [("slots", .ref Z), ("outside", .ref aO)]) := upd_same
    have eS3 := lk_ne2 (p := p) (o := .ins C dx [("slots", .ref Z), ("outside", .ref aO)]) nZp (lk_ne (o := .lst (outs.map V.int)) eS2 nO)
    have eO3 := lk_ne2 (p := p) (o := .ins C dx [("slots", .ref Z), ("outside", .ref aO)]) npO.symm (upd_same (H := H2) (a := aO) (o := .lst (outs.map V.int)))
    have rows3 : ∀ (j : Nat) (row : Rw), j < vs.length → slots[j]? = some (some row) → (upd (upd H2 aO (.lst (outs.map V.int))) p (.ins C dx [("slots", .ref Z), ("outside", .ref aO)])) (as.getD j 0) = some (.lst (rowV row)) ∧ as.getD j 0 ≠ Z ∧ as.getD j 0 ≠ aO := fun j row hj hjr => by
      obtain ⟨h1, h2⟩ := rows2 j row hj hjr
      exact ⟨lk_ne2 (fun z => by rw [z, hp2] at h1; cases h1) (lk_ne h1 nO), h2, ne_of_none h1 nO⟩
    have nO0 : H aO = none := by
      have := k2.fresh (by simpa using npO.symm) nO
      exact this
    generalize (upd (upd H2 aO (.lst (outs.map V.int))) p (.ins C dx [("slots", .ref Z), ("outside", .ref aO)])) = H3 at *
    clear rows2 eS2 hp2 k2 hT2 hD2 hO2
    have hT3 := hT.kp hins k3
    repeat walk_at "rd"
    refine ⟨D, slots, outs, rfl, hT3, wf, fun cp H4 ncp k4 eC => ?_⟩
    have hp4 := k4 p _ (by simp) hp3
    have eS4 := k4 Z _ (by simp) eS3
    have eO4 := k4 aO _ (by simp) eO3
    have k04 := k3.trans (k4.mono (by simp))
    rw [counts_ref] at eC
    repeat walk_at "rd"
    intro aR nR
    repeat walk_at "rd"
    refine x_insS (lk_ne hp4 nR) hC.cl hC.n_references (by simp) ?_
    rw [pf3]
    have npR : p ≠ aR := ne_of_none hp4 nR
    have nSR : Z ≠ aR := ne_of_none eS4 nR
    have nOR : aO ≠ aR := ne_of_none eO4 nR
    have nR0 : H aR = none := k04.fresh (by simpa using npR.symm) nR
    generalize hfR : (List.range slots.length).map (refR slots (tal slots outs [] [])) = refs at *
    have k5 := (k04.new (o := .lst refs) nR).wr (p := p) (o := .ins C dx [("slots", .ref Z), ("outside", .ref aO), ("references", .ref aR)]) (.inr (by simp))
    have hp5 : (upd (upd H4 aR (.lst refs)) p (.ins C dx [("slots", .ref Z), ("outside", .ref aO), ("references", .ref aR)])) p = some (.ins C dx [("slots", .ref Z), ("outside", .ref aO), ("references", .ref aR)]) := upd_same
    have eS5 := lk_ne2 (p := p) (o := .ins C dx [("slots", .ref Z), ("outside", .ref aO), ("references", .ref aR)]) nZp (lk_ne (o := .lst refs) eS4 nR)
    have eO5 := lk_ne2 (p := p) (o := .ins C dx [("slots", .ref Z), ("outside", .ref aO), ("references", .ref aR)]) npO.symm (lk_ne (o := .lst refs) eO4 nR)
    have eR5 := lk_ne2 (p := p) (o := .ins C dx [("slots", .ref Z), ("outside", .ref aO), ("references", .ref aR)]) npR.symm (upd_same (H := H4) (a := aR) (o := .lst refs))
    have rows5 : ∀ (j : Nat) (row : Rw), j < vs.length → slots[j]? = some (some row) → (upd (upd H4 aR (.lst refs)) p (.ins C dx [("slots", .ref Z), ("outside", .ref aO), ("references", .ref aR)])) (as.getD j 0) = some (.lst (rowV row)) ∧ as.getD j 0 ≠ Z ∧ as.getD j 0 ≠ aO ∧ as.getD j 0 ≠ aR := fun j row hj hjr => by
      obtain ⟨h1, h2, h3⟩ := rows3 j row hj hjr
      have h4 := k4 _ _ (by simp) h1
      exact ⟨lk_ne2 (fun z => by rw [z, hp4] at h4; cases h4) (lk_ne h4 nR), h2, h3, ne_of_none h4 nR⟩
    generalize (upd (upd H4 aR (.lst refs)) p (.ins C dx [("slots", .ref Z), ("outside", .ref aO), ("references", .ref aR)])) = H5 at *
    clear rows3 eS4 eO4 hp4 k04 eS3 eO3 hp3 k3 k4 eC hT3
    repeat walk_at "rd"
    refine x_insS hp5 hC.cl hC.n_limit (by simp) ?_
    rw [pf4]
    have k6 := k5.wr (p := p) (o := .ins C dx [("slots", .ref Z), ("outside", .ref aO), ("references", .ref aR), ("limit", .int lim)]) (.inr (by simp))
    have hp6 : (upd H5 p (.ins C dx [("slots", .ref Z), ("outside", .ref aO), ("references", .ref aR), ("limit", .int lim)])) p = some _ := upd_same
    have eS6 := lk_ne2 (p := p) (o := .ins C dx [("slots", .ref Z), ("outside", .ref aO), ("references", .ref aR), ("limit", .int lim)]) nZp eS5
    have eO6 := lk_ne2 (p := p) (o := .ins C dx [("slots", .ref Z), ("outside", .ref aO), ("references", .ref aR), ("limit", .int lim)]) npO.symm eO5
    have eR6 := lk_ne2 (p := p) (o := .ins C dx [("slots", .ref Z), ("outside", .ref aO), ("references", .ref aR), ("limit", .int lim)]) npR.symm eR5
    have rows6 : ∀ (j : Nat) (row : Rw), j < vs.length → slots[j]? = some (some row) → (upd H5 p (.ins C dx [("slots", .ref Z), ("outside", .ref aO), ("references", .ref aR), ("limit", .int lim)])) (as.getD j 0) = some (.lst (rowV row)) := fun j row hj hjr => by
      have h1 := (rows5 j row hj hjr).1
      exact lk_ne2 (fun z => by rw [z, hp5] at h1; cases h1) h1
    generalize (upd H5 p (.ins C dx [("slots", .ref Z), ("outside", .ref aO), ("references", .ref aR), ("limit", .int lim)])) = H6 at *
    repeat walk_at "rd"
    rename_i aE nE
    refine x_insS (lk_ne hp6 nE) hC.cl hC.n_emptied (by simp) ?_
    rw [pf5]
    have npE : p ≠ aE := ne_of_none hp6 nE
    have nE0 : H aE = none := k6.fresh (by simpa using npE.symm) nE
    have nSE : Z ≠ aE := ne_of_none eS6 nE
    have nOE : aO ≠ aE := ne_of_none eO6 nE
    have nRE : aR ≠ aE := ne_of_none eR6 nE
    have k7 := (k6.new (o := .lst []) nE).wr (p := p) (o := .ins C dx [("slots", .ref Z), ("outside", .ref aO), ("references", .ref aR), ("limit", .int lim), ("emptied", .ref aE)]) (.inr (by simp))
    have hp7 : (upd (upd H6 aE (.lst [])) p (.ins C dx [("slots", .ref Z), ("outside", .ref aO), ("references", .ref aR), ("limit", .int lim), ("emptied", .ref aE)])) p = some _ := upd_same
    have eS7 := lk_ne2 (p := p) (o := .ins C dx [("slots", .ref Z), ("outside", .ref aO), ("references", .ref aR), ("limit", .int lim), ("emptied", .ref aE)]) nZp (lk_ne (o := .lst []) eS6 nE)
    have eO7 := lk_ne2 (p := p) (o := .ins C dx [("slots", .ref Z), ("outside", .ref aO), ("references", .ref aR), ("limit", .int lim), ("emptied", .ref aE)]) npO.symm (lk_ne (o := .lst []) eO6 nE)
    have eR7 := lk_ne2 (p := p) (o := .ins C dx [("slots", .ref Z), ("outside", .ref aO), ("references", .ref aR), ("limit", .int lim), ("emptied", .ref aE)]) npR.symm (lk_ne (o := .lst []) eR6 nE)
    have eE7 := lk_ne2 (p := p) (o := .ins C dx [("slots", .ref Z), ("outside", .ref aO), ("references", .ref aR), ("limit", .int lim), ("emptied", .ref aE)]) npE.symm (upd_same (H := H6) (a := aE) (o := .lst []))
    have rows7 : ∀ (j : Nat) (row : Rw), j < vs.length → slots[j]? = some (some row) → (upd (upd H6 aE (.lst [])) p (.ins C dx [("slots", .ref Z), ("outside", .ref aO), ("references", .ref aR), ("limit", .int lim), ("emptied", .ref aE)])) (as.getD j 0) = some (.lst (rowV row)) ∧ as.getD j 0 ≠ aE := fun j row hj hjr => by
      have h1 := rows6 j row hj hjr
      exact ⟨lk_ne2 (fun z => by rw [z, hp6] at h1; cases h1) (lk_ne h1 nE), ne_of_none h1 nE⟩
    generalize (upd (upd H6 aE (.lst [])) p (.ins C dx [("slots", .ref Z), ("outside", .ref aO), ("references", .ref aR), ("limit", .int lim), ("emptied", .ref aE)])) = H7 at *
    repeat walk_at "rd"
    rename_i aH nH
    refine x_insS (lk_ne hp7 nH) hC.cl hC.n_shelf (by simp) ?_
    rw [pf6]
    have npH : p ≠ aH := ne_of_none hp7 nH
    have nH0 : H aH = none := k7.fresh (by simpa using npH.symm) nH
    have nSH : Z ≠ aH := ne_of_none eS7 nH
    have nOH : aO ≠ aH := ne_of_none eO7 nH
    have nRH : aR ≠ aH := ne_of_none eR7 nH
    have nEH : aE ≠ aH := ne_of_none eE7 nH
    have k8 := (k7.new (o := .lst []) nH).wr (p := p) (o := .ins C dx [("slots", .ref Z), ("outside", .ref aO), ("references", .ref aR), ("limit", .int lim), ("emptied", .ref aE), ("shelf", .ref aH)]) (.inr (by simp))
    have hp8 : (upd (upd H7 aH (.lst [])) p (.ins C dx [("slots", .ref Z), ("outside", .ref aO), ("references", .ref aR), ("limit", .int lim), ("emptied", .ref aE), ("shelf", .ref aH)])) p = some _ := upd_same
    have eS8 := lk_ne2 (p := p) (o := .ins C dx [("slots", .ref Z), ("outside", .ref aO), ("references", .ref aR), ("limit", .int lim), ("emptied", .ref aE), ("shelf", .ref aH)]) nZp (lk_ne (o := .lst []) eS7 nH)
    have eO8 := lk_ne2 (p := p) (o := .ins C dx [("slots", .ref Z), ("outside", .ref aO), ("references", .ref aR), ("limit", .int lim), ("emptied", .ref aE), ("shelf", .ref aH)]) npO.symm (lk_ne (o := .lst []) eO7 nH)
    have eR8 := lk_ne2 (p := p) (o := .ins C dx [("slots", .ref Z), ("outside", .ref aO), ("references", .ref aR), ("limit", .int lim), ("emptied", .ref aE), ("shelf", .ref aH)]) npR.symm (lk_ne (o := .lst []) eR7 nH)
    have eE8 := lk_ne2 (p := p) (o := .ins C dx [("slots", .ref Z), ("outside", .ref aO), ("references", .ref aR), ("limit", .int lim), ("emptied", .ref aE), ("shelf", .ref aH)]) npE.symm (lk_ne (o := .lst []) eE7 nH)
    have eH8 := lk_ne2 (p := p) (o := .ins C dx [("slots", .ref Z), ("outside", .ref aO), ("references", .ref aR), ("limit", .int lim), ("emptied", .ref aE), ("shelf", .ref aH)]) npH.symm (upd_same (H := H7) (a := aH) (o := .lst []))
    have rows8 : ∀ (j : Nat) (row : Rw), j < vs.length → slots[j]? = some (some row) → (upd (upd H7 aH (.lst [])) p (.ins C dx [("slots", .ref Z), ("outside", .ref aO), ("references", .ref aR), ("limit", .int lim), ("emptied", .ref aE), ("shelf", .ref aH)])) (as.getD j 0) = some (.lst (rowV row)) ∧ as.getD j 0 ≠ aH := fun j row hj hjr => by
      have h1 := (rows7 j row hj hjr).1
      exact ⟨lk_ne2 (fun z => by rw [z, hp7] at h1; cases h1) (lk_ne h1 nH), ne_of_none h1 nH⟩
    generalize (upd (upd H7 aH (.lst [])) p (.ins C dx [("slots", .ref Z), ("outside", .ref aO), ("references", .ref aR), ("limit", .int lim), ("emptied", .ref aE), ("shelf", .ref aH)])) = H8 at *
    repeat walk_at "rd"
    rename_i aV nV
    refine x_insS (lk_ne hp8 nV) hC.cl hC.n_events (by simp) ?_
    rw [pf7]
    have npV : p ≠ aV := ne_of_none hp8 nV
    have nV0 : H aV = none := k8.fresh (by simpa using npV.symm) nV
    have nSV : Z ≠ aV := ne_of_none eS8 nV
    have nOV : aO ≠ aV := ne_of_none eO8 nV
    have nRV : aR ≠ aV := ne_of_none eR8 nV
    have nEV : aE ≠ aV := ne_of_none eE8 nV
    have nHV : aH ≠ aV := ne_of_none eH8 nV
    have k9 := (k8.new (o := .lst []) nV).wr (p := p) (o := .ins C dx (mf Z aO aR lim aE aH aV)) (.inr (by simp))
    subst hfR
    have hl' : ∀ {j : Nat} {row : Rw}, slots[j]? = some (some row) → j < vs.length := fun {j row} hj => by
      have := (List.getElem?_eq_some_iff.mp hj).1
      omega
    refine k _ Z aO aR aE aH aV (fun j => as.getD j 0) ⟨upd_same, fun j row hj => ?_, ?_, ?_, fun i j r r' hi hj he => hin i j r r' (hl' hi) (hl' hj) hi hj he⟩ ⟨Kx.refl _ _, lk_ne2 nZp (lk_ne eS8 nV), lk_ne2 npO.symm (lk_ne eO8 nV), lk_ne2 npR.symm (lk_ne eR8 nV), ⟨[], lk_ne2 npE.symm (lk_ne eE8 nV), .nil⟩, lk_ne2 npH.symm (lk_ne eH8 nV), ⟨[], lk_ne2 npV.symm upd_same, .nil⟩⟩ k9 ?_ (fun i r hi => hfr i r (hl' hi) hi)
    · obtain ⟨h1, h2⟩ := rows8 j row (hl' hj) hj
      obtain ⟨_, g1, g2, g3⟩ := rows5 j row (hl' hj) hj
      have g4 := (rows7 j row (hl' hj) hj).2
      refine ⟨lk_ne2 (fun z => by rw [z, hp8] at h1; cases h1) (lk_ne h1 nV), ?_⟩
      have g5 := ne_of_none h1 nV
      simp only [List.mem_cons, List.not_mem_nil, or_false, not_or]
      exact ⟨g1, g2, g3, g4, h2, g5⟩
    · simp only [List.nodup_cons, List.mem_cons, List.not_mem_nil, or_false, not_or, not_false_eq_true, List.nodup_nil, and_true]
      exact ⟨⟨nSO, nSR, nSE, nSH, nSV⟩, ⟨nOR, nOE, nOH, nOV⟩, ⟨nRE, nRH, nRV⟩, ⟨nEH, nEV⟩, nHV⟩
    · simp only [List.mem_cons, List.not_mem_nil, or_false, not_or]
      exact ⟨nZp.symm, npO, npR, npE, npH, npV⟩
    · intro b hb
      simp only [List.mem_cons, List.not_mem_nil, or_false] at hb
      rcases hb with rfl | rfl | rfl | rfl | rfl | rfl
      · exact nZ
      · exact nO0
      · exact nR0
      · exact nE0
      · exact nH0
      · exact nV0
end


def afterS (slots : List (Option Rw)) (log : List Nat) : List (Option Rw) := (List.range slots.length).map fun i => if i ∈ log then none else (slots[i]?).getD none
def sizesOf (evs : List Ev) : List Int := evs.filterMap Ev.size
/-- the greatest of them, 0 for none -/
def IsPeak (ns : List Int) (k : Int) : Prop := (ns = [] ∧ k = 0) ∨ (k ∈ ns ∧ ∀ b ∈ ns, b ≤ k)
section
variable {P : Program} {w : World} {K : PySem.W.Frag} {mg : Str → Option Value} {base : Heap}

theorem x_maxP {H : Hp} {Q : VK} {a : Addr} {ns : List Int} (h : SqL K H a (ns.map V.int)) (q : ∀ m, IsPeak ns m → Q (.int m) H) : rMaxD K [.ref a] [.int 0] H Q := ⟨a, ns, 0, rfl, rfl, h, fun e => q 0 (.inl ⟨e, rfl⟩), fun m h1 h2 => q m (.inr ⟨h1, h2⟩)⟩
theorem afterS_len (slots : List (Option Rw)) (log : List Nat) : (afterS slots log).length = slots.length := by
  unfold afterS
  rw [List.length_map, List.length_range]
theorem filterMap_take_succ {β : Type} {evs : List Ev} {g : Ev → Option β} {i : Nat} {e : Ev} (h : evs[i]? = some e) : (evs.take (i + 1)).filterMap g = (evs.take i).filterMap g ++ (g e).toList := by
  rw [List.take_add_one, h, List.filterMap_append]
  cases hg : g e <;> simp [hg]
theorem ev_ne {a b : String} (h : ¬ (Str.ofString a = Str.ofString b)) : decide (V.str (Str.ofString a) = V.str (Str.ofString b)) = false := decide_eq_false fun e => h (V.str.inj e)
def spResult (K : PySem.W.Frag) (C : Addr) : Sp := fun vs H Q _ => ∃ (slots : List (Option Rw)) (H1 : Hp) (p dx aS aO aR aE aH aV : Addr) (ra : Nat → Addr) (lim : Int) (outs : List Int) (tf : Nat → Int) (log : List Nat) (evs : List Ev),
  vs = [.ref p] ∧ MS slots C H1 p dx aS aO aR aE aH aV ra lim ∧ MD slots H1 H aS aO aR aE aH aV ra outs tf log [] [] evs ∧ ClR K C ∧ log = evs.filterMap Ev.dead ∧ evs.length ≤ 100000 ∧ slots.length ≤ 40 ∧
  ∀ B L X k H', Kx [] H H' → SqT K H' B [.ref L, .int k, .ref X] → FT H' L (log.map fun n : Nat => V.int n) → IsPeak (sizesOf evs) k → HeapT K H' X (afterS slots log) outs → Q (.ref B) H'
theorem ok_result {C : Addr} {f : Addr} {fd : FuncData} (F : Fun K "result" "Releasing.result" sReleasingResult f fd) (T : Txt mg) : FnOk P w K mg base CX0 1 f fd ["self"] (spResult K C) := by
  refine F.ok scReleasingResult (fun vs H Q E h => ?_) (fun cdv A outer s H vs Q E hr h => ?_)
  · obtain ⟨slots, H1, p, dx, aS, aO, aR, aE, aH, aV, ra, lim, outs, tf, log, evs, rfl, _⟩ := h
    rfl
  · obtain ⟨slots, H1, p, dx, aS, aO, aR, aE, aH, aV, ra, lim, outs, tf, log, evs, rfl, ms, md, hC, hlog, hsz, h40, k⟩ := h
    refine ⟨_, (pss_cons (ps_setLc (i := 1) (own := [("event", 4)]) rfl scReleasingResult.nd rfl rfl (sw_true rfl rfl rfl (by decide +kernel)) (pi_list (pe_fld (pv 0) rfl)) (blkOk_by (N := ["self", "log", "peak", "rows", "event", "row"]) (sc := defScope sReleasingResult) (by decide +kernel)) (fun _ _ _ _ _ => (pg_name (i := 4) scReleasingResult.nd rfl (Or.inl rfl))) (fun _ _ _ _ _ => (pts_one (pt_cmpR op_eq (pe_ix (ix_tupK (K := K)) (pv 4) pe_int (fun _ _ => rfl)) pe_str (nomark _)))) (fun _ _ _ _ _ => (pe_ix (ix_tupK (K := K)) (pv 4) pe_int (fun _ _ => rfl))))
      (pss_cons (ps_set (i := 2) scReleasingResult.nd rfl (Or.inl rfl) (pe_callBK (cr_maxD rfl) (by rfl) T.b_max boot'_max (pa_cons (pe_lc (own := [("event", 4)]) rfl scReleasingResult.nd (pi_list (pe_fld (pv 0) rfl)) (blkOk_by (N := ["self", "log", "peak", "rows", "event", "row"]) (sc := defScope sReleasingResult) (by decide +kernel)) (fun _ _ _ _ _ => (pg_name (i := 4) scReleasingResult.nd rfl (Or.inl rfl))) (fun _ _ _ _ _ => (pts_one (pt_cmpR op_eq (pe_ix (ix_tupK (K := K)) (pv 4) pe_int (fun _ _ => rfl)) pe_str (nomark _)))) (fun _ _ _ _ _ => (pe_ix (ix_tupK (K := K)) (pv 4) pe_int (fun _ _ => rfl)))) pa_nil) (pk_cons pe_int pk_nil)))
      (pss_cons (ps_setLc (i := 3) (own := [("row", 5)]) rfl scReleasingResult.nd rfl rfl (sw_true rfl rfl rfl (by decide +kernel)) (pi_list (pe_fld (pv 0) rfl)) (blkOk_by (N := ["self", "log", "peak", "rows", "event", "row"]) (sc := defScope sReleasingResult) (by decide +kernel)) (fun _ _ _ _ _ => (pg_name (i := 5) scReleasingResult.nd rfl (Or.inl rfl))) (fun _ _ _ _ _ => pts_nil) (fun _ _ _ _ _ => (pe_ifExp (pt_cmpR op_isN1 (pv 5) pe_non (nomark _)) pe_non (pe_callTy (call_tuple_ofK (K := K)) (by rfl) T.b_tuple boot'_tuple (pa_cons (pv 5) pa_nil)))))
      (pss_one (ps_ret (pe_tup (pa_cons (pe_callTy call_tupF (by rfl) T.b_tuple boot'_tuple (pa_cons (pv 1) pa_nil)) (pa_cons (pv 2) (pa_cons (pe_tup (pa_cons (pe_callTy call_tuple_of (by rfl) T.b_tuple boot'_tuple (pa_cons (pv 3) pa_nil)) (pa_cons (pe_callTy call_tuple_of (by rfl) T.b_tuple boot'_tuple (pa_cons (pe_fld (pv 0) rfl) pa_nil)) pa_nil))) pa_nil))))))))), ?_⟩
    refine x_start (σ' := [some (.ref p), none, none, none, none, none]) rfl ?_
    dsimp only [cxOf]
    have hins := md.k _ _ ms.pW ms.ins
    obtain ⟨us, eV, tV⟩ := md.eV
    have hul : us.length = evs.length := by rw [tV.len, List.length_map]
    repeat walk_at "rd"
    refine y_lcL (xs := us.map V.ref) (SqL.of eV) (fun Z nZ => ⟨fun i H2 => Kx [] H H2 ∧ H2 Z = some (.lst (((evs.take i).filterMap Ev.dead).map fun n : Nat => V.int n)), ⟨(Kx.refl _ _).new nZ, upd_same⟩, ?_, ?_, ?_⟩)
    · rintro i H2 hi ⟨k2, _⟩
      exact k2.sqL (by simp) (SqL.of eV)
    · rintro i x H2 H2' hi ⟨k2, e2⟩ ⟨rfl, hx⟩
      rw [List.length_map] at hi
      have hie : i < evs.length := by omega
      have ee := List.getElem?_eq_getElem hie
      obtain ⟨t, et, ht⟩ := tV.at_ i (evV evs[i]) (by rw [List.getElem?_map, ee]; rfl)
      rw [List.getElem?_map, et] at hx
      cases Option.some.inj hx
      have ht2 := k2 t _ (by simp) ht
      have hf := filterMap_take_succ (g := Ev.dead) ee
      have hz : (((evs.take i).filterMap Ev.dead).map fun n : Nat => V.int n).length < sizeLine := big_line (by
        rw [List.length_map]
        refine Nat.le_trans (List.length_filterMap_le _ _) ?_
        rw [List.length_take]
        omega)
      cases hev : evs[i] with
      | destroy n d =>
        rw [hev] at ht2 hf
        replace ht2 : H2' t = some (.tup [.str "destroy", .int n, .int d]) := ht2
        repeat walk_at "rd"
        refine ⟨rfl, ?_⟩
        repeat walk_at "rd"
        refine iteP (by simp) ?_
        repeat walk_at "rd"
        refine ⟨_, e2, hz, k2.wr (.inl nZ), ?_⟩
        rw [upd_same, hf, List.map_append]
        rfl
      | release h s n l =>
        rw [hev] at ht2 hf
        replace ht2 : H2' t = some (.tup [.str "release", optV h, optV s, .int n, .int l]) := ht2
        repeat walk_at "rd"
        refine ⟨rfl, ?_⟩
        repeat walk_at "rd"
        refine iteN (ev_ne (by decide)) ⟨k2, ?_⟩
        rw [hf]
        simpa [Ev.dead] using e2
      | shelve n s =>
        rw [hev] at ht2 hf
        replace ht2 : H2' t = some (.tup [.str "shelve", .int n, .int s]) := ht2
        repeat walk_at "rd"
        refine ⟨rfl, ?_⟩
        repeat walk_at "rd"
        refine iteN (ev_ne (by decide)) ⟨k2, ?_⟩
        rw [hf]
        simpa [Ev.dead] using e2
      | take n s =>
        rw [hev] at ht2 hf
        replace ht2 : H2' t = some (.tup [.str "take", .int n, .int s]) := ht2
        repeat walk_at "rd"
        refine ⟨rfl, ?_⟩
        repeat walk_at "rd"
        refine iteN (ev_ne (by decide)) ⟨k2, ?_⟩
        rw [hf]
        simpa [Ev.dead] using e2
    rintro H2 ⟨k2, eZ⟩
    rw [List.length_map, hul, List.take_length, ← hlog] at eZ
    have md2 := md.keep k2
    have hins2 := k2 p _ (by simp) hins
    have eV2 := k2 aV _ (by simp) eV
    have tV2 := tV.kx k2 (by simp)
    repeat walk_at "rd"
    have md3 := md2
    refine y_lcL (xs := us.map V.ref) (SqL.of eV2) (fun W nW => ⟨fun i H3 => Kx [] H2 H3 ∧ H3 W = some (.lst (((evs.take i).filterMap Ev.size).map V.int)), ⟨(Kx.refl _ _).new nW, upd_same⟩, ?_, ?_, ?_⟩)
    · rintro i H3 hi ⟨k3, _⟩
      exact k3.sqL (by simp) (SqL.of eV2)
    · rintro i x H3 H3' hi ⟨k3, e3⟩ ⟨rfl, hx⟩
      rw [List.length_map] at hi
      have hie : i < evs.length := by omega
      have ee := List.getElem?_eq_getElem hie
      obtain ⟨t, et, ht⟩ := tV2.at_ i (evV evs[i]) (by rw [List.getElem?_map, ee]; rfl)
      rw [List.getElem?_map, et] at hx
      cases Option.some.inj hx
      have ht2 := k3 t _ (by simp) ht
      have hf := filterMap_take_succ (g := Ev.size) ee
      have hz : (((evs.take i).filterMap Ev.size).map V.int).length < sizeLine := big_line (by
        rw [List.length_map]
        refine Nat.le_trans (List.length_filterMap_le _ _) ?_
        rw [List.length_take]
        omega)
      cases hev : evs[i] with
      | destroy n d =>
        rw [hev] at ht2 hf
        replace ht2 : H3' t = some (.tup [.str "destroy", .int n, .int d]) := ht2
        repeat walk_at "rd"
        refine ⟨rfl, ?_⟩
        repeat walk_at "rd"
        refine iteN (ev_ne (by decide)) ⟨k3, ?_⟩
        rw [hf]
        simpa [Ev.size] using e3
      | release h s n l =>
        rw [hev] at ht2 hf
        replace ht2 : H3' t = some (.tup [.str "release", optV h, optV s, .int n, .int l]) := ht2
        repeat walk_at "rd"
        refine ⟨rfl, ?_⟩
        repeat walk_at "rd"
        refine iteN (ev_ne (by decide)) ⟨k3, ?_⟩
        rw [hf]
        simpa [Ev.size] using e3
      | shelve n s =>
        rw [hev] at ht2 hf
        replace ht2 : H3' t = some (.tup [.str "shelve", .int n, .int s]) := ht2
        repeat walk_at "rd"
        refine ⟨rfl, ?_⟩
        repeat walk_at "rd"
        refine iteP (by simp) ?_
        repeat walk_at "rd"
        refine ⟨_, e3, hz, k3.wr (.inl nW), ?_⟩
        rw [upd_same, hf, List.map_append]
        rfl
      | take n s =>
        rw [hev] at ht2 hf
        replace ht2 : H3' t = some (.tup [.str "take", .int n, .int s]) := ht2
        repeat walk_at "rd"
        refine ⟨rfl, ?_⟩
        repeat walk_at "rd"
        refine iteN (ev_ne (by decide)) ⟨k3, ?_⟩
        rw [hf]
        simpa [Ev.size] using e3
    rintro H3 ⟨k3, eW⟩
    rw [List.length_map, hul, List.take_length] at eW
    replace eW : H3 W = some (.lst ((sizesOf evs).map V.int)) := eW
    have k03 := k2.trans k3
    have md3 := md2.keep k3
    have hins3 := k3 p _ (by simp) hins2
    have eZ3 := k3 Z _ (by simp) eZ
    have eS3 := md3.eS
    repeat walk_at "rd"
    refine x_maxP (SqL.of eW) fun pk hpk => ?_
    repeat walk_at "rd"
    refine y_lcL (SqL.of eS3) (fun Y nY => ⟨fun i H4 => Kx [] H3 H4 ∧ ∃ bs : List Addr, bs.length = i ∧ H4 Y = some (.lst ((List.range i).map (slotR slots (fun j => bs.getD j 0) log))) ∧
      ∀ (j : Nat) (row : Rw), j < i → slots[j]? = some (some row) → j ∉ log → H4 (bs.getD j 0) = some (.tup (rowV row)), ⟨(Kx.refl _ _).new nY, [], rfl, upd_same, fun j row hj => absurd hj (Nat.not_lt_zero _)⟩, ?_, ?_, ?_⟩)
    · rintro i H4 hi ⟨k4, _⟩
      exact k4.sqL (by simp) (SqL.of eS3)
    · rintro i x H4 H4' hi ⟨k4, bs, hb, e4, hr4⟩ ⟨rfl, hx⟩
      rw [List.length_map, List.length_range] at hi
      rw [List.getElem?_map, List.getElem?_range hi] at hx
      cases Option.some.inj hx
      have es := List.getElem?_eq_getElem hi
      have grow : ∀ a : Addr, (List.range (i + 1)).map (slotR slots (fun j => (bs ++ [a]).getD j 0) log) = (List.range i).map (slotR slots (fun j => bs.getD j 0) log) ++ [slotR slots (fun _ => a) log i] := by
        intro a
        rw [List.range_succ, List.map_append]
        congr 1
        · refine List.map_congr_left fun j hj => ?_
          have := List.mem_range.mp hj
          unfold slotR
          simp only [List.getD_eq_getElem?_getD]
          rw [List.getElem?_append_left (by omega)]
        · simp only [List.map_cons, List.map_nil]
          unfold slotR
          simp only [List.getD_eq_getElem?_getD]
          rw [List.getElem?_append_right (by omega), hb, Nat.sub_self]
          rfl
      have gold : ∀ (a : Addr) (j : Nat), j < i → (bs ++ [a]).getD j 0 = bs.getD j 0 := by
        intro a j hj
        simp only [List.getD_eq_getElem?_getD]
        rw [List.getElem?_append_left (by omega)]
      have gnew : ∀ a : Addr, (bs ++ [a]).getD i 0 = a := by
        intro a
        simp only [List.getD_eq_getElem?_getD]
        rw [List.getElem?_append_right (by omega), hb, Nat.sub_self]
        rfl
      by_cases hlv : isLive slots i = true ∧ i ∉ log
      · obtain ⟨row, er, _⟩ := live_lt hlv.1
        obtain ⟨hr1, hrW⟩ := ms.rows i row er
        have hrow : H4' (ra i) = some (.lst (rowV row)) := k4 _ _ (by simp) (md3.k _ _ hrW hr1)
        rw [show slotR slots ra log i = V.ref (ra i) by unfold slotR; rw [if_pos hlv]]
        repeat walk_at "rd"
        refine ⟨rfl, ?_⟩
        repeat walk_at "rd"
        refine iteF ?_
        repeat walk_at "rd"
        intro a na
        have naY : a ≠ Y := (ne_of_none e4 na).symm
        refine ⟨_, lk_ne e4 na, small1000 (by rw [List.length_map, List.length_range]; omega), (k4.new na).wr (.inl nY), bs ++ [a], by rw [List.length_append, hb]; rfl, ?_, ?_⟩
        · rw [upd_same, grow, show slotR slots (fun _ => a) log i = V.ref a by unfold slotR; rw [if_pos hlv]]
        · intro j row' hj hjr hjl
          by_cases hji : j = i
          · subst hji
            rw [er] at hjr
            cases Option.some.inj (Option.some.inj hjr)
            rw [gnew]
            exact lk_ne2 naY upd_same
          · rw [gold _ _ (by omega)]
            have h1 := hr4 j row' (by omega) hjr hjl
            exact lk_ne2 (fun z => by rw [z, e4] at h1; cases h1) (lk_ne h1 na)
      · rw [show slotR slots ra log i = V.non by unfold slotR; rw [if_neg hlv]]
        repeat walk_at "rd"
        refine ⟨rfl, ?_⟩
        repeat walk_at "rd"
        refine ⟨_, e4, small1000 (by rw [List.length_map, List.length_range]; omega), k4.wr (.inl nY), bs ++ [0], by rw [List.length_append, hb]; rfl, ?_, ?_⟩
        · rw [upd_same, grow, show slotR slots (fun _ => 0) log i = V.non by unfold slotR; rw [if_neg hlv]]
        · intro j row' hj hjr hjl
          by_cases hji : j = i
          · subst hji
            exact absurd ⟨by simp [isLive, hjr], hjl⟩ hlv
          · rw [gold _ _ (by omega)]
            have h1 := hr4 j row' (by omega) hjr hjl
            exact lk_ne2 (fun z => by rw [z, e4] at h1; cases h1) h1
    rintro H4 ⟨k4, bs, hb, eY, hrows⟩
    rw [List.length_map, List.length_range] at eY hrows
    have k04 := k03.trans k4
    have md4 := md3.keep k4
    have hins4 := k4 p _ (by simp) hins3
    have eZ4 := k4 Z _ (by simp) eZ3
    have eO4 := md4.eO
    repeat walk_at "rd"
    intro L oL nL cL dL
    repeat walk_at "rd"
    intro S' nS
    repeat walk_at "rd"
    intro O' nO
    repeat walk_at "rd"
    rename_i X nX B nB
    have kf : Kx [] H4 (upd (upd (upd (upd (upd H4 L (.frz oL (.tup (log.map fun n : Nat => V.int n)))) S' (.tup ((List.range slots.length).map (slotR slots (fun j => bs.getD j 0) log)))) O' (.tup (outs.map V.int))) X (.tup [.ref S', .ref O'])) B (.tup [.ref L, .int pk, .ref X])) :=
      (((((Kx.refl [] H4).new nL).new nS).new nO).new nX).new nB
    refine k B L X pk _ (k04.trans kf) (SqT.of upd_same) ⟨oL, by walk_at "lk", cL, dL⟩ hpk ⟨S', O', _, SqT.of (by walk_at "lk"), SqT.of (by walk_at "lk"), SqT.of (by walk_at "lk"), by rw [afterS_len, List.length_map, List.length_range], fun i o ho => ?_⟩
    have hi : i < slots.length := by
      have := (List.getElem?_eq_some_iff.mp ho).1
      rwa [afterS_len] at this
    unfold afterS at ho
    rw [List.getElem?_map, List.getElem?_range hi] at ho
    cases Option.some.inj ho
    rw [List.getElem?_map, List.getElem?_range hi]
    simp only [Option.map_some]
    rw [List.getElem?_eq_getElem hi]
    simp only [Option.getD_some]
    by_cases hl : i ∈ log
    · refine .inl ⟨if_pos hl, ?_⟩
      unfold slotR
      rw [if_neg (fun z => z.2 hl)]
    · rw [if_neg hl]
      cases e : slots[i] with
      | none =>
        refine .inl ⟨rfl, ?_⟩
        unfold slotR
        rw [if_neg (fun z => by have := z.1; simp [isLive, List.getElem?_eq_getElem hi, e] at this)]
      | some row =>
        have er : slots[i]? = some (some row) := by rw [List.getElem?_eq_getElem hi, e]
        refine .inr ⟨bs.getD i 0, row, rfl, ?_, SqT.of (kf _ _ (by simp) (hrows i row hi er hl))⟩
        unfold slotR
        rw [if_pos ⟨by simp [isLive, er], hl⟩]
/-- the function drop -/
def spDrop (K : PySem.W.Frag) : Sp := fun vs H Q _ => ∃ (D : Addr) (slots : List (Option Rw)) (outs : List Int) (n : Nat) (z lim : Int), vs = [.ref D, .int n, .int lim] ∧ HeapT K H D slots outs ∧ Wf slots outs ∧ isLive slots n = true ∧ outs[n]? = some z ∧ 1 ≤ z ∧ 0 < lim ∧
  ∀ B L X k s' H', Kx [] H H' → SqT K H' B [.ref L, .int k, .ref X] → FT H' L (s'.log.map fun n : Nat => V.int n) → Steps slots (outs.set n (z - 1)) lim ⟨[⟨none, none, n, 0⟩], [], []⟩ s' → s'.pend = [] → s'.shelf = [] → IsPeak (sizesOf s'.evs) k → HeapT K H' X (afterS slots s'.log) (outs.set n (z - 1)) → Q (.ref B) H'
theorem left_nil_le {slots : List (Option Rw)} (h40 : slots.length ≤ 40) (hr : ∀ row, some row ∈ slots → row.length ≤ 40) : left slots [] ≤ 40 * 42 := by
  unfold left
  have : ∀ n, n ≤ slots.length → ((List.range n).map fun h => if h ∈ ([] : List Nat) then 0 else (rowOf slots h).length + 2).sum ≤ n * 42 := by
    intro n
    induction n with
    | zero => intro _; simp
    | succ n ih =>
      intro hn
      rw [List.range_succ, List.map_append, List.sum_append]
      have h1 := ih (by omega)
      have h2 : (rowOf slots n).length ≤ 40 := by
        unfold rowOf
        cases e : slots[n]? with
        | none => simp
        | some o =>
          cases o with
          | none => simp
          | some row => exact hr row (List.mem_of_getElem? e)
      simp only [List.not_mem_nil, if_false, List.map_cons, List.map_nil, List.sum_cons, List.sum_nil] at h1 ⊢
      omega
  have := this slots.length (Nat.le_refl _)
  omega
def spRun (K : PySem.W.Frag) (C : Addr) : Sp := fun vs H Q _ => ∃ (D : Addr) (slots : List (Option Rw)) (outs : List Int) (n : Nat) (z lim : Int), vs = [.ref D, .int n, .int lim] ∧ HeapT K H D slots outs ∧ Wf slots outs ∧ isLive slots n = true ∧ outs[n]? = some z ∧ 1 ≤ z ∧ 0 < lim ∧
  ∀ p dx aS aO aR aE aH aV ra H2 H3 s', MS slots C H2 p dx aS aO aR aE aH aV ra lim → MD slots H2 H3 aS aO aR aE aH aV ra (outs.set n (z - 1)) (tal slots (outs.set n (z - 1)) s'.log []) s'.log [] [] s'.evs → Steps slots (outs.set n (z - 1)) lim ⟨[⟨none, none, n, 0⟩], [], []⟩ s' → s'.pend = [] → s'.shelf = [] → Wk slots (outs.set n (z - 1)) s' → Kx [] H H3 → H p = none → Q (.ref p) H3
theorem ok_run {C : Addr} {f : Addr} {fd : FuncData} (F : Fun K "run_drop" "run_drop" sRunDrop f fd) (T : Txt mg) (hC : ClR K C) (cR : Cls K C) (l_need_reference : Lo P w K mg base "need_reference" 5 ["heap", "node"] (spNeedRef K)) (n_Releasing : Ln P w K mg base C "Releasing" 3 ["self", "heap", "limit"] (spMInit K C))
    (m_drop : Lm P w K mg base C "drop" 4 ["self", "node"] (spMDrop K C)) : FnOk P w K mg base CX0 6 f fd ["heap", "node", "limit"] (spRun K C) := by
  refine F.ok scRunDrop (fun vs H Q E h => ?_) (fun cdv A outer s H vs Q E hr h => ?_)
  · obtain ⟨D, slots, outs, n, z, lim, rfl, _⟩ := h
    rfl
  · obtain ⟨D, slots, outs, n, z, lim, rfl, hT, wf, hl, hz, h1, hlim, k⟩ := h
    refine ⟨_, (pss_cons (ps_expr (pe_lo l_need_reference (hr.mono (by decide)) (by rfl) (pa_cons (pv 0) (pa_cons (pv 1) pa_nil))))
      (pss_cons (ps_set (i := 3) scRunDrop.nd rfl (Or.inl rfl) (pe_ln n_Releasing (hr.mono (by decide)) (by rfl) (pa_cons (pv 0) (pa_cons (pv 2) pa_nil))))
      (pss_cons (ps_expr (pe_lm m_drop cR (hr.mono (by decide)) (pv 3) (pa_cons (pv 1) pa_nil)))
      (pss_one (ps_ret (pv 3)))))), ?_⟩
    refine x_start (σ' := [some (.ref D), some (.int n), some (.int lim), none]) rfl ?_
    try dsimp only [cxOf]
    repeat walk_at "rd"
    refine ⟨D, slots, outs, n, z, rfl, hT, hl, wf.most, hz, h1, ?_⟩
    repeat walk_at "rd"
    intro p dx np ndx ndp
    have np2 : (upd H dx (.own p)) p = none := by rw [upd_ne ndp.symm]; exact np
    have kk : Kx [] H (upd (upd H dx (.own p)) p (.ins C dx [])) := ((Kx.refl [] H).new ndx).new np2
    refine ⟨p, dx, D, slots, outs, lim, rfl, upd_same, hT.keep kk, wf, hC, fun H2 aS aO aR aE aH aV ra ms md k2 hnew _ => ⟨rfl, ?_⟩⟩
    have hins := ms.ins
    have hlog0 : FS.log ⟨[], [], []⟩ = [] := rfl
    have hmu : FS.mu slots ⟨[], [], []⟩ ≤ 40 * 42 := left_nil_le wf.most wf.row
    have wk : Wk slots outs ⟨[], [], []⟩ := ⟨⟨fun q hq => absurd hq (by simp), List.nodup_nil, fun m hm => absurd hm (by simp [hlog0]), fun m hm => absurd hm (by simp [hlog0])⟩, fun z hz => (wf.outs z hz).1, wf.live, wf.row, wf.most, by show 0 + 2 * FS.mu slots ⟨[], [], []⟩ ≤ 90000; omega⟩
    repeat walk_at "rd"
    refine ⟨slots, H2, p, dx, aS, aO, aR, aE, aH, aV, ra, lim, outs, ⟨[], [], []⟩, n, z, rfl, ms, md, hC, wk, rfl, rfl, wf.len, hz, h1, hl, by show 0 + 2 * FS.mu slots ⟨[], [], []⟩ ≤ 89000; omega, hlim, fun s' H3 hs hp he wk' md' => ?_⟩
    repeat walk_at "rd"
    refine k p dx aS aO aR aE aH aV ra H2 H3 s' ms md' hs hp he wk' (fun b o hb e => ?_) np
    have e1 := kk b o hb e
    have e2 := k2 b o (fun h => by rw [List.mem_singleton.mp h, np] at e; cases e) e1
    exact md'.k b o (fun h => by rw [hnew b h] at e1; cases e1) e2
theorem ok_drop {C : Addr} {f : Addr} {fd : FuncData} (F : Fun K "drop" "drop" sDrop f fd) (T : Txt mg) (hC : ClR K C) (cR : Cls K C) (l_run_drop : Lo P w K mg base "run_drop" 6 ["heap", "node", "limit"] (spRun K C)) (m_result : Lm P w K mg base C "result" 1 ["self"] (spResult K C)) : FnOk P w K mg base CX0 7 f fd ["heap", "node", "limit"] (spDrop K) := by
  refine F.ok scDrop (fun vs H Q E h => ?_) (fun cdv A outer s H vs Q E hr h => ?_)
  · obtain ⟨D, slots, outs, n, z, lim, rfl, _⟩ := h
    rfl
  · obtain ⟨D, slots, outs, n, z, lim, rfl, hT, wf, hl, hz, h1, hlim, k⟩ := h
    refine ⟨_, (pss_one (ps_ret (pe_lm0 m_result cR (hr.mono (by decide)) (pe_lo l_run_drop (hr.mono (by decide)) (by rfl) (pa_cons (pv 0) (pa_cons (pv 1) (pa_cons (pv 2) pa_nil))))))), ?_⟩
    refine x_start (σ' := [some (.ref D), some (.int n), some (.int lim)]) rfl ?_
    try dsimp only [cxOf]
    repeat walk_at "rd"
    refine ⟨D, slots, outs, n, z, lim, rfl, hT, wf, hl, hz, h1, hlim, fun p dx aS aO aR aE aH aV ra H2 H3 s' ms md' hs hp he wk' k3 np => ?_⟩
    have hins3 := md'.k _ _ ms.pW ms.ins
    have hsz := wk'.sz
    repeat walk_at "rd"
    refine ⟨slots, H2, p, dx, aS, aO, aR, aE, aH, aV, ra, lim, outs.set n (z - 1), _, s'.log, s'.evs, rfl, ms, md', hC, rfl, by omega, wf.most, fun B L X pk H4 k4 hB hL hpk hX => ?_⟩
    repeat walk_at "rd"
    exact k B L X pk s' H4 (k3.trans k4) hB hL hs hp he hpk hX
end

/-! ### the law's own machine -/
/-- the pending releases of frames (top first): node and place -/
def pf (slots : List (Option Rw)) : List (Nat × Nat) → List Pd
  | [] => []
  | q :: below => kidsAt q.1 (below.length + 1) q.2 ((rowOf slots q.1).drop q.2) ++ pf slots below
/-- what the frames have before them -/
def fw (slots : List (Option Rw)) (frs : List (Nat × Nat)) : Nat := (frs.map fun q => (rowOf slots q.1).length - q.2 + 1).sum
theorem fw_cons (slots : List (Option Rw)) (q : Nat × Nat) (r : List (Nat × Nat)) : fw slots (q :: r) = ((rowOf slots q.1).length - q.2 + 1) + fw slots r := by
  unfold fw
  rw [List.map_cons, List.sum_cons]
theorem fw_len (slots : List (Option Rw)) : ∀ frs : List (Nat × Nat), frs.length ≤ fw slots frs
  | [] => Nat.le_refl _
  | q :: r => by
    have := fw_len slots r
    rw [fw_cons, List.length_cons]
    omega
/-- the four lists of the law's machine -/
structure Four (H0 : Hp) (t wt fr lg : Addr) : Prop where
  tw : t ≠ wt
  tf : t ≠ fr
  tl : t ≠ lg
  wf : wt ≠ fr
  wl : wt ≠ lg
  fl : fr ≠ lg
  n : ∀ b ∈ [t, wt, fr, lg], H0 b = none
structure LX (H0 H : Hp) (t wt fr lg : Addr) (tv wv lv : List V) (fa : List Addr) (frs : List (Nat × Nat)) : Prop where
  kx : Kx [] H0 H
  tl : H t = some (.lst tv)
  w : H wt = some (.lst wv)
  f : H fr = some (.lst (fa.reverse.map V.ref))
  l : H lg = some (.lst lv)
  fl : fa.length = frs.length
  fat : ∀ (i : Nat) (q : Nat × Nat), frs[i]? = some q → ∃ a, fa[i]? = some a ∧ H a = some (.lst [.int q.1, .int q.2])
  fd : fa.Nodup
  fn : ∀ a ∈ fa, a ≠ t ∧ a ≠ wt ∧ a ≠ fr ∧ a ≠ lg ∧ H0 a = none
section
variable {H0 H : Hp} {t wt fr lg : Addr} {tv wv lv : List V} {fa : List Addr} {frs : List (Nat × Nat)}
theorem LX.new (x : LX H0 H t wt fr lg tv wv lv fa frs) {q : Addr} {o : HO} (n : H q = none) : LX H0 (upd H q o) t wt fr lg tv wv lv fa frs := by
  refine ⟨x.kx.new n, lk_ne x.tl n, lk_ne x.w n, lk_ne x.f n, lk_ne x.l n, x.fl, fun i p hp => ?_, x.fd, x.fn⟩
  obtain ⟨a, h1, h2⟩ := x.fat i p hp
  exact ⟨a, h1, lk_ne h2 n⟩
theorem LX.keep (x : LX H0 H t wt fr lg tv wv lv fa frs) {H' : Hp} (k : Kx [] H H') : LX H0 H' t wt fr lg tv wv lv fa frs := by
  refine ⟨x.kx.trans k, k _ _ (by simp) x.tl, k _ _ (by simp) x.w, k _ _ (by simp) x.f, k _ _ (by simp) x.l, x.fl, fun i p hp => ?_, x.fd, x.fn⟩
  obtain ⟨a, h1, h2⟩ := x.fat i p hp
  exact ⟨a, h1, k _ _ (by simp) h2⟩
theorem LX.wT (x : LX H0 H t wt fr lg tv wv lv fa frs) (d : Four H0 t wt fr lg) (tv' : List V) : LX H0 (upd H t (.lst tv')) t wt fr lg tv' wv lv fa frs := by
  refine ⟨x.kx.wr (.inl (d.n _ (by simp))), upd_same, lk_ne2 d.tw.symm x.w, lk_ne2 d.tf.symm x.f, lk_ne2 d.tl.symm x.l, x.fl, fun i p hp => ?_, x.fd, x.fn⟩
  obtain ⟨a, h1, h2⟩ := x.fat i p hp
  exact ⟨a, h1, lk_ne2 (x.fn a (List.mem_of_getElem? h1)).1 h2⟩
theorem LX.wW (x : LX H0 H t wt fr lg tv wv lv fa frs) (d : Four H0 t wt fr lg) (wv' : List V) : LX H0 (upd H wt (.lst wv')) t wt fr lg tv wv' lv fa frs := by
  refine ⟨x.kx.wr (.inl (d.n _ (by simp))), lk_ne2 d.tw x.tl, upd_same, lk_ne2 d.wf.symm x.f, lk_ne2 d.wl.symm x.l, x.fl, fun i p hp => ?_, x.fd, x.fn⟩
  obtain ⟨a, h1, h2⟩ := x.fat i p hp
  exact ⟨a, h1, lk_ne2 (x.fn a (List.mem_of_getElem? h1)).2.1 h2⟩
theorem LX.wL (x : LX H0 H t wt fr lg tv wv lv fa frs) (d : Four H0 t wt fr lg) (lv' : List V) : LX H0 (upd H lg (.lst lv')) t wt fr lg tv wv lv' fa frs := by
  refine ⟨x.kx.wr (.inl (d.n _ (by simp))), lk_ne2 d.tl x.tl, lk_ne2 d.wl x.w, lk_ne2 d.fl x.f, upd_same, x.fl, fun i p hp => ?_, x.fd, x.fn⟩
  obtain ⟨a, h1, h2⟩ := x.fat i p hp
  exact ⟨a, h1, lk_ne2 (x.fn a (List.mem_of_getElem? h1)).2.2.2.1 h2⟩
/-- a new frame on top -/
theorem LX.push (x : LX H0 H t wt fr lg tv wv lv fa frs) (d : Four H0 t wt fr lg) {q : Addr} {h pl : Nat} (n : H q = none) : LX H0 (upd (upd H q (.lst [.int h, .int pl])) fr (.lst (fa.reverse.map V.ref ++ [V.ref q]))) t wt fr lg tv wv lv (q :: fa) ((h, pl) :: frs) := by
  have y := x.new (o := .lst [.int (h : Int), .int (pl : Int)]) n
  have nq : q ≠ t ∧ q ≠ wt ∧ q ≠ fr ∧ q ≠ lg := ⟨(ne_of_none x.tl n).symm, (ne_of_none x.w n).symm, (ne_of_none x.f n).symm, (ne_of_none x.l n).symm⟩
  have nf : q ∉ fa := fun z => by
    obtain ⟨i, hi⟩ := List.mem_iff_getElem?.mp z
    have hl := (List.getElem?_eq_some_iff.mp hi).1
    have hl2 : i < frs.length := by rw [← x.fl]; exact hl
    obtain ⟨a, h1, h2⟩ := x.fat i frs[i] (List.getElem?_eq_getElem hl2)
    rw [hi] at h1
    cases Option.some.inj h1
    rw [n] at h2
    cases h2
  refine ⟨y.kx.wr (.inl (d.n _ (by simp))), lk_ne2 d.tf y.tl, lk_ne2 d.wf y.w, by rw [upd_same, List.reverse_cons, List.map_append]; rfl, lk_ne2 d.fl.symm y.l, by rw [List.length_cons, List.length_cons, x.fl], fun i p hp => ?_, List.nodup_cons.mpr ⟨nf, x.fd⟩, fun a ha => ?_⟩
  · cases i with
    | zero =>
      cases Option.some.inj hp
      exact ⟨q, rfl, lk_ne2 nq.2.2.1 upd_same⟩
    | succ i =>
      obtain ⟨a, h1, h2⟩ := y.fat i p hp
      exact ⟨a, h1, lk_ne2 (x.fn a (List.mem_of_getElem? h1)).2.2.1 h2⟩
  · rcases List.mem_cons.mp ha with rfl | ha
    · refine ⟨nq.1, nq.2.1, nq.2.2.1, nq.2.2.2, x.kx.fresh (by simp) n⟩
    · exact x.fn a ha
/-- the top frame goes -/
theorem LX.pop {a : Addr} {q : Nat × Nat} (x : LX H0 H t wt fr lg tv wv lv (a :: fa) (q :: frs)) (d : Four H0 t wt fr lg) : LX H0 (upd H fr (.lst (fa.reverse.map V.ref))) t wt fr lg tv wv lv fa frs := by
  refine ⟨x.kx.wr (.inl (d.n _ (by simp))), lk_ne2 d.tf x.tl, lk_ne2 d.wf x.w, upd_same, lk_ne2 d.fl.symm x.l, Nat.succ.inj x.fl, fun i p hp => ?_, (List.nodup_cons.mp x.fd).2, fun b hb => x.fn b (List.mem_cons_of_mem _ hb)⟩
  obtain ⟨b, h1, h2⟩ := x.fat (i + 1) p hp
  exact ⟨b, h1, lk_ne2 (x.fn b (List.mem_of_getElem? h1)).2.2.1 h2⟩
/-- the top frame's place moves -/
theorem LX.move {a : Addr} {h pl pl' : Nat} (x : LX H0 H t wt fr lg tv wv lv (a :: fa) ((h, pl) :: frs)) (d : Four H0 t wt fr lg) : LX H0 (upd H a (.lst [.int h, .int pl'])) t wt fr lg tv wv lv (a :: fa) ((h, pl') :: frs) := by
  obtain ⟨n1, n2, n3, n4, n5⟩ := x.fn a List.mem_cons_self
  refine ⟨x.kx.wr (.inl n5), lk_ne2 n1.symm x.tl, lk_ne2 n2.symm x.w, lk_ne2 n3.symm x.f, lk_ne2 n4.symm x.l, x.fl, fun i p hp => ?_, x.fd, x.fn⟩
  cases i with
  | zero =>
    cases Option.some.inj hp
    exact ⟨a, rfl, upd_same⟩
  | succ i =>
    obtain ⟨b, h1, h2⟩ := x.fat (i + 1) p hp
    refine ⟨b, h1, lk_ne2 (fun z => ?_) h2⟩
    have h3 : fa[i]? = some b := h1
    exact (List.nodup_cons.mp x.fd).1 (by rw [← z]; exact List.mem_of_getElem? h3)
theorem LX.top {a : Addr} {q : Nat × Nat} (x : LX H0 H t wt fr lg tv wv lv (a :: fa) (q :: frs)) : H a = some (.lst [.int q.1, .int q.2]) ∧ H fr = some (.lst (fa.reverse.map V.ref ++ [V.ref a])) := by
  obtain ⟨b, h1, h2⟩ := x.fat 0 q rfl
  cases Option.some.inj h1
  refine ⟨h2, ?_⟩
  have := x.f
  rwa [List.reverse_cons, List.map_append] at this
theorem LX.data (x : LX H0 H t wt fr lg tv wv lv fa frs) (K : PySem.W.Frag) : DpAll K H (fa.reverse.map V.ref) (frs.reverse.map fun q => PyData.list [.int q.1, .int q.2]) := by
  refine dpAll_at (by rw [List.length_map, List.length_map, List.length_reverse, List.length_reverse, x.fl]) fun i d hd => ?_
  rw [List.getElem?_map] at hd
  cases e : frs.reverse[i]? with
  | none => rw [e] at hd; cases hd
  | some q =>
    rw [e] at hd
    cases Option.some.inj hd
    have hi := (List.getElem?_eq_some_iff.mp e).1
    rw [List.length_reverse] at hi
    rw [List.getElem?_reverse hi] at e
    obtain ⟨a, h1, h2⟩ := x.fat _ _ e
    refine ⟨.ref a, ?_, .lst (SqL.of h2) (.cons (.int _) (.cons (.int _) .nil))⟩
    rw [List.getElem?_map, List.getElem?_reverse (by rw [x.fl]; exact hi), x.fl, h1]
    rfl
end
def frD (frs : List (Nat × Nat)) : List PyData := frs.map fun q => PyData.list [.int q.1, .int q.2]
theorem lay_fr : ∀ frs : List (Nat × Nat), PyData.canLayAll0 (frD frs) = true
  | [] => by simp only [frD, List.map_nil, PyData.canLayAll0]
  | q :: r => by
    have := lay_fr r
    unfold frD at this ⊢
    simp only [List.map_cons, PyData.canLayAll0, PyData.canLay0, this, Bool.and_self]
theorem deep_fr : ∀ frs : List (Nat × Nat), PyData.depthAll (frD frs) ≤ 1
  | [] => by simp [frD, PyData.depthAll]
  | q :: r => by
    have := deep_fr r
    unfold frD at this ⊢
    simp only [List.map_cons, PyData.depthAll, PyData.depth]
    simp [this]
theorem shaped_fr (frs : List (Nat × Nat)) : SeqAt.shaped (.list (frD frs)) = true := by
  have h := deep_fr frs
  unfold SeqAt.shaped
  simp [PyData.canLay0, PyData.depth, lay_fr]
  omega
theorem nat_ints (l : List Nat) : (l.map fun n : Nat => V.int n) = (l.map fun n : Nat => (n : Int)).map V.int := by
  rw [List.map_map]
  rfl
theorem fr_isEmpty (frs : List (Nat × Nat)) : (frD frs.reverse).isEmpty = frs.isEmpty := by
  cases frs with
  | nil => rfl
  | cons q r =>
    unfold frD
    rw [List.reverse_cons, List.map_append]
    cases (List.map (fun q : Nat × Nat => PyData.list [.int q.1, .int q.2]) r.reverse) <;> rfl
section
variable {slots : List (Option Rw)} {outs : List Int} {lim : Int}
theorem IsPeak.snoc {ns : List Int} {k s : Int} (h : IsPeak ns k) (hn : ∀ b ∈ ns, 0 ≤ b) (hs : 0 ≤ s) : IsPeak (ns ++ [s]) (if k < s then s else k) := by
  rcases h with ⟨rfl, rfl⟩ | ⟨h1, h2⟩
  · right
    by_cases e : (0 : Int) < s
    · rw [if_pos e]
      exact ⟨by simp, fun b hb => by simp at hb; omega⟩
    · have : s = 0 := by omega
      subst this
      exact ⟨by simp, fun b hb => by simp at hb; rw [hb]; exact Int.le_refl _⟩
  · right
    by_cases e : k < s
    · rw [if_pos e]
      refine ⟨by simp, fun b hb => ?_⟩
      rcases List.mem_append.mp hb with hb | hb
      · have := h2 b hb
        omega
      · rw [List.mem_singleton.mp hb]
        exact Int.le_refl _
    · rw [if_neg e]
      refine ⟨List.mem_append_left _ h1, fun b hb => ?_⟩
      rcases List.mem_append.mp hb with hb | hb
      · exact h2 b hb
      · rw [List.mem_singleton.mp hb]
        omega
theorem IsPeak.uniq {ns : List Int} {a b : Int} (h : IsPeak ns a) (g : IsPeak ns b) : a = b := by
  rcases h with ⟨e1, rfl⟩ | ⟨h1, h2⟩
  · rcases g with ⟨_, rfl⟩ | ⟨g1, _⟩
    · rfl
    · rw [e1] at g1
      cases g1
  · rcases g with ⟨e1, _⟩ | ⟨g1, g2⟩
    · rw [e1] at h1
      cases h1
    · exact Int.le_antisymm (g2 a h1) (h2 b g1)
theorem pf_top {h pl : Nat} {below : List (Nat × Nat)} {o : Option Nat} (hl : (rowOf slots h)[pl]? = some o) : pf slots ((h, pl) :: below) = (match o with | none => [] | some m => [⟨some h, some pl, m, below.length + 1⟩]) ++ pf slots ((h, pl + 1) :: below) := by
  obtain ⟨h1, h2⟩ := List.getElem?_eq_some_iff.mp hl
  unfold pf
  simp only
  rw [List.drop_eq_getElem_cons h1, h2]
  cases o <;> rfl
theorem pf_end {h pl : Nat} {below : List (Nat × Nat)} (hl : (rowOf slots h).length ≤ pl) : pf slots ((h, pl) :: below) = pf slots below := by
  show kidsAt h _ pl ((rowOf slots h).drop pl) ++ pf slots below = _
  rw [List.drop_eq_nil_of_le hl]
  rfl
theorem pf_new (n : Nat) (below : List (Nat × Nat)) : pf slots ((n, 0) :: below) = kids slots n (below.length + 1) ++ pf slots below := rfl
theorem sizes_nn : ∀ evs : List Ev, ∀ b ∈ sizesOf evs, 0 ≤ b := by
  intro evs b hb
  unfold sizesOf at hb
  obtain ⟨e, _, he⟩ := List.mem_filterMap.mp hb
  cases e with
  | shelve n k =>
    rw [← Option.some.inj (he : some (k : Int) = some b)]
    omega
  | release _ _ _ _ => cases he
  | destroy _ _ => cases he
  | take _ _ => cases he
theorem sizes_app (a b : List Ev) : sizesOf (a ++ b) = sizesOf a ++ sizesOf b := List.filterMap_append
def s00 (n : Nat) : FS := ⟨[⟨none, none, n, 0⟩], [], []⟩
def talL (slots : List (Option Rw)) (outs : List Int) (log : List Nat) (pend : List Pd) : List V := (List.range slots.length).map fun m => V.int (tal slots outs log pend m)
/-- the law's lists tell a state that is reached -/
def BF (slots : List (Option Rw)) (outs : List Int) (lim : Int) (spot m : Nat) (frs : List (Nat × Nat)) (wv lv tv : List V) (hi : Int) : Prop :=
  ∃ s : FS, s.pend = pf slots frs ∧ (∀ q ∈ frs, isLive slots q.1 = true ∧ q.2 ≤ (rowOf slots q.1).length) ∧ wv = (s.shelf.map fun n : Nat => V.int n) ∧ lv = (s.log.map fun n : Nat => V.int n) ∧ tv = talL slots outs s.log s.pend ∧ IsPeak (sizesOf s.evs) hi ∧
    Steps slots outs lim (s00 spot) s ∧ Wk slots outs s ∧ left slots s.log + fw slots frs ≤ m
def ST (slots : List (Option Rw)) (outs : List Int) (lim : Int) (spot m : Nat) (frs : List (Nat × Nat)) (wv lv tv : List V) (hi : Int) : Prop :=
  (frs ≠ [] ∧ BF slots outs lim spot m frs wv lv tv hi) ∨ (frs = [] ∧ wv = [] ∧ BF slots outs lim spot m frs wv lv tv hi) ∨
    (frs = [] ∧ ∃ (ss : List Nat) (n m' : Nat), m' < m ∧ wv = (ss.map fun n : Nat => V.int n) ++ [V.int n] ∧ BF slots outs lim spot m' [(n, 0)] (ss.map fun n : Nat => V.int n) (lv ++ [V.int n]) tv hi)
theorem toST {spot m : Nat} {frs : List (Nat × Nat)} {wv lv tv : List V} {hi : Int} (h : BF slots outs lim spot m frs wv lv tv hi) : ST slots outs lim spot m frs wv lv tv hi := by
  by_cases hf : frs = []
  · subst hf
    obtain ⟨s, hp, ho, hw, hl, ht, hk, hs, wk, hm⟩ := h
    rcases List.eq_nil_or_concat s.shelf with he | ⟨ss, n, he⟩
    · exact .inr (.inl ⟨rfl, by rw [hw, he]; rfl, s, hp, ho, hw, hl, ht, hk, hs, wk, hm⟩)
    · rw [List.concat_eq_append] at he
      have hp0 : s.pend = [] := hp
      have hstep : stepF slots outs lim s = some ⟨kids slots n 1, ss, s.evs ++ [.take n ss.length, .destroy n 0]⟩ := by
        unfold stepF
        rw [hp0, he]
        simp
      have hlog : FS.log ⟨kids slots n 1, ss, s.evs ++ [.take n ss.length, .destroy n 0]⟩ = s.log ++ [n] := by
        unfold FS.log
        rw [List.filterMap_append]
        rfl
      have ham : n ∈ s.log ++ s.shelf := by rw [he]; simp
      have hla := wk.ok.lv n ham
      have hnd := wk.ok.nd
      rw [he] at hnd
      have hna : n ∉ s.log := fun h => (List.nodup_append.mp hnd).2.2 n h n (by simp) rfl
      obtain ⟨_, _, hlta⟩ := live_lt hla
      have hleft := left_dead (slots := slots) hlta hna
      have hfw : fw slots [(n, 0)] = (rowOf slots n).length + 1 := by
        rw [fw_cons]
        show (rowOf slots n).length - 0 + 1 + 0 = _
        omega
      have hfw0 : fw slots [] = 0 := rfl
      refine .inr (.inr ⟨rfl, ss, n, left slots (s.log ++ [n]) + fw slots [(n, 0)], by omega, by rw [hw, he, List.map_append]; rfl, _, ?_, ?_, rfl, ?_, ?_, ?_, hs.tail hstep, wk.step hstep, by rw [hlog]; exact Nat.le_refl _⟩)
      · show kids slots n 1 = kids slots n (0 + 1) ++ []
        rw [List.append_nil]
      · intro q hq
        rw [List.mem_singleton.mp hq]
        exact ⟨hla, Nat.zero_le _⟩
      · rw [hl, hlog, List.map_append]
        rfl
      · rw [ht, hlog, hp0]
        unfold talL
        refine List.map_congr_left fun m _ => ?_
        have := tal_dead (slots := slots) (outs := outs) hlta hna 1 [] m
        rw [List.append_nil] at this
        show V.int _ = V.int (tal slots outs (s.log ++ [n]) (kids slots n 1) m)
        rw [this]
      · rw [sizes_app]
        show IsPeak (sizesOf s.evs ++ []) hi
        rw [List.append_nil]
        exact hk
  · exact .inl ⟨hf, h⟩
theorem ST.mono {spot m m' : Nat} {frs : List (Nat × Nat)} {wv lv tv : List V} {hi : Int} (h : BF slots outs lim spot m frs wv lv tv hi) (l : m ≤ m') : BF slots outs lim spot m' frs wv lv tv hi := by
  obtain ⟨s, a, b, c, d, e, f, g, i, j⟩ := h
  exact ⟨s, a, b, c, d, e, f, g, i, Nat.le_trans j l⟩
end

theorem wk_zero {slots : List (Option Rw)} {outs : List Int} {b : Int} (wf : WfB b slots outs) : Wk slots outs ⟨[], [], []⟩ := by
  have hlog0 : FS.log ⟨[], [], []⟩ = [] := rfl
  have hmu : FS.mu slots ⟨[], [], []⟩ ≤ 40 * 42 := left_nil_le wf.most wf.row
  exact ⟨⟨fun q hq => absurd hq (by simp), List.nodup_nil, fun m hm => absurd hm (by simp [hlog0]), fun m hm => absurd hm (by simp [hlog0])⟩, fun z hz => (wf.outs z hz).1, wf.live, wf.row, wf.most, by show 0 + 2 * FS.mu slots ⟨[], [], []⟩ ≤ 90000; omega⟩
theorem wk_first {slots : List (Option Rw)} {outs : List Int} {b : Int} (wf : WfB b slots outs) {n : Nat} {z : Int} (hz : outs[n]? = some z) (h1 : 1 ≤ z) (hl : isLive slots n = true) : Wk slots (outs.set n (z - 1)) (s00 n) := by
  have hmu : FS.mu slots ⟨[], [], []⟩ ≤ 40 * 42 := left_nil_le wf.most wf.row
  exact (wk_zero wf).start rfl rfl hz h1 hl (by show 0 + 2 * FS.mu slots ⟨[], [], []⟩ ≤ 89000; omega)


/-! ### a run behind a log is a run of what that log leaves -/
section
variable {slots : List (Option Rw)} {outs : List Int} {lim : Int}
theorem rowOf_after {L : List Nat} {h : Nat} (hh : h < slots.length) : rowOf (afterS slots L) h = if h ∈ L then [] else rowOf slots h := by
  unfold rowOf afterS
  rw [List.getElem?_map, List.getElem?_range hh]
  simp only [Option.map_some, Option.getD_some]
  by_cases e : h ∈ L
  · rw [if_pos e, if_pos e]
    rfl
  · rw [if_neg e, if_neg e]
theorem cntH_after (L l : List Nat) (m : Nat) : cntH (afterS slots L) l m = cntH slots (L ++ l) m := by
  unfold cntH
  rw [afterS_len]
  congr 1
  refine List.map_congr_left fun h hh => ?_
  rw [rowOf_after (List.mem_range.mp hh)]
  by_cases e1 : h ∈ L
  · simp [e1]
  · by_cases e2 : h ∈ l
    · simp [e2]
    · simp [e1, e2]
theorem tal_after (L l : List Nat) (rest : List Pd) (m : Nat) : tal (afterS slots L) outs l rest m = tal slots outs (L ++ l) rest m := by
  unfold tal
  rw [cntH_after]
theorem kids_after {L : List Nat} {n d : Nat} (hn : n < slots.length) (h : n ∉ L) : kids (afterS slots L) n d = kids slots n d := by
  unfold kids
  rw [rowOf_after hn, if_neg h]
theorem sim_step {p : List Pd} {sh : List Nat} {E e : List Ev} {s' : FS} (wk : Wk slots outs ⟨p, sh, E ++ e⟩) (h : stepF slots outs lim ⟨p, sh, E ++ e⟩ = some s') :
    ∃ e', s'.evs = E ++ e' ∧ stepF (afterS slots (FS.log ⟨[], [], E⟩)) outs lim ⟨p, sh, e⟩ = some ⟨s'.pend, s'.shelf, e'⟩ := by
  have hlog : FS.log ⟨p, sh, E ++ e⟩ = FS.log ⟨[], [], E⟩ ++ FS.log ⟨p, sh, e⟩ := by
    unfold FS.log
    exact List.filterMap_append
  unfold stepF at h ⊢
  cases p with
  | nil =>
    simp only at h ⊢
    cases hs : sh.getLast? with
    | none => rw [hs] at h; cases h
    | some n =>
      rw [hs] at h
      cases Option.some.inj h
      have hsp : sh = sh.dropLast ++ [n] := by
        obtain ⟨ys, hy⟩ := List.getLast?_eq_some_iff.mp hs
        rw [hy, List.dropLast_concat]
      have hm : n ∈ FS.log ⟨[], sh, E ++ e⟩ ++ sh := List.mem_append_right _ (List.mem_of_getLast? hs)
      obtain ⟨_, _, hlt⟩ := live_lt (wk.ok.lv n hm)
      have hnd : (FS.log ⟨[], sh, E ++ e⟩ ++ sh).Nodup := wk.ok.nd
      have hnl : n ∉ FS.log ⟨[], [], E⟩ := fun hh => (List.nodup_append.mp hnd).2.2 n (by rw [hlog]; exact List.mem_append_left _ hh) n (List.mem_of_getLast? hs) rfl
      refine ⟨e ++ [.take n sh.dropLast.length, .destroy n 0], List.append_assoc _ _ _, ?_⟩
      simp only
      rw [kids_after hlt hnl]
  | cons q rest =>
    have hnew := wk.ok.new wk.ho rfl
    have hl := wk.ok.pl q List.mem_cons_self
    obtain ⟨_, _, hlt⟩ := live_lt hl
    have hnl : q.node ∉ FS.log ⟨[], [], E⟩ := fun hh => hnew (List.mem_append_left _ (by rw [hlog]; exact List.mem_append_left _ hh))
    simp only at h ⊢
    rw [show FS.log ⟨q :: rest, sh, e⟩ = FS.log ⟨[], [], e⟩ from rfl, tal_after]
    rw [hlog] at h
    rw [show FS.log ⟨q :: rest, sh, e⟩ = FS.log ⟨[], [], e⟩ from rfl] at h
    by_cases h0 : 0 < tal slots outs (FS.log ⟨[], [], E⟩ ++ FS.log ⟨[], [], e⟩) rest q.node
    · rw [if_pos h0] at h ⊢
      cases Option.some.inj h
      exact ⟨_, List.append_assoc _ _ _, rfl⟩
    · rw [if_neg h0] at h ⊢
      by_cases hd : (q.depth : Int) < lim
      · rw [if_pos hd] at h ⊢
        cases Option.some.inj h
        refine ⟨_, List.append_assoc _ _ _, ?_⟩
        rw [kids_after hlt hnl]
      · rw [if_neg hd] at h ⊢
        cases Option.some.inj h
        exact ⟨_, List.append_assoc _ _ _, rfl⟩
theorem sim_steps {p : List Pd} {sh : List Nat} {E : List Ev} (wk : Wk slots outs ⟨p, sh, E⟩) {s' : FS} (h : Steps slots outs lim ⟨p, sh, E⟩ s') :
    ∃ e', s'.evs = E ++ e' ∧ Steps (afterS slots (FS.log ⟨[], [], E⟩)) outs lim ⟨p, sh, []⟩ ⟨s'.pend, s'.shelf, e'⟩ ∧ Wk slots outs s' := by
  obtain ⟨n, hn⟩ := h
  induction n generalizing s' with
  | zero =>
    cases Option.some.inj (hn : some _ = some s')
    exact ⟨[], (List.append_nil _).symm, .refl _, wk⟩
  | succ n ih =>
    have hn : (run slots outs lim n ⟨p, sh, E⟩).bind (stepF slots outs lim) = some s' := hn
    cases er : run slots outs lim n ⟨p, sh, E⟩ with
    | none => rw [er] at hn; cases hn
    | some v =>
      rw [er] at hn
      obtain ⟨e1, h1, h2, h3⟩ := ih er
      have hv : v = ⟨v.pend, v.shelf, E ++ e1⟩ := by
        cases v
        simp only at h1
        rw [h1]
      rw [hv] at hn h3
      obtain ⟨e2, g1, g2⟩ := sim_step h3 hn
      exact ⟨e2, g1, h2.tail g2, h3.step hn⟩
/-- what a whole drop leaves is a heap -/
theorem wf_after {b : Int} (wf : WfB b slots outs) {outs' : List Int} {s : FS} (wk : Wk slots outs' s) (hp : s.pend = []) (hol : outs'.length = slots.length) (hb : ∀ z ∈ outs', z ≤ b) (hfr : ∀ m : Nat, slots[m]? = some none → outs'[m]? = some 0) : WfB b (afterS slots s.log) outs' := by
  have hz : ∀ n ∈ s.log, tal slots outs' s.log [] n = 0 := fun n hn => by
    have := wk.ok.z n (List.mem_append_left _ hn)
    rwa [hp] at this
  have hcnt : ∀ n ∈ s.log, (outs'[n]?).getD 0 = 0 ∧ cntH slots s.log n = 0 := fun n hn => by
    have h1 := hz n hn
    have h2 : 0 ≤ (outs'[n]?).getD 0 := by
      cases e : outs'[n]? with
      | none => exact Int.le_refl 0
      | some z => exact wk.ho z (List.mem_of_getElem? e)
    unfold tal at h1
    rw [show pendC [] n = 0 from rfl] at h1
    omega
  have hat : ∀ i : Nat, i < slots.length → (afterS slots s.log)[i]? = some (if i ∈ s.log then none else (slots[i]?).getD none) := fun i hi => by
    unfold afterS
    rw [List.getElem?_map, List.getElem?_range hi]
    rfl
  have hrow : ∀ row, some row ∈ afterS slots s.log → ∃ i, i < slots.length ∧ i ∉ s.log ∧ slots[i]? = some (some row) := fun row hr => by
    obtain ⟨i, hi, e⟩ := List.mem_map.mp (show some row ∈ (List.range slots.length).map _ from hr)
    have hi2 := List.mem_range.mp hi
    by_cases hl : i ∈ s.log
    · rw [if_pos hl] at e
      cases e
    · rw [if_neg hl, List.getElem?_eq_getElem hi2] at e
      exact ⟨i, hi2, hl, by rw [List.getElem?_eq_getElem hi2]; exact congrArg some e⟩
  refine ⟨by rw [afterS_len]; exact hol, by rw [afterS_len]; exact wf.most, fun m hm => ?_, fun z hz => ⟨wk.ho z hz, hb z hz⟩, fun row hr => ?_, fun row hr k hk => ?_⟩
  · have hml : m < slots.length := by
      have := (List.getElem?_eq_some_iff.mp hm).1
      rwa [afterS_len] at this
    rw [hat m hml] at hm
    by_cases hl : m ∈ s.log
    · have h1 := (hcnt m hl).1
      rw [List.getElem?_eq_getElem (by omega)] at h1 ⊢
      exact congrArg some h1
    · rw [if_neg hl, List.getElem?_eq_getElem hml] at hm
      exact hfr m (by rw [List.getElem?_eq_getElem hml]; exact hm)
  · obtain ⟨i, _, _, e⟩ := hrow row hr
    exact wf.row row (List.mem_of_getElem? e)
  · obtain ⟨i, hi, hil, e⟩ := hrow row hr
    obtain ⟨r, er⟩ := wf.live row (List.mem_of_getElem? e) k hk
    have hkl := (List.getElem?_eq_some_iff.mp er).1
    have hkn : k ∉ s.log := fun hkm => by
      have h2 := (hcnt k hkm).2
      unfold cntH at h2
      have h3 : (if i ∈ s.log then 0 else (rowOf slots i).count (some k)) = 0 := List.sum_eq_zero_iff_forall_eq_nat.mp h2 _ (List.mem_map.mpr ⟨i, List.mem_range.mpr hi, rfl⟩)
      rw [if_neg hil, rowOf_some e] at h3
      exact (List.count_eq_zero.mp h3) hk
    exact ⟨r, by rw [hat k hkl, if_neg hkn, er]; rfl⟩
end

/-! ### which nodes are destroyed, and after which -/
section
variable {slots : List (Option Rw)} {outs : List Int} {lim : Int} {spot : Nat}
/-- a node that something lets go of -/
def Let (slots : List (Option Rw)) (spot p : Nat) : Prop := p = spot ∨ ∃ h, h < slots.length ∧ some p ∈ rowOf slots h
def filled (slots : List (Option Rw)) (n : Nat) : Nat := (rowOf slots n).countP Option.isSome
def isRel : Ev → Bool
  | .release _ _ _ _ => true
  | _ => false
structure LI (slots : List (Option Rw)) (outs : List Int) (spot : Nat) (s : FS) : Prop where
  t : ∀ p, isLive slots p = true → Let slots spot p → p ∉ s.log ++ s.shelf → 1 ≤ tal slots outs s.log s.pend p
  j : ∀ (i p : Nat), s.log[i]? = some p → (outs[p]?).getD 0 = 0 ∧ (∀ h, h < slots.length → some p ∈ rowOf slots h → h ∈ s.log.take i) ∧ Let slots spot p
  q : ∀ p ∈ s.pend, Let slots spot p.node
  q2 : ∀ n ∈ s.shelf, Let slots spot n
  c : s.evs.countP isRel + s.pend.length = 1 + (s.log.map (filled slots)).sum
theorem kidsAt_filled (n d : Nat) : ∀ (r : Rw) (j : Nat), (kidsAt n d j r).length = r.countP Option.isSome
  | [], _ => rfl
  | none :: r, j => by
    show (kidsAt n d (j + 1) r).length = _
    rw [kidsAt_filled n d r (j + 1), List.countP_cons]
    rfl
  | some k :: r, j => by
    show (kidsAt n d (j + 1) r).length + 1 = _
    rw [kidsAt_filled n d r (j + 1), List.countP_cons]
    rfl
theorem cntH_zero {log : List Nat} {p : Nat} (h : cntH slots log p = 0) : ∀ h, h < slots.length → some p ∈ rowOf slots h → h ∈ log := by
  intro a ha hm
  by_cases hl : a ∈ log
  · exact hl
  · unfold cntH at h
    have h2 : (if a ∈ log then 0 else (rowOf slots a).count (some p)) = 0 := List.sum_eq_zero_iff_forall_eq_nat.mp h _ (List.mem_map.mpr ⟨a, List.mem_range.mpr ha, rfl⟩)
    rw [if_neg hl] at h2
    exact absurd hm (List.count_eq_zero.mp h2)
theorem tal_zero {log : List Nat} {pend : List Pd} {p : Nat} (ho : ∀ z ∈ outs, 0 ≤ z) (h : tal slots outs log pend p = 0) : (outs[p]?).getD 0 = 0 ∧ cntH slots log p = 0 := by
  have h2 : 0 ≤ (outs[p]?).getD 0 := by
    cases e : outs[p]? with
    | none => exact Int.le_refl 0
    | some z => exact ho z (List.mem_of_getElem? e)
  unfold tal at h
  omega
theorem j_snoc {log : List Nat} {n : Nat} (hj : ∀ (i p : Nat), log[i]? = some p → (outs[p]?).getD 0 = 0 ∧ (∀ h, h < slots.length → some p ∈ rowOf slots h → h ∈ log.take i) ∧ Let slots spot p)
    (hn : (outs[n]?).getD 0 = 0 ∧ (∀ h, h < slots.length → some n ∈ rowOf slots h → h ∈ log) ∧ Let slots spot n) :
    ∀ (i p : Nat), (log ++ [n])[i]? = some p → (outs[p]?).getD 0 = 0 ∧ (∀ h, h < slots.length → some p ∈ rowOf slots h → h ∈ (log ++ [n]).take i) ∧ Let slots spot p := by
  intro i p h
  by_cases hi : i < log.length
  · rw [List.getElem?_append_left hi] at h
    rw [List.take_append_of_le_length (Nat.le_of_lt hi)]
    exact hj i p h
  · rw [List.getElem?_append_right (by omega)] at h
    have h0 : i = log.length := by
      have := (List.getElem?_eq_some_iff.mp h).1
      have e : [n].length = 1 := rfl
      omega
    subst h0
    rw [Nat.sub_self] at h
    cases Option.some.inj (h : some n = some p)
    rw [List.take_append_of_le_length (Nat.le_refl _), List.take_length]
    exact hn
theorem kids_let {n d : Nat} (hn : n < slots.length) : ∀ p ∈ kids slots n d, Let slots spot p.node := fun p hp => .inr ⟨n, hn, kidsAt_mem hp⟩
theorem LI.step {s s' : FS} (l : LI slots outs spot s) (wk : Wk slots outs s) (e : stepF slots outs lim s = some s') : LI slots outs spot s' := by
  cases hp : s.pend with
  | nil =>
    unfold stepF at e
    rw [hp] at e
    simp only at e
    cases hs : s.shelf.getLast? with
    | none => rw [hs] at e; cases e
    | some n =>
      rw [hs] at e
      cases Option.some.inj e
      have hsp : s.shelf = s.shelf.dropLast ++ [n] := by
        obtain ⟨ys, hy⟩ := List.getLast?_eq_some_iff.mp hs
        rw [hy, List.dropLast_concat]
      have hlog : FS.log ⟨kids slots n 1, s.shelf.dropLast, s.evs ++ [.take n s.shelf.dropLast.length, .destroy n 0]⟩ = s.log ++ [n] := by
        unfold FS.log
        rw [List.filterMap_append]
        rfl
      have hmem : n ∈ s.log ++ s.shelf := by rw [hsp]; simp
      obtain ⟨_, _, hlt⟩ := live_lt (wk.ok.lv n hmem)
      have hnd := wk.ok.nd
      rw [hsp] at hnd
      have hnl : n ∉ s.log := fun h => (List.nodup_append.mp hnd).2.2 n h n (by simp) rfl
      have hz := tal_zero wk.ho (wk.ok.z n hmem)
      refine ⟨fun p hl hle hn => ?_, ?_, kids_let hlt, fun m hm => l.q2 m (by rw [hsp]; exact List.mem_append_left _ hm), ?_⟩
      · rw [hlog] at hn ⊢
        have h1 := l.t p hl hle (fun h => hn (by
          rw [hsp] at h
          simp only [List.mem_append, List.mem_singleton] at h ⊢
          rcases h with h | h | h
          · exact .inl (.inl h)
          · exact .inr h
          · exact .inl (.inr h)))
        have h2 := tal_dead (slots := slots) (outs := outs) hlt hnl 1 [] p
        rw [List.append_nil] at h2
        show 1 ≤ tal slots outs (s.log ++ [n]) (kids slots n 1) p
        rw [h2, ← hp]
        exact h1
      · rw [hlog]
        exact j_snoc l.j ⟨hz.1, cntH_zero hz.2, l.q2 n (List.mem_of_getLast? hs)⟩
      · have hc := l.c
        rw [hp] at hc
        rw [hlog]
        show (s.evs ++ [Ev.take n s.shelf.dropLast.length, .destroy n 0]).countP isRel + (kids slots n 1).length = _
        rw [List.countP_append, List.map_append, List.sum_append]
        show s.evs.countP isRel + 0 + (kids slots n 1).length = 1 + ((s.log.map (filled slots)).sum + (filled slots n + 0))
        unfold kids filled
        rw [kidsAt_filled]
        have : ([] : List Pd).length = 0 := rfl
        unfold filled at hc
        omega
  | cons p rest =>
    have hn := wk.ok.new wk.ho hp
    have hl := wk.ok.pl p (by rw [hp]; exact List.mem_cons_self)
    obtain ⟨_, _, hlt⟩ := live_lt hl
    have hnl : p.node ∉ s.log := fun h => hn (List.mem_append_left _ h)
    have hrest : ∀ q ∈ rest, Let slots spot q.node := fun q hq => l.q q (by rw [hp]; exact List.mem_cons_of_mem _ hq)
    have hpl := l.q p (by rw [hp]; exact List.mem_cons_self)
    have ht : ∀ m, m ≠ p.node → tal slots outs s.log rest m = tal slots outs s.log s.pend m := fun m hm => by rw [hp]; exact tal_pop_other _ _ _ _ _ hm
    have hc := l.c
    rw [hp, List.length_cons] at hc
    have hge : 0 ≤ tal slots outs s.log rest p.node := by
      have := tal_nonneg (slots := slots) wk.ho s.log rest p.node
      omega
    unfold stepF at e
    rw [hp] at e
    simp only at e
    by_cases h0 : 0 < tal slots outs s.log rest p.node
    · rw [if_pos h0] at e
      cases Option.some.inj e
      have hlog : FS.log ⟨rest, s.shelf, s.evs ++ [.release p.holder p.slot p.node (tal slots outs s.log rest p.node)]⟩ = s.log := by
        unfold FS.log
        rw [List.filterMap_append]
        exact List.append_nil _
      refine ⟨fun m hlm hle hnm => ?_, by rw [hlog]; exact l.j, hrest, l.q2, ?_⟩
      · rw [hlog] at hnm ⊢
        show 1 ≤ tal slots outs s.log rest m
        by_cases hm : m = p.node
        · rw [hm]
          omega
        · rw [ht m hm]
          exact l.t m hlm hle hnm
      · rw [hlog]
        show (s.evs ++ [Ev.release p.holder p.slot p.node _]).countP isRel + rest.length = _
        rw [List.countP_append]
        show s.evs.countP isRel + 1 + rest.length = _
        omega
    · rw [if_neg h0] at e
      have hzero : tal slots outs s.log rest p.node = 0 := by omega
      have hz := tal_zero wk.ho hzero
      by_cases hd : (p.depth : Int) < lim
      · rw [if_pos hd] at e
        cases Option.some.inj e
        have hlog : FS.log ⟨kids slots p.node (p.depth + 1) ++ rest, s.shelf, s.evs ++ [.release p.holder p.slot p.node (tal slots outs s.log rest p.node), .destroy p.node p.depth]⟩ = s.log ++ [p.node] := by
          unfold FS.log
          rw [List.filterMap_append]
          rfl
        refine ⟨fun m hlm hle hnm => ?_, by rw [hlog]; exact j_snoc l.j ⟨hz.1, cntH_zero hz.2, hpl⟩, fun q hq => ?_, l.q2, ?_⟩
        · rw [hlog] at hnm ⊢
          show 1 ≤ tal slots outs (s.log ++ [p.node]) (kids slots p.node (p.depth + 1) ++ rest) m
          rw [tal_dead hlt hnl]
          have hm : m ≠ p.node := fun h => hnm (by rw [h]; simp)
          rw [ht m hm]
          exact l.t m hlm hle (fun h => hnm (by
            simp only [List.mem_append, List.mem_singleton] at h ⊢
            rcases h with h | h
            · exact .inl (.inl h)
            · exact .inr h))
        · rcases List.mem_append.mp hq with hq | hq
          · exact kids_let hlt q hq
          · exact hrest q hq
        · rw [hlog]
          show (s.evs ++ [Ev.release p.holder p.slot p.node _, .destroy p.node p.depth]).countP isRel + (kids slots p.node (p.depth + 1) ++ rest).length = _
          rw [List.countP_append, List.map_append, List.sum_append, List.length_append]
          show s.evs.countP isRel + 1 + ((kids slots p.node (p.depth + 1)).length + rest.length) = 1 + ((s.log.map (filled slots)).sum + (filled slots p.node + 0))
          unfold kids filled
          rw [kidsAt_filled]
          unfold filled at hc
          omega
      · rw [if_neg hd] at e
        cases Option.some.inj e
        have hlog : FS.log ⟨rest, s.shelf ++ [p.node], s.evs ++ [.release p.holder p.slot p.node (tal slots outs s.log rest p.node), .shelve p.node (s.shelf.length + 1)]⟩ = s.log := by
          unfold FS.log
          rw [List.filterMap_append]
          exact List.append_nil _
        refine ⟨fun m hlm hle hnm => ?_, by rw [hlog]; exact l.j, hrest, fun n hnm => ?_, ?_⟩
        · rw [hlog] at hnm ⊢
          show 1 ≤ tal slots outs s.log rest m
          have hm : m ≠ p.node := fun h => hnm (by rw [h]; simp)
          rw [ht m hm]
          exact l.t m hlm hle (fun h => hnm (by
            simp only [List.mem_append, List.mem_singleton] at h ⊢
            rcases h with h | h
            · exact .inl h
            · exact .inr (.inl h)))
        · rcases List.mem_append.mp hnm with hnm | hnm
          · exact l.q2 n hnm
          · rw [List.mem_singleton.mp hnm]
            exact hpl
        · rw [hlog]
          show (s.evs ++ [Ev.release p.holder p.slot p.node _, .shelve p.node (s.shelf.length + 1)]).countP isRel + rest.length = _
          rw [List.countP_append]
          show s.evs.countP isRel + 1 + rest.length = _
          omega
theorem LI.steps {s s' : FS} (l : LI slots outs spot s) (wk : Wk slots outs s) (h : Steps slots outs lim s s') : LI slots outs spot s' := by
  obtain ⟨n, hn⟩ := h
  have key : ∀ (n : Nat) (s' : FS), run slots outs lim n s = some s' → Wk slots outs s' ∧ LI slots outs spot s' := by
    intro n
    induction n with
    | zero => intro s' e; cases Option.some.inj (e : some s = some s'); exact ⟨wk, l⟩
    | succ n ih =>
      intro s' e
      have e : (run slots outs lim n s).bind (stepF slots outs lim) = some s' := e
      cases er : run slots outs lim n s with
      | none => rw [er] at e; cases e
      | some v =>
        rw [er] at e
        obtain ⟨w1, w2⟩ := ih v er
        exact ⟨w1.step e, w2.step w1 e⟩
  exact (key n s' hn).2
theorem li_first (ho : ∀ z ∈ outs, 0 ≤ z) : LI slots outs spot (s00 spot) := by
  refine ⟨fun p hl hle hn => ?_, fun i p h => ?_, fun p hp => ?_, fun n hn => (by cases hn), rfl⟩
  · show 1 ≤ tal slots outs [] [⟨none, none, spot, 0⟩] p
    have h2 : 0 ≤ (outs[p]?).getD 0 := by
      cases e : outs[p]? with
      | none => exact Int.le_refl 0
      | some z => exact ho z (List.mem_of_getElem? e)
    unfold tal
    rw [pendC_cons]
    rcases hle with h | ⟨h, hh, hm⟩
    · subst h
      simp only [if_true]
      omega
    · have : 1 ≤ cntH slots [] p := by
        rcases Nat.eq_zero_or_pos (cntH slots [] p) with h0 | h0
        · exact absurd (cntH_zero h0 h hh hm) (by simp)
        · exact h0
      omega
  · have hz : (s00 spot).log = [] := rfl
    rw [hz] at h
    cases h
  · rw [List.mem_singleton.mp hp]
    exact .inl rfl
/-- what is let go and held by destroyed nodes only is destroyed -/
theorem lost_in {s' : FS} (l : LI slots outs spot s') (hp : s'.pend = []) (he : s'.shelf = []) {p : Nat} (hl : isLive slots p = true) (hle : Let slots spot p) (h0 : (outs[p]?).getD 0 = 0) (hh : ∀ h, h < slots.length → some p ∈ rowOf slots h → h ∈ s'.log) : p ∈ s'.log := by
  by_cases hm : p ∈ s'.log
  · exact hm
  · have h1 := l.t p hl hle (by rw [he, List.append_nil]; exact hm)
    rw [hp] at h1
    have h2 : cntH slots s'.log p = 0 := by
      unfold cntH
      refine List.sum_eq_zero_iff_forall_eq_nat.mpr fun x hx => ?_
      obtain ⟨a, ha, rfl⟩ := List.mem_map.mp hx
      by_cases hal : a ∈ s'.log
      · exact if_pos hal
      · rw [if_neg hal]
        exact List.count_eq_zero.mpr fun hc => hal (hh a (List.mem_range.mp ha) hc)
    unfold tal at h1
    rw [h0, h2, show pendC [] p = 0 from rfl] at h1
    omega
end

section
variable {slots : List (Option Rw)} {outs : List Int} {lim : Int}
/-- gone, or counted still -/
def TPs (slots : List (Option Rw)) (outs : List Int) (p : Nat) (s : FS) : Prop := p ∈ s.log ++ s.shelf ∨ 1 ≤ tal slots outs s.log s.pend p
theorem TPs.step {p : Nat} {s s' : FS} (wk : Wk slots outs s) (e : stepF slots outs lim s = some s') (h : TPs slots outs p s) : TPs slots outs p s' := by
  cases hp : s.pend with
  | nil =>
    unfold stepF at e
    rw [hp] at e
    simp only at e
    cases hs : s.shelf.getLast? with
    | none => rw [hs] at e; cases e
    | some n =>
      rw [hs] at e
      cases Option.some.inj e
      have hsp : s.shelf = s.shelf.dropLast ++ [n] := by
        obtain ⟨ys, hy⟩ := List.getLast?_eq_some_iff.mp hs
        rw [hy, List.dropLast_concat]
      have hlog : FS.log ⟨kids slots n 1, s.shelf.dropLast, s.evs ++ [.take n s.shelf.dropLast.length, .destroy n 0]⟩ = s.log ++ [n] := by
        unfold FS.log
        rw [List.filterMap_append]
        rfl
      have hmem : n ∈ s.log ++ s.shelf := by rw [hsp]; simp
      obtain ⟨_, _, hlt⟩ := live_lt (wk.ok.lv n hmem)
      have hnd := wk.ok.nd
      rw [hsp] at hnd
      have hnl : n ∉ s.log := fun h => (List.nodup_append.mp hnd).2.2 n h n (by simp) rfl
      rcases h with h | h
      · left
        rw [hlog]
        rw [hsp] at h
        show p ∈ (s.log ++ [n]) ++ s.shelf.dropLast
        simp only [List.mem_append, List.mem_singleton] at h ⊢
        rcases h with h | h | h
        · exact .inl (.inl h)
        · exact .inr h
        · exact .inl (.inr h)
      · right
        rw [hlog]
        have h2 := tal_dead (slots := slots) (outs := outs) hlt hnl 1 [] p
        rw [List.append_nil] at h2
        show 1 ≤ tal slots outs (s.log ++ [n]) (kids slots n 1) p
        rw [h2, ← hp]
        exact h
  | cons q rest =>
    have hl := wk.ok.pl q (by rw [hp]; exact List.mem_cons_self)
    obtain ⟨_, _, hlt⟩ := live_lt hl
    have hn := wk.ok.new wk.ho hp
    have hnl : q.node ∉ s.log := fun h => hn (List.mem_append_left _ h)
    have ht : ∀ m, m ≠ q.node → tal slots outs s.log rest m = tal slots outs s.log s.pend m := fun m hm => by rw [hp]; exact tal_pop_other _ _ _ _ _ hm
    unfold stepF at e
    rw [hp] at e
    simp only at e
    by_cases h0 : 0 < tal slots outs s.log rest q.node
    · rw [if_pos h0] at e
      cases Option.some.inj e
      have hlog : FS.log ⟨rest, s.shelf, s.evs ++ [.release q.holder q.slot q.node (tal slots outs s.log rest q.node)]⟩ = s.log := by
        unfold FS.log
        rw [List.filterMap_append]
        exact List.append_nil _
      rcases h with h | h
      · left
        rw [hlog]
        exact h
      · right
        rw [hlog]
        show 1 ≤ tal slots outs s.log rest p
        by_cases hm : p = q.node
        · rw [hm]
          omega
        · rw [ht p hm]
          exact h
    · rw [if_neg h0] at e
      by_cases hd : (q.depth : Int) < lim
      · rw [if_pos hd] at e
        cases Option.some.inj e
        have hlog : FS.log ⟨kids slots q.node (q.depth + 1) ++ rest, s.shelf, s.evs ++ [.release q.holder q.slot q.node (tal slots outs s.log rest q.node), .destroy q.node q.depth]⟩ = s.log ++ [q.node] := by
          unfold FS.log
          rw [List.filterMap_append]
          rfl
        by_cases hm : p = q.node
        · left
          rw [hlog, hm]
          simp
        · rcases h with h | h
          · left
            rw [hlog]
            show p ∈ (s.log ++ [q.node]) ++ s.shelf
            simp only [List.mem_append, List.mem_singleton] at h ⊢
            rcases h with h | h
            · exact .inl (.inl h)
            · exact .inr h
          · right
            rw [hlog]
            show 1 ≤ tal slots outs (s.log ++ [q.node]) (kids slots q.node (q.depth + 1) ++ rest) p
            rw [tal_dead hlt hnl, ht p hm]
            exact h
      · rw [if_neg hd] at e
        cases Option.some.inj e
        have hlog : FS.log ⟨rest, s.shelf ++ [q.node], s.evs ++ [.release q.holder q.slot q.node (tal slots outs s.log rest q.node), .shelve q.node (s.shelf.length + 1)]⟩ = s.log := by
          unfold FS.log
          rw [List.filterMap_append]
          exact List.append_nil _
        by_cases hm : p = q.node
        · left
          rw [hlog, hm]
          show q.node ∈ s.log ++ (s.shelf ++ [q.node])
          simp
        · rcases h with h | h
          · left
            rw [hlog]
            show p ∈ s.log ++ (s.shelf ++ [q.node])
            simp only [List.mem_append, List.mem_singleton] at h ⊢
            rcases h with h | h
            · exact .inl h
            · exact .inr (.inl h)
          · right
            rw [hlog]
            show 1 ≤ tal slots outs s.log rest p
            rw [ht p hm]
            exact h
theorem TPs.steps {p : Nat} {s s' : FS} (wk : Wk slots outs s) (h : Steps slots outs lim s s') (t : TPs slots outs p s) : TPs slots outs p s' ∧ Wk slots outs s' := by
  obtain ⟨n, hn⟩ := h
  have key : ∀ (n : Nat) (s' : FS), run slots outs lim n s = some s' → Wk slots outs s' ∧ TPs slots outs p s' := by
    intro n
    induction n with
    | zero => intro s' e; cases Option.some.inj (e : some s = some s'); exact ⟨wk, t⟩
    | succ n ih =>
      intro s' e
      have e : (run slots outs lim n s).bind (stepF slots outs lim) = some s' := e
      cases er : run slots outs lim n s with
      | none => rw [er] at e; cases e
      | some v =>
        rw [er] at e
        obtain ⟨w1, w2⟩ := ih v er
        exact ⟨w1.step e, w2.step w1 e⟩
  exact ⟨(key n s' hn).2, (key n s' hn).1⟩
theorem wk_of_steps {s s' : FS} (wk : Wk slots outs s) (h : Steps slots outs lim s s') : Wk slots outs s' := by
  have := TPs.steps (p := 0) (s := s) (s' := s') wk h
  obtain ⟨n, hn⟩ := h
  have key : ∀ (n : Nat) (s' : FS), run slots outs lim n s = some s' → Wk slots outs s' := by
    intro n
    induction n with
    | zero => intro s' e; cases Option.some.inj (e : some s = some s'); exact wk
    | succ n ih =>
      intro s' e
      have e : (run slots outs lim n s).bind (stepF slots outs lim) = some s' := e
      cases er : run slots outs lim n s with
      | none => rw [er] at e; cases e
      | some v =>
        rw [er] at e
        exact (ih v er).step e
  exact key n s' hn
/-- counted in a heap as it is -/
theorem tal_here (S : List (Option Rw)) (L : List Nat) (p : Nat) : tal (afterS S L) outs [] [] p = tal S outs L [] p := by
  rw [tal_after, List.append_nil]
theorem after_live (S : List (Option Rw)) (L : List Nat) (m : Nat) : isLive (afterS S L) m = true ↔ isLive S m = true ∧ m ∉ L := by
  unfold isLive afterS
  rw [List.getElem?_map]
  by_cases hm : m < S.length
  · rw [List.getElem?_range hm]
    simp only [Option.map_some, Option.getD_some]
    by_cases e : m ∈ L
    · simp [e]
    · simp [e]
  · rw [List.getElem?_eq_none (by rw [List.length_range]; omega), List.getElem?_eq_none (by omega)]
    simp
/-- a drop from a heap as it is -/
theorem drop_keeps {S : List (Option Rw)} {o1 : List Int} {b : Int} (wf : WfB b S o1) {k : Nat} {e : List Ev} (wk : Wk S o1 ⟨[⟨none, none, k, 0⟩], [], []⟩) (h : Steps S o1 lim ⟨[⟨none, none, k, 0⟩], [], []⟩ ⟨[], [], e⟩) :
    WfB b (afterS S (FS.log ⟨[], [], e⟩)) o1 ∧ Wk S o1 ⟨[], [], e⟩ ∧ ∀ p, 1 ≤ tal S o1 [] [⟨none, none, k, 0⟩] p → p ∈ FS.log ⟨[], [], e⟩ ∨ 1 ≤ tal S o1 (FS.log ⟨[], [], e⟩) [] p := by
  have wk2 := wk_of_steps wk h
  refine ⟨wf_after wf wk2 rfl wf.len (fun z hz => (wf.outs z hz).2) (fun m hm => wf.free m hm), wk2, fun p hp => ?_⟩
  rcases (TPs.steps (p := p) wk h (.inr hp)).1 with h | h
  · left
    rwa [show FS.log ⟨[], [], e⟩ ++ [] = FS.log ⟨[], [], e⟩ from List.append_nil _] at h
  · exact .inr h
theorem wk_live {S : List (Option Rw)} {o1 : List Int} {s : FS} (wk : Wk S o1 s) : ∀ n ∈ s.log, isLive S n = true := fun n hn => wk.ok.lv n (List.mem_append_left _ hn)

theorem first_spot {spot : Nat} {s' : FS} (l : LI slots outs spot s') {p : Nat} (h : s'.log[0]? = some p) : p = spot := by
  obtain ⟨_, h2, h3⟩ := l.j 0 p h
  rcases h3 with h3 | ⟨a, ha, hm⟩
  · exact h3
  · exact absurd (h2 a ha hm) (by simp)
theorem cntH_pos {S : List (Option Rw)} {log : List Nat} {p : Nat} (h : cntH S log p ≠ 0) : ∃ a, a < S.length ∧ a ∉ log ∧ some p ∈ rowOf S a := by
  by_cases hx : ∃ a, a < S.length ∧ a ∉ log ∧ some p ∈ rowOf S a
  · exact hx
  · refine absurd (List.sum_eq_zero_iff_forall_eq_nat.mpr fun x hm => ?_) h
    obtain ⟨a, ha, rfl⟩ := List.mem_map.mp hm
    by_cases hl : a ∈ log
    · exact if_pos hl
    · rw [if_neg hl]
      exact List.count_eq_zero.mpr fun hc => hx ⟨a, List.mem_range.mp ha, hl, hc⟩
theorem row_of_mem {S : List (Option Rw)} {a p : Nat} (h : some p ∈ rowOf S a) : ∃ row, S[a]? = some (some row) ∧ some p ∈ row := by
  unfold rowOf at h
  cases e : S[a]? with
  | none => rw [e] at h; simp at h
  | some o =>
    cases o with
    | none => rw [e] at h; simp at h
    | some row => rw [e] at h; exact ⟨row, rfl, h⟩
theorem refd_tal {S : List (Option Rw)} {o1 : List Int} (ho : ∀ z ∈ o1, 0 ≤ z) : Refd S o1 ↔ ∀ p, isLive S p = true → 1 ≤ tal S o1 [] [] p := by
  have e0 : ∀ p, pendC [] p = 0 := fun _ => rfl
  constructor
  · intro h p hp
    have h0 : 0 ≤ (o1[p]?).getD 0 := by
      cases e : o1[p]? with
      | none => exact Int.le_refl 0
      | some z => exact ho z (List.mem_of_getElem? e)
    unfold tal
    rw [e0]
    rcases h p hp with h | ⟨a, row, ha, hm⟩
    · omega
    · have : cntH S [] p ≠ 0 := fun hz => absurd (cntH_zero hz a (List.getElem?_eq_some_iff.mp ha).1 (by rw [rowOf_some ha]; exact hm)) (by simp)
      omega
  · intro h p hp
    have h1 := h p hp
    unfold tal at h1
    rw [e0] at h1
    by_cases hc : cntH S [] p = 0
    · rw [hc] at h1
      exact .inl (by omega)
    · obtain ⟨a, ha, _, hm⟩ := cntH_pos hc
      obtain ⟨row, e, hm2⟩ := row_of_mem hm
      exact .inr ⟨a, row, e, hm2⟩
/-- what a whole drop leaves: a heap, all of it referred to -/
theorem drop_after {b : Int} (wf : WfB b slots outs) (rf : Refd slots outs) {n : Nat} {z : Int} (hz : outs[n]? = some z) (h1 : 1 ≤ z) (hl : isLive slots n = true) {s' : FS} (st : Steps slots (outs.set n (z - 1)) lim (s00 n) s') (hp : s'.pend = []) (he : s'.shelf = []) :
    WfB b (afterS slots s'.log) (outs.set n (z - 1)) ∧ Refd (afterS slots s'.log) (outs.set n (z - 1)) ∧ LI slots (outs.set n (z - 1)) n s' ∧ Wk slots (outs.set n (z - 1)) s' := by
  have wk0 := wk_first wf hz h1 hl
  have wk := wk_of_steps wk0 st
  have li := (li_first (spot := n) wk0.ho).steps wk0 st
  have hnl := (List.getElem?_eq_some_iff.mp hz).1
  have hb : ∀ y ∈ outs.set n (z - 1), y ≤ b := fun y hy => by
    rcases List.mem_or_eq_of_mem_set hy with hy | rfl
    · exact (wf.outs y hy).2
    · have := (wf.outs z (List.mem_of_getElem? hz)).2
      omega
  have hfr : ∀ m : Nat, slots[m]? = some none → (outs.set n (z - 1))[m]? = some 0 := fun m hm => by
    have h9 := wf.free m hm
    by_cases e : n = m
    · subst e
      unfold isLive at hl
      rw [hm] at hl
      cases hl
    · rw [List.getElem?_set_ne e]
      exact h9
  refine ⟨wf_after wf wk hp (by rw [List.length_set]; exact wf.len) hb hfr, (refd_tal wk.ho).mpr fun p hp2 => ?_, li, wk⟩
  obtain ⟨hps, hpl⟩ := (after_live _ _ p).mp hp2
  have ht : 1 ≤ tal slots (outs.set n (z - 1)) [] [⟨none, none, n, 0⟩] p := by
    have h9 := (refd_tal (fun y hy => (wf.outs y hy).1)).mp rf p hps
    unfold tal at h9 ⊢
    rw [pendC_cons]
    have e0 : pendC [] p = 0 := rfl
    rw [e0] at h9 ⊢
    by_cases e : n = p
    · subst e
      rw [List.getElem?_set_self hnl]
      rw [hz] at h9
      simp only [Option.getD_some, if_true] at h9 ⊢
      omega
    · rw [List.getElem?_set_ne e, if_neg e]
      omega
  have tp := (TPs.steps (p := p) wk0 st (.inr ht)).1
  rw [tal_here]
  rcases tp with h | h
  · rw [he, List.append_nil] at h
    exact absurd h hpl
  · rw [hp] at h
    exact h
end


section
variable {P : Program} {w : World} {K : PySem.W.Frag} {mg : Str → Option Value} {base : Heap}

def spIsIntD (K : PySem.W.Frag) : Sp := fun vs H Q _ => ∃ (v : V) (d : PyData), vs = [v] ∧ Dp K H v d ∧ Q (.bl (isI d)) H
theorem ok_isIntD {f : Addr} {fd : FuncData} (F : Fun K "is_integer" "is_integer" sIsInteger f fd) (T : Txt mg) : FnOk P w K mg base CX0 1 f fd ["value"] (spIsIntD K) := by
  refine F.ok scIsInteger (fun vs H Q E h => ?_) (fun cdv A outer s H vs Q E hr h => ?_)
  · obtain ⟨v, d, rfl, _⟩ := h
    rfl
  · obtain ⟨v, d, rfl, hd, k⟩ := h
    refine ⟨_, (pss_one (ps_ret (pe_and (pe_callB call_isi (by rfl) T.b_isinstance boot'_isinstance (pa_cons (pv 0) (pa_cons (pe_bltn (v := .ty "int") (by rfl) T.b_int boot'_int rfl) pa_nil))) (pe_one (pe_not (pe_callB call_isi (by rfl) T.b_isinstance boot'_isinstance (pa_cons (pv 0) (pa_cons (pe_bltn (v := .ty "bool") (by rfl) T.b_bool boot'_bool rfl) pa_nil)))))))), ?_⟩
    refine x_start (σ' := [some v]) rfl ?_
    try dsimp only [cxOf]
    have hd' := hd
    cases hd' <;>
    (repeat walk_at "rd"
     first
      | exact k
      | (refine x_isiDI hd ?_
         dsimp only [isIB, isI] at k ⊢
         repeat walk_at "rd"
         first
          | exact k
          | (refine x_isiDB hd ?_
             dsimp only [isB]
             repeat walk_at "rd"
             exact k)))
def btw (a b : Int) : PyData → Bool
  | .int i => decide (a ≤ i) && decide (i ≤ b)
  | _ => false
theorem btw_int (a b i : Int) : btw a b (.int i) = (decide (a ≤ i) && decide (i ≤ b)) := rfl
def spBtw (K : PySem.W.Frag) : Sp := fun vs H Q _ => ∃ (v : V) (d : PyData) (a b : Int), vs = [v, .int a, .int b] ∧ Dp K H v d ∧ Q (.bl (btw a b d)) H
theorem ok_btw {f : Addr} {fd : FuncData} (F : Fun K "is_between" "is_between" sIsBetween f fd) (T : Txt mg) (l_is_integer : Lo P w K mg base "is_integer" 1 ["value"] (spIsIntD K)) : FnOk P w K mg base CX0 2 f fd ["value", "low", "high"] (spBtw K) := by
  refine F.ok scIsBetween (fun vs H Q E h => ?_) (fun cdv A outer s H vs Q E hr h => ?_)
  · obtain ⟨v, d, a, b, rfl, _⟩ := h
    rfl
  · obtain ⟨v, d, a, b, rfl, hd, k⟩ := h
    refine ⟨_, (pss_one (ps_ret (pe_and (pe_lo l_is_integer (hr.mono (by decide)) (by rfl) (pa_cons (pv 0) pa_nil)) (pe_one (pe_chain op_le op_le (pv 1) (pv 0) (pv 2)))))), ?_⟩
    refine x_start (σ' := [some v, some (.int a), some (.int b)]) rfl ?_
    try dsimp only [cxOf]
    repeat walk_at "rd"
    refine ⟨v, d, rfl, hd, ?_⟩
    cases hd with
    | int i =>
      dsimp only [isI]
      repeat walk_at "rd"
      by_cases h1 : a ≤ i
      · refine iteP (decide_eq_true h1) ?_
        repeat walk_at "rd"
        rw [btw_int, decide_eq_true h1, Bool.true_and] at k
        exact k
      · refine iteN (decide_eq_false h1) ?_
        repeat walk_at "rd"
        rw [btw_int, decide_eq_false h1, Bool.false_and] at k
        exact k
    | _ =>
      dsimp only [isI]
      repeat walk_at "rd"
      exact k
/-- the data d is a live node -/
def liveD (slots : List (Option Rw)) : PyData → Bool
  | .int i => decide (0 ≤ i) && isLive slots i.toNat
  | _ => false
theorem liveD_int (slots : List (Option Rw)) (i : Int) : liveD slots (.int i) = (decide (0 ≤ i) && ((slots[i.toNat]?).getD none).isSome) := rfl
def spIsLiveD (K : PySem.W.Frag) : Sp := fun vs H Q _ => ∃ (D : Addr) (v : V) (d : PyData) (slots : List (Option Rw)) (outs : List Int), vs = [.ref D, v] ∧ HeapT K H D slots outs ∧ Dp K H v d ∧ Q (.bl (liveD slots d)) H
theorem ok_isLiveD {f : Addr} {fd : FuncData} (F : Fun K "is_live" "is_live" sIsLive f fd) (T : Txt mg) (l_is_between : Lo P w K mg base "is_between" 2 ["value", "low", "high"] (spBtw K)) : FnOk P w K mg base CX0 3 f fd ["heap", "value"] (spIsLiveD K) := by
  refine F.ok scIsLive (fun vs H Q E h => ?_) (fun cdv A outer s H vs Q E hr h => ?_)
  · obtain ⟨D, v, d, slots, outs, rfl, _⟩ := h
    rfl
  · obtain ⟨D, v, d, slots, outs, rfl, hT, hd, k⟩ := h
    obtain ⟨S, O, vs, hD, hS, hO, hl, hv⟩ := hT.ex
    refine ⟨_, (pss_cons (ps_set (i := 2) scIsLive.nd rfl (Or.inl rfl) (pe_ix ix_tup (pv 0) pe_int (fun _ _ => rfl)))
      (pss_one (ps_ret (pe_and (pe_lo l_is_between (hr.mono (by decide)) (by rfl) (pa_cons (pv 1) (pa_cons pe_int (pa_cons (pe_op op_sub (pe_callB call_len_seq (by rfl) T.b_len boot'_len (pa_cons (pv 2) pa_nil)) pe_int) pa_nil)))) (pe_one (pe_cmpR op_notN1 (pe_ix ix_tup (pv 2) (pv 1) (fun _ _ => rfl)) pe_non (nomark _))))))), ?_⟩
    refine x_start (σ' := [some (.ref D), some v, none]) rfl ?_
    try dsimp only [cxOf]
    repeat walk_at "rd"
    refine ⟨v, d, _, _, rfl, hd, ?_⟩
    rw [hl]
    cases hb : btw 0 ((slots.length : Nat) - 1 : Int) d with
    | false =>
      repeat walk_at "rd"
      have : liveD slots d = false := by
        cases d with
        | int i =>
          rw [btw_int] at hb
          rw [liveD_int]
          by_cases h0 : 0 ≤ i
          · rw [decide_eq_true h0, Bool.true_and] at hb
            have := of_decide_eq_false hb
            rw [List.getElem?_eq_none (by omega)]
            simp
          · rw [decide_eq_false h0, Bool.false_and]
        | _ => rfl
      rw [this] at k
      exact k
    | true =>
      cases hd with
      | int i =>
        rw [btw_int, Bool.and_eq_true] at hb
        have h0 := of_decide_eq_true hb.1
        have h1 := of_decide_eq_true hb.2
        obtain ⟨n, rfl⟩ : ∃ n : Nat, i = n := ⟨i.toNat, by omega⟩
        have hn : n < slots.length := by omega
        have es := List.getElem?_eq_getElem hn
        repeat walk_at "rd"
        rcases hv n _ es with ⟨e, z⟩ | ⟨r, row, e, z, _⟩
        · have hz : atI vs (n : Int) = some .non := atI_nat z
          repeat walk_at "rd"
          have : liveD slots (.int (n : Int)) = false := by
            rw [liveD_int, Int.toNat_natCast, es, e]
            simp
          rw [this] at k
          exact k
        · have hz : atI vs (n : Int) = some (.ref r) := atI_nat z
          repeat walk_at "rd"
          have : liveD slots (.int (n : Int)) = true := by
            rw [liveD_int, Int.toNat_natCast, es, e]
            simp
          rw [this] at k
          exact k
      | _ => cases hb
/-- a live node passes; what is none is refused -/
def spNeedLX (K : PySem.W.Frag) (C : Addr) : Sp := fun vs H Q E => ∃ (D : Addr) (v : V) (d : PyData) (slots : List (Option Rw)) (outs : List Int), vs = [.ref D, v] ∧ HeapT K H D slots outs ∧ Dp K H v d ∧ ((liveD slots d = true ∧ Q .non H) ∨
  (liveD slots d = false ∧ ∀ dd H', H' dd = some (.xd [("node", v)]) → Kx [] H H' → E (.ref C) (some dd) H'))
theorem ok_needLX {f C_NoNode : Addr} {fd : FuncData} (F : Fun K "need_live" "need_live" sNeedLive f fd) (T : Txt mg) (l_is_live : Lo P w K mg base "is_live" 3 ["heap", "value"] (spIsLiveD K))
    (n_NoNode : LxB P w K mg base "NoNode" C_NoNode 1 ["self", "node"] (spI1 C_NoNode "node") bmLE "LookupError.__new__") : FnOk P w K mg base (L2.CX P w) 4 f fd ["heap", "node"] (spNeedLX K C_NoNode) := by
  refine F.okX scNeedLive (fun vs H Q E h => ?_) (fun cdv A outer s H vs Q E hr h => ?_)
  · obtain ⟨D, v, d, slots, outs, rfl, _⟩ := h
    rfl
  · obtain ⟨D, v, d, slots, outs, rfl, hT, hd, hk⟩ := h
    refine ⟨_, (pss_one (ps_if (pt_not (pt_val (pe_lo l_is_live (hr.mono (by decide)) (by rfl) (pa_cons (pv 0) (pa_cons (pv 1) pa_nil))))) (pss_one (ps_raise rfl (takes_of rfl rfl rfl rfl) (pmk_lx n_NoNode (hr.mono (by decide)) (by rfl) (pa_cons (pv 1) pa_nil)))) pss_nil)), ?_⟩
    refine x_start (σ' := [some (.ref D), some v]) rfl ?_
    try dsimp only [cxOf]
    repeat walk_at "rd"
    refine ⟨D, v, d, slots, outs, rfl, hT, hd, ?_⟩
    rcases hk with ⟨hl, q⟩ | ⟨hl, k⟩
    · rw [hl]
      repeat walk_at "rd"
      refine iteN (by decide) ?_
      repeat walk_at "rd"
      exact q
    · rw [hl]
      repeat walk_at "rd"
      refine iteP (by decide) ?_
      refine x_mk ?_
      repeat walk_at "rd"
      exact x_mkE fun dd H' nd e k' => k dd H' e k'
end

section
variable {P : Program} {w : World} {K : PySem.W.Frag} {mg : Str → Option Value} {base : Heap}

theorem ok_iNN {f : Addr} {fd : FuncData} {C : Addr} (F : Fun K "__init__" "NoNode.__init__" sNoNodeInit f fd) (t : ExB K C bmLE "LookupError.__new__") (hno : PySem.W.takerIn K C "node" = some none) : FnOk P w K mg base CX0 1 f fd ["self", "node"] (spI1 C "node") := by
  refine F.ok scNoNodeInit (fun vs H Q E h => ?_) (fun cdv A outer s H vs Q E hr h => ?_)
  · obtain ⟨a, v, rfl, _⟩ := h
    rfl
  · obtain ⟨a, v, rfl, ha, k⟩ := h
    refine ⟨_, (pss_one (ps_stB exF_LE (pv 0) (pv 1))), ?_⟩
    refine x_start (σ' := [some (.ref a), some v]) rfl ?_
    try dsimp only [cxOf]
    refine ⟨v, rfl, .ref a, rfl, a, C, rfl, t, hno, ha, fun dx hd hne => ?_⟩
    exact k dx hd hne
end

section
variable {P : Program} {w : World} {K : PySem.W.Frag} {mg : Str → Option Value} {base : Heap}

theorem ok_iNR {f : Addr} {fd : FuncData} {C : Addr} (F : Fun K "__init__" "NoReference.__init__" sNoReferenceInit f fd) (t : ExB K C bmLE "LookupError.__new__") (hno : PySem.W.takerIn K C "node" = some none) : FnOk P w K mg base CX0 1 f fd ["self", "node"] (spI1 C "node") := by
  refine F.ok scNoReferenceInit (fun vs H Q E h => ?_) (fun cdv A outer s H vs Q E hr h => ?_)
  · obtain ⟨a, v, rfl, _⟩ := h
    rfl
  · obtain ⟨a, v, rfl, ha, k⟩ := h
    refine ⟨_, (pss_one (ps_stB exF_LE (pv 0) (pv 1))), ?_⟩
    refine x_start (σ' := [some (.ref a), some v]) rfl ?_
    try dsimp only [cxOf]
    refine ⟨v, rfl, .ref a, rfl, a, C, rfl, t, hno, ha, fun dx hd hne => ?_⟩
    exact k dx hd hne
end

section
variable {P : Program} {w : World} {K : PySem.W.Frag} {mg : Str → Option Value} {base : Heap}

/-- a def that never raises keeps its promise where others may -/
theorem fn_lift {k : Nat} {f : Addr} {fd : FuncData} {ps : List Str} {sp : Sp} (F : FnOk P w K mg base CX0 k f fd ps sp) : FnOk P w K mg base (L2.CX P w) k f fd ps sp := ⟨F.len, fun A outer s H args us vs Q E hr e b r h => codeAny_mono (F.run A outer s H args us vs Q E hr e b r h) fun r s' hq => by
  match r, hq with
  | .ok (.ret u), hq => exact hq
  | .ok .next, hq => exact hq.elim
  | .ok .brk, hq => exact hq.elim
  | .ok .cont, hq => exact hq.elim
  | .error e, hq => exact False.elim hq⟩
theorem fn_or {k : Nat} {f : Addr} {fd : FuncData} {ps : List Str} {sp sp' : Sp} (F : FnOk P w K mg base (L2.CX P w) k f fd ps sp) (G : FnOk P w K mg base (L2.CX P w) k f fd ps sp') : FnOk P w K mg base (L2.CX P w) k f fd ps (fun vs H Q E => sp vs H Q E ∨ sp' vs H Q E) :=
  ⟨fun vs H Q E h => h.elim (F.len vs H Q E) (G.len vs H Q E), fun A outer s H args us vs Q E hr e b r h => h.elim (F.run A outer s H args us vs Q E hr e b r) (G.run A outer s H args us vs Q E hr e b r)⟩
/-- a value that cannot be dropped: no live node, or one without an outside reference -/
def BadD (H : Hp) (E : XK) (CN CR : Addr) (slots : List (Option Rw)) (outs : List Int) (v : V) (d : PyData) : Prop :=
  (liveD slots d = false ∧ ∀ dd H', H' dd = some (.xd [("node", v)]) → Kx [] H H' → E (.ref CN) (some dd) H') ∨
  (∃ n : Nat, d = .int n ∧ isLive slots n = true ∧ outs[n]? = some 0 ∧ ∀ dd H', H' dd = some (.xd [("node", v)]) → Kx [] H H' → E (.ref CR) (some dd) H')
def spNeedRX (K : PySem.W.Frag) (CN CR CS : Addr) : Sp := fun vs H Q E => ∃ (D : Addr) (v : V) (d : PyData) (slots : List (Option Rw)) (outs : List Int), vs = [.ref D, v] ∧ HeapT K H D slots outs ∧ Dp K H v d ∧ BadD H E CN CR slots outs v d
theorem ok_needRX {f C_NoNode C_NoReference C_NoSlot : Addr} {fd : FuncData} (F : Fun K "need_reference" "need_reference" sNeedReference f fd) (T : Txt mg) (e_need_live : LoX P w K mg base "need_live" 4 ["heap", "node"] (spNeedLX K C_NoNode))
    (n_NoReference : LxB P w K mg base "NoReference" C_NoReference 1 ["self", "node"] (spI1 C_NoReference "node") bmLE "LookupError.__new__") : FnOk P w K mg base (L2.CX P w) 5 f fd ["heap", "node"] (spNeedRX K C_NoNode C_NoReference C_NoSlot) := by
  refine F.okX scNeedReference (fun vs H Q E h => ?_) (fun cdv A outer s H vs Q E hr h => ?_)
  · obtain ⟨D, v, d, slots, outs, rfl, _⟩ := h
    rfl
  · obtain ⟨D, v, d, slots, outs, rfl, hT, hd, hk⟩ := h
    refine ⟨_, (pss_cons (ps_expr (pe_loX e_need_live (takes_of rfl rfl rfl rfl) (hr.mono (by decide)) (by rfl) (pa_cons (pv 0) (pa_cons (pv 1) pa_nil))))
      (pss_one (ps_if (pt_cmpR op_eq (pe_ix ix_tup (pe_ix ix_tup (pv 0) pe_int (fun _ _ => rfl)) (pv 1) (fun _ _ => rfl)) pe_int (nomark _)) (pss_one (ps_raise rfl (takes_of rfl rfl rfl rfl) (pmk_lx n_NoReference (hr.mono (by decide)) (by rfl) (pa_cons (pv 1) pa_nil)))) pss_nil))), ?_⟩
    refine x_start (σ' := [some (.ref D), some v]) rfl ?_
    try dsimp only [cxOf]
    repeat walk_at "rd"
    refine x_cW ?_
    repeat walk_at "rd"
    rcases hk with ⟨hl, k⟩ | ⟨n, rfl, hl, hz, k⟩
    · exact ⟨D, v, d, slots, outs, rfl, hT, hd, .inr ⟨hl, k⟩⟩
    · refine ⟨D, v, _, slots, outs, rfl, hT, hd, .inl ⟨by rw [liveD_int, Int.toNat_natCast]; unfold isLive at hl; rw [hl]; simp, ?_⟩⟩
      cases hd
      obtain ⟨S, O, vs, hD, hS, hO, hvl, hv⟩ := hT.ex
      have hat : atI (outs.map V.int) (n : Int) = some (.int 0) := atI_nat (by rw [List.getElem?_map, hz]; rfl)
      repeat walk_at "rd"
      refine iteP (by decide) ?_
      refine x_mk ?_
      repeat walk_at "rd"
      exact x_mkE fun dd H' nd e k' => k dd H' e k'
def spDropR (K : PySem.W.Frag) (CN CR CS : Addr) : Sp := fun vs H Q E => ∃ (D : Addr) (v : V) (d : PyData) (slots : List (Option Rw)) (outs : List Int) (lim : Int), vs = [.ref D, v, .int lim] ∧ HeapT K H D slots outs ∧ Dp K H v d ∧ BadD H E CN CR slots outs v d
theorem ok_runR {f C_NoNode C_NoReference C_NoSlot : Addr} {fd : FuncData} {C : Addr} (F : Fun K "run_drop" "run_drop" sRunDrop f fd) (T : Txt mg) (hC : ClR K C) (cR : Cls K C) (e_need_reference : LoX P w K mg base "need_reference" 5 ["heap", "node"] (spNeedRX K C_NoNode C_NoReference C_NoSlot))
    (n_Releasing : Ln P w K mg base C "Releasing" 3 ["self", "heap", "limit"] (spMInit K C)) (m_drop : Lm P w K mg base C "drop" 4 ["self", "node"] (spMDrop K C)) : FnOk P w K mg base (L2.CX P w) 6 f fd ["heap", "node", "limit"] (spDropR K C_NoNode C_NoReference C_NoSlot) := by
  refine F.okX scRunDrop (fun vs H Q E h => ?_) (fun cdv A outer s H vs Q E hr h => ?_)
  · obtain ⟨D, v, d, slots, outs, lim, rfl, _⟩ := h
    rfl
  · obtain ⟨D, v, d, slots, outs, lim, rfl, hT, hd, hk⟩ := h
    refine ⟨_, (pss_cons (ps_expr (pe_loX e_need_reference (takes_of rfl rfl rfl rfl) (hr.mono (by decide)) (by rfl) (pa_cons (pv 0) (pa_cons (pv 1) pa_nil))))
      (pss_cons (ps_set (i := 3) scRunDrop.nd rfl (Or.inl rfl) (pe_ln n_Releasing (hr.mono (by decide)) (by rfl) (pa_cons (pv 0) (pa_cons (pv 2) pa_nil))))
      (pss_cons (ps_expr (pe_lm m_drop cR (hr.mono (by decide)) (pv 3) (pa_cons (pv 1) pa_nil)))
      (pss_one (ps_ret (pv 3)))))), ?_⟩
    refine x_start (σ' := [some (.ref D), some v, some (.int lim), none]) rfl ?_
    try dsimp only [cxOf]
    repeat walk_at "rd"
    refine x_cW ?_
    repeat walk_at "rd"
    exact ⟨D, v, d, slots, outs, rfl, hT, hd, hk⟩
theorem ok_dropR {f C_NoNode C_NoReference C_NoSlot C : Addr} {fd : FuncData} (F : Fun K "drop" "drop" sDrop f fd) (T : Txt mg) (cR : Cls K C) (e_run_drop : LoX P w K mg base "run_drop" 6 ["heap", "node", "limit"] (spDropR K C_NoNode C_NoReference C_NoSlot)) (m_result : Lm P w K mg base C "result" 1 ["self"] (spResult K C)) : FnOk P w K mg base (L2.CX P w) 7 f fd ["heap", "node", "limit"] (spDropR K C_NoNode C_NoReference C_NoSlot) := by
  refine F.okX scDrop (fun vs H Q E h => ?_) (fun cdv A outer s H vs Q E hr h => ?_)
  · obtain ⟨D, v, d, slots, outs, lim, rfl, _⟩ := h
    rfl
  · obtain ⟨D, v, d, slots, outs, lim, rfl, h⟩ := h
    refine ⟨_, (pss_one (ps_ret (pe_lm0 m_result cR (hr.mono (by decide)) (pe_loX e_run_drop (takes_of rfl rfl rfl rfl) (hr.mono (by decide)) (by rfl) (pa_cons (pv 0) (pa_cons (pv 1) (pa_cons (pv 2) pa_nil))))))), ?_⟩
    refine x_start (σ' := [some (.ref D), some v, some (.int lim)]) rfl ?_
    try dsimp only [cxOf]
    repeat walk_at "rd"
    refine x_cW ?_
    repeat walk_at "rd"
    exact ⟨D, v, d, slots, outs, lim, rfl, h⟩
end


section
variable {P : Program} {w : World} {K : PySem.W.Frag} {mg : Str → Option Value} {base : Heap}

structure Drp (slots : List (Option Rw)) (outs : List Int) (n : Nat) (z : Int) (s' : FS) : Prop where
  st : Steps slots (outs.set n (z - 1)) 1 (s00 n) s'
  p : s'.pend = []
  e : s'.shelf = []
theorem Drp.uniq {slots : List (Option Rw)} {outs : List Int} {n : Nat} {z : Int} {s' s2 : FS} (a : Drp slots outs n z s') (b : Drp slots outs n z s2) : s' = s2 := by
  have en : ∀ {s : FS}, s.pend = [] → s.shelf = [] → stepF slots (outs.set n (z - 1)) 1 s = none := fun hp he => by
    unfold stepF
    rw [hp, he]
    rfl
  exact Steps.det a.st (en a.p a.e) b.st (en b.p b.e)
def spFreed (K : PySem.W.Frag) : Sp := fun vs H Q _ => ∃ (D : Addr) (n : Nat) (slots : List (Option Rw)) (outs : List Int) (z : Int), vs = [.ref D, .int n] ∧ HeapT K H D slots outs ∧ Wf slots outs ∧ Refd slots outs ∧ isLive slots n = true ∧ outs[n]? = some z ∧ 1 ≤ z ∧
  ∀ s' p H' (gs : List Int), Drp slots outs n z s' → H p = none → Kx [] H H' → H' p = some (.lst (gs.map V.int)) → gs.Perm (s'.log.map fun m : Nat => (m : Int)) → gs.Pairwise (· ≤ ·) → Q (.ref p) H'
theorem ok_freed {f : Addr} {fd : FuncData} {tk : Tok} (F : Fun K "freed" "freed" sFreed f fd) (T : Txt mg) (g_ANY_LIMIT : mg "ANY_LIMIT" = some (.int 1 tk)) (x_drop : Lkx P w K mg base "drop" 7 ["heap", "node", "limit"] ["limit"] (gApp 2 1) (spDrop K)) : FnOk P w K mg base CX0 8 f fd ["heap", "node"] (spFreed K) := by
  refine F.ok scFreed (fun vs H Q E h => ?_) (fun cdv A outer s H vs Q E hr h => ?_)
  · obtain ⟨D, n, slots, outs, z, rfl, _⟩ := h
    rfl
  · obtain ⟨D, n, slots, outs, z, rfl, hT, wf, rf, hlv, hz, h1, k⟩ := h
    refine ⟨_, (pss_one (ps_ret (pe_callB cr_sortedTup (by rfl) T.b_sorted boot'_sorted (pa_cons (pe_ix ix_tup (pe_lkx x_drop (hr.mono (by decide)) (by rfl) (pa_cons (pv 0) (pa_cons (pv 1) pa_nil)) (pk_cons (pe_glob (v := .int 1) (by rfl) g_ANY_LIMIT ⟨_, rfl⟩) pk_nil)) pe_int (fun _ _ => rfl)) pa_nil)))), ?_⟩
    refine x_start (σ' := [some (.ref D), some (.int n)]) rfl ?_
    try dsimp only [cxOf]
    repeat walk_at "rd"
    refine ⟨D, slots, outs, n, z, 1, rfl, hT, wf, hlv, hz, h1, by decide, fun B L X pk s' H1 k1 hB hL hst hp he hpk hX => ?_⟩
    have hLI : SqT K H1 L ((s'.log.map fun m : Nat => (m : Int)).map V.int) := by
      have := hL.seq (K := K)
      rwa [List.map_map]
    repeat walk_at "rd"
    refine x_sortedTup hLI fun gs p hperm hsort np => ?_
    exact k s' p _ gs ⟨hst, hp, he⟩ (k1.fresh (by simp) np) (k1.new np) upd_same hperm hsort
def spKept (K : PySem.W.Frag) : Sp := fun vs H Q _ => ∃ (D : Addr) (n : Nat) (slots : List (Option Rw)) (outs : List Int) (z : Int), vs = [.ref D, .int n] ∧ HeapT K H D slots outs ∧ Wf slots outs ∧ Refd slots outs ∧ isLive slots n = true ∧ outs[n]? = some z ∧ 1 ≤ z ∧
  ∀ s' p H', Drp slots outs n z s' → H p = none → Kx [] H H' → H' p = some (.lst ((liveUp (afterS slots s'.log) slots.length).map V.int)) → Q (.ref p) H'
theorem ok_kept {f : Addr} {fd : FuncData} {tk : Tok} (F : Fun K "kept" "kept" sKept f fd) (T : Txt mg) (g_ANY_LIMIT : mg "ANY_LIMIT" = some (.int 1 tk)) (x_drop : Lkx P w K mg base "drop" 7 ["heap", "node", "limit"] ["limit"] (gApp 2 1) (spDrop K)) (l_live_nodes : Lo P w K mg base "live_nodes" 1 ["heap"] (spLive K)) : FnOk P w K mg base CX0 8 f fd ["heap", "node"] (spKept K) := by
  refine F.ok scKept (fun vs H Q E h => ?_) (fun cdv A outer s H vs Q E hr h => ?_)
  · obtain ⟨D, n, slots, outs, z, rfl, _⟩ := h
    rfl
  · obtain ⟨D, n, slots, outs, z, rfl, hT, wf, rf, hlv, hz, h1, k⟩ := h
    refine ⟨_, (pss_one (ps_ret (pe_lo l_live_nodes (hr.mono (by decide)) (by rfl) (pa_cons (pe_ix ix_tup (pe_lkx x_drop (hr.mono (by decide)) (by rfl) (pa_cons (pv 0) (pa_cons (pv 1) pa_nil)) (pk_cons (pe_glob (v := .int 1) (by rfl) g_ANY_LIMIT ⟨_, rfl⟩) pk_nil)) pe_int (fun _ _ => rfl)) pa_nil)))), ?_⟩
    refine x_start (σ' := [some (.ref D), some (.int n)]) rfl ?_
    try dsimp only [cxOf]
    repeat walk_at "rd"
    refine ⟨D, slots, outs, n, z, 1, rfl, hT, wf, hlv, hz, h1, by decide, fun B L X pk s' H1 k1 hB hL hst hp he hpk hX => ?_⟩
    obtain ⟨wfA, rfA, li, wk⟩ := drop_after wf rf hz h1 hlv hst hp he
    repeat walk_at "rd"
    refine ⟨X, _, _, rfl, hX, wfA, fun p H2 np k2 ep => ?_⟩
    rw [afterS_len] at ep
    exact k s' p _ ⟨hst, hp, he⟩ (k1.fresh (by simp) np) (k1.trans k2) ep
end
section
variable {P : Program} {w : World} {K : PySem.W.Frag} {mg : Str → Option Value} {base : Heap}
theorem ok_freedR {f C_NoNode C_NoReference C_NoSlot : Addr} {fd : FuncData} {tk : Tok} (F : Fun K "freed" "freed" sFreed f fd) (T : Txt mg) (g_ANY_LIMIT : mg "ANY_LIMIT" = some (.int 1 tk)) (e_drop : LkxX P w K mg base "drop" 7 ["heap", "node", "limit"] ["limit"] (gApp 2 1) (spDropR K C_NoNode C_NoReference C_NoSlot)) (l_live_nodes : Lo P w K mg base "live_nodes" 1 ["heap"] (spLive K)) : FnOk P w K mg base (L2.CX P w) 8 f fd ["heap", "node"] (spNeedRX K C_NoNode C_NoReference C_NoSlot) := by
  refine F.okX scFreed (fun vs H Q E h => ?_) (fun cdv A outer s H vs Q E hr h => ?_)
  · obtain ⟨D, v, d, slots, outs, rfl, _⟩ := h
    rfl
  · obtain ⟨D, v, d, slots, outs, rfl, h⟩ := h
    refine ⟨_, (pss_one (ps_ret (pe_callB cr_sortedTup (by rfl) T.b_sorted boot'_sorted (pa_cons (pe_ix ix_tup (pe_lkxX e_drop (takes_of rfl rfl rfl rfl) (hr.mono (by decide)) (by rfl) (pa_cons (pv 0) (pa_cons (pv 1) pa_nil)) (pk_cons (pe_glob (v := .int 1) (by rfl) g_ANY_LIMIT ⟨_, rfl⟩) pk_nil)) pe_int (fun _ _ => rfl)) pa_nil)))), ?_⟩
    refine x_start (σ' := [some (.ref D), some v]) rfl ?_
    try dsimp only [cxOf]
    repeat walk_at "rd"
    refine x_cKW ?_
    repeat walk_at "rd"
    exact ⟨D, v, d, slots, outs, 1, rfl, h⟩
theorem ok_keptR {f C_NoNode C_NoReference C_NoSlot : Addr} {fd : FuncData} {tk : Tok} (F : Fun K "kept" "kept" sKept f fd) (T : Txt mg) (g_ANY_LIMIT : mg "ANY_LIMIT" = some (.int 1 tk)) (e_drop : LkxX P w K mg base "drop" 7 ["heap", "node", "limit"] ["limit"] (gApp 2 1) (spDropR K C_NoNode C_NoReference C_NoSlot)) (l_live_nodes : Lo P w K mg base "live_nodes" 1 ["heap"] (spLive K)) : FnOk P w K mg base (L2.CX P w) 8 f fd ["heap", "node"] (spNeedRX K C_NoNode C_NoReference C_NoSlot) := by
  refine F.okX scKept (fun vs H Q E h => ?_) (fun cdv A outer s H vs Q E hr h => ?_)
  · obtain ⟨D, v, d, slots, outs, rfl, _⟩ := h
    rfl
  · obtain ⟨D, v, d, slots, outs, rfl, h⟩ := h
    refine ⟨_, (pss_one (ps_ret (pe_lo l_live_nodes (hr.mono (by decide)) (by rfl) (pa_cons (pe_ix ix_tup (pe_lkxX e_drop (takes_of rfl rfl rfl rfl) (hr.mono (by decide)) (by rfl) (pa_cons (pv 0) (pa_cons (pv 1) pa_nil)) (pk_cons (pe_glob (v := .int 1) (by rfl) g_ANY_LIMIT ⟨_, rfl⟩) pk_nil)) pe_int (fun _ _ => rfl)) pa_nil)))), ?_⟩
    refine x_start (σ' := [some (.ref D), some v]) rfl ?_
    try dsimp only [cxOf]
    repeat walk_at "rd"
    refine x_cKW ?_
    repeat walk_at "rd"
    exact ⟨D, v, d, slots, outs, 1, rfl, h⟩
end


section
variable {P : Program} {w : World} {K : PySem.W.Frag} {mg : Str → Option Value} {base : Heap}

/-- what the text says of a class that is told: b is whether it is NoReference -/
structure ErC (K : PySem.W.Frag) (C_MissingError C_NoNode C_NoPosition C_NoReference C_NoSlot C_NotFreed C_UndoError : Addr) (C : Addr) (b : Bool) : Prop where
  xf : XfC K C
  ec : ExcC K C
  hno : PySem.W.findIn K (.ref C) "node" = some none
  i1 : PySem.W.kitOne K (.ref C) (.ref C_NoNode) = some (!b)
  i2 : PySem.W.kitOne K (.ref C) (.ref C_NoReference) = some b
  i3 : PySem.W.kitAny K (.ref C) [.ref C_NoPosition, .ref C_NoSlot, .ref C_NotFreed, .ref C_UndoError] = some false
  i4 : PySem.W.kitOne K (.ref C) (.type "LookupError") = some true
  te : PySem.W.exmOne K (.ref C) (.ref C_MissingError) = some true
def erW (b : Bool) : Str := if b then "reference" else "node"
/-- the lambda's run ends in an error with a node; back comes its word and the node -/
def TTe (CN CR : Addr) : (XK → Hp → VK → Prop) → Hp → VK → Prop := fun tl H Q => ∃ (b : Bool) (v : V), (∀ (E : XK) (Qn : VK), (∀ dd H', H' dd = some (.xd [("node", v)]) → Kx [] H H' → E (.ref (if b then CR else CN)) (some dd) H') → tl E H Qn) ∧
  ∀ L H', H L = none → Kx [] H H' → H' L = some (.tup [.str (erW b), v]) → Q (.ref L) H'
theorem gives_error {X : Cx} {C_MissingError C_NoNode C_NoPosition C_NoReference C_NoSlot C_NotFreed C_UndoError g : Addr} {cdg : Value} {q : Str} {k : Nat} (T : Txt X.mg) (c_MissingError : X.mg "MissingError" = some (.ref C_MissingError)) (c_NoNode : X.mg "NoNode" = some (.ref C_NoNode)) (c_NoPosition : X.mg "NoPosition" = some (.ref C_NoPosition)) (c_NoReference : X.mg "NoReference" = some (.ref C_NoReference)) (c_NoSlot : X.mg "NoSlot" = some (.ref C_NoSlot)) (c_NotFreed : X.mg "NotFreed" = some (.ref C_NotFreed)) (c_UndoError : X.mg "UndoError" = some (.ref C_UndoError)) (N : ErC X.K C_MissingError C_NoNode C_NoPosition C_NoReference C_NoSlot C_NotFreed C_UndoError C_NoNode false) (NR : ErC X.K C_MissingError C_NoNode C_NoPosition C_NoReference C_NoSlot C_NotFreed C_UndoError C_NoReference true) : Gives X ["_law_ask", "_law_caught", "e"] "_law_error" sQError g cdg "_law_ask" q k (TTe C_NoNode C_NoReference) := by
  rintro f c' s H Q tl hr act hc ⟨b, v, hraise, hq⟩
  have NB : ErC X.K C_MissingError C_NoNode C_NoPosition C_NoReference C_NoSlot C_NotFreed C_UndoError (if b then C_NoReference else C_NoNode) b := by cases b; exact N; exact NR
  clear N NR
  generalize hCC : (if b then C_NoReference else C_NoNode) = CC at *
  generalize X.prog = P at *
  generalize X.w = w at *
  generalize X.K = K at *
  generalize X.mg = mg at *
  generalize X.base = base at *
  generalize X.A = A at *
  generalize X.stack = stk at *
  refine ⟨_, (pss_cons (ps_set (i := 1) scQError.nd rfl (Or.inl rfl) pe_non)
      (pss_cons (ps_try_kp (i := 2) rfl rfl rfl scQError.nd rfl rfl ⟨rfl, by decide, Or.inl c_MissingError⟩ (fun W pn xe tk po => (pss_one (ps_act (act W pn xe _ _ tk)))) (fun a oe cls d pn hz hf => by exact (pss_one (ps_set (i := 1) scQError.nd rfl (Or.inl rfl) (pv 2)))))
      (pss_cons (ps_if (pt_cmpR op_isN1 (pv 1) pe_non (nomark _)) (pss_one (ps_ret (pe_tup (pa_cons pe_str (pa_cons pe_non pa_nil))))) pss_nil)
      (pss_cons (ps_if (PW.pt (pw_or (pt_val (pe_callB call_isK (by rfl) T.b_isinstance boot'_isinstance (pa_cons (pv 1) (pa_cons (pe_tup (pa_cons (pe_glob (v := .ref C_NoPosition) (by rfl) c_NoPosition rfl) (pa_cons (pe_glob (v := .ref C_NoSlot) (by rfl) c_NoSlot rfl) (pa_cons (pe_glob (v := .ref C_NotFreed) (by rfl) c_NotFreed rfl) (pa_cons (pe_glob (v := .ref C_UndoError) (by rfl) c_UndoError rfl) pa_nil))))) pa_nil)))) (pw_or1 (pt_not (pt_val (pe_callB call_isK (by rfl) T.b_isinstance boot'_isinstance (pa_cons (pv 1) (pa_cons (pe_bltn (v := .ty "LookupError") (by rfl) T.b_LookupError boot'_LookupError rfl) pa_nil)))))))) (pss_one (ps_ret (pe_tup (pa_cons pe_str (pa_cons pe_non pa_nil))))) pss_nil)
      (pss_cons (ps_if (pt_cmpR op_eq (pe_callB call_isK (by rfl) T.b_isinstance boot'_isinstance (pa_cons (pv 1) (pa_cons (pe_glob (v := .ref C_NoNode) (by rfl) c_NoNode rfl) pa_nil))) (pe_callB call_isK (by rfl) T.b_isinstance boot'_isinstance (pa_cons (pv 1) (pa_cons (pe_glob (v := .ref C_NoReference) (by rfl) c_NoReference rfl) pa_nil))) (nomark _)) (pss_one (ps_ret (pe_tup (pa_cons pe_str (pa_cons pe_non pa_nil))))) pss_nil)
      (pss_one (ps_ret (pe_tup (pa_cons (pe_ix ix_list (pe_lst (pa_cons pe_str (pa_cons pe_str pa_nil))) (pe_callTy call_int1 (by rfl) T.b_int boot'_int (pa_cons (pe_callB call_isK (by rfl) T.b_isinstance boot'_isinstance (pa_cons (pv 1) (pa_cons (pe_glob (v := .ref C_NoReference) (by rfl) c_NoReference rfl) pa_nil))) pa_nil)) (fun _ _ => rfl)) (pa_cons (pe_xk (pv 1)) pa_nil)))))))))), ?_⟩
  refine x_start (σ' := [some (.ref f), none, none]) rfl ?_
  try dsimp only [cxOf]
  repeat walk_at "rd"
  refine ⟨rfl, hc, hraise _ _ fun dd H4 edd k4 => ?_⟩
  refine ⟨NB.te, fun a4 na4 => ?_⟩
  repeat walk_at "rd"
  have k5 := k4.new (o := exk a4 (.ref CC) (some dd)) na4
  have ea : upd H4 a4 (exk a4 (.ref CC) (some dd)) a4 = some (exk a4 (.ref CC) (some dd)) := upd_same
  have ed := lk_ne (o := exk a4 (.ref CC) (some dd)) edd na4
  generalize upd H4 a4 (exk a4 (.ref CC) (some dd)) = H5 at *
  refine iteN (by simp) ?_
  repeat walk_at "rd"
  rename_i tt ntt
  replace k5 := k5.new (o := .tup [V.ref C_NoPosition, V.ref C_NoSlot, V.ref C_NotFreed, V.ref C_UndoError]) ntt
  replace ea := lk_ne (o := .tup [V.ref C_NoPosition, V.ref C_NoSlot, V.ref C_NotFreed, V.ref C_UndoError]) ea ntt
  replace ed := lk_ne (o := .tup [V.ref C_NoPosition, V.ref C_NoSlot, V.ref C_NotFreed, V.ref C_UndoError]) ed ntt
  have et := upd_same (H := H5) (a := tt) (o := .tup [V.ref C_NoPosition, V.ref C_NoSlot, V.ref C_NotFreed, V.ref C_UndoError])
  generalize upd H5 tt (.tup [V.ref C_NoPosition, V.ref C_NoSlot, V.ref C_NotFreed, V.ref C_UndoError]) = H6 at *
  refine x_isKT NB.ec ea ed (SqT.of et) (vals_refs [C_NoPosition, C_NoSlot, C_NotFreed, C_UndoError]) NB.i3 ?_
  repeat walk_at "rd"
  refine x_isK1 NB.ec ea ed (fun u h => h) NB.i4 ?_
  repeat walk_at "rd"
  try refine iteN (by decide) ?_
  repeat walk_at "rd"
  refine x_isK1 NB.ec ea ed (fun u h => h) NB.i1 ?_
  repeat walk_at "rd"
  refine x_isK1 NB.ec ea ed (fun u h => h) NB.i2 ?_
  repeat walk_at "rd"
  refine iteN (by cases b <;> decide) ?_
  repeat walk_at "rd"
  rename_i W nW
  replace k5 := k5.new (o := .lst [V.str "node", V.str "reference"]) nW
  replace ea := lk_ne (o := .lst [V.str "node", V.str "reference"]) ea nW
  replace ed := lk_ne (o := .lst [V.str "node", V.str "reference"]) ed nW
  have eW := upd_same (H := H6) (a := W) (o := .lst [V.str "node", V.str "reference"])
  generalize upd H6 W (.lst [V.str "node", V.str "reference"]) = H7 at *
  refine x_isK1 NB.ec ea ed (fun u h => h) NB.i2 ?_
  repeat walk_at "rd"
  refine ⟨W, _, _, .str (erW b), rfl, rfl, SqL.of eW, by cases b <;> rfl, ?_⟩
  repeat walk_at "rd"
  refine x_xk ?_
  repeat walk_at "rd"
  refine ⟨a4, CC, dd, _, v, rfl, NB.xf, NB.hno, ea, ed, rfl, ?_⟩
  repeat walk_at "rd"
  rename_i L nL
  exact hq L _ (k5.fresh (by simp) nL) (k5.new nL) upd_same
end


section
variable {P : Program} {w : World} {K : PySem.W.Frag} {mg : Str → Option Value} {base : Heap}

/-- all but the tables of code objects and S stay -/
def Ky (S : List Addr) (H H' : Hp) : Prop := ∀ b o, b ∉ S → H b = some o → (∀ ps, o ≠ .tbl ps) → H' b = some o
theorem Ky.of {S : List Addr} {H H' : Hp} (k : Kx S H H') : Ky S H H' := fun b o n e _ => k b o n e
theorem Ky.ext {S : List Addr} {H H' : Hp} (e : LamX.ExtN H H') : Ky S H H' := fun b o _ h n => e b o h n
theorem Ky.trans {S : List Addr} {H H1 H2 : Hp} (a : Ky S H H1) (b : Ky S H1 H2) : Ky S H H2 := fun c o n e t => b c o n (a c o n e t) t
theorem Ky.extN {H H' : Hp} (k : Ky [] H H') : LamX.ExtN H H' := fun b o e n => k b o (by simp) e n
theorem extN_dummy : True := trivial
/-- v is the data d, as long as what lies at L stays -/
structure St (K : PySem.W.Frag) (H : Hp) (v : V) (d : PyData) (L : List Addr) : Prop where
  has : ∀ b ∈ L, ∃ o, H b = some o ∧ ∀ ps, o ≠ .tbl ps
  dp : ∀ H3, (∀ b ∈ L, H3 b = H b) → Dp K H3 v d
theorem St.keep {K : PySem.W.Frag} {H H' : Hp} {v : V} {d : PyData} {L : List Addr} (h : St K H v d L) (k : ∀ b ∈ L, ∀ o, H b = some o → (∀ ps, o ≠ .tbl ps) → H' b = some o) : St K H' v d L := by
  have e : ∀ b ∈ L, H' b = H b := fun b hb => by
    obtain ⟨o, e1, e2⟩ := h.has b hb
    rw [e1, k b hb o e1 e2]
  exact ⟨fun b hb => by rw [e b hb]; exact h.has b hb, fun H3 x => h.dp H3 fun b hb => (x b hb).trans (e b hb)⟩
theorem St.kx {K : PySem.W.Frag} {H H' : Hp} {v : V} {d : PyData} {L S : List Addr} (h : St K H v d L) (k : Kx S H H') (hL : ∀ b ∈ L, b ∉ S) : St K H' v d L := h.keep fun b hb o e _ => k b o (hL b hb) e
theorem St.ext {K : PySem.W.Frag} {H H' : Hp} {v : V} {d : PyData} {L : List Addr} (h : St K H v d L) (x : LamX.ExtN H H') : St K H' v d L := h.keep fun b _ o e n => x b o e n
theorem St.now {K : PySem.W.Frag} {H : Hp} {v : V} {d : PyData} {L : List Addr} (h : St K H v d L) : Dp K H v d := h.dp H fun _ _ => rfl
theorem GoodN.list {L : Nat} {ds : List PyData} {k w n : Nat} (h : ∀ d ∈ ds, GoodN L d k w) (hn : ds.length ≤ n) : GoodN L (.list ds) (k + 1) (n * (w + 1)) := by
  obtain ⟨a1, a2, a3, a4, a5⟩ := goodN_all h
  exact ⟨by simpa only [PyData.showable] using a1, by simpa only [PyData.hasDict] using a2, by simp only [PyData.depth]; omega, by simpa only [PyData.leavesShort] using a4, by simp only [PyData.weight]; exact Nat.le_trans a5 (Nat.mul_le_mul_right _ hn)⟩
theorem GoodN.mono {L : Nat} {d : PyData} {k w k' w' : Nat} (h : GoodN L d k w) (a : k ≤ k') (b : w ≤ w') : GoodN L d k' w' := ⟨h.sh, h.nd, Nat.le_trans h.dp a, h.sl, Nat.le_trans h.wt b⟩
theorem liveD_out {slots : List (Option Rw)} {i : Int} (h : i < 0 ∨ (slots.length : Int) ≤ i) : liveD slots (.int i) = false := by
  rw [liveD_int]
  rcases h with h | h
  · rw [decide_eq_false (by omega), Bool.false_and]
  · rw [List.getElem?_eq_none (by omega)]
    simp

def spOdd (K : PySem.W.Frag) : Sp := fun vs H Q _ => ∃ (p c D : Addr) (n : Nat) (slots : List (Option Rw)) (outs : List Int), vs = [.ref p, .ref D] ∧ PenAt H p c n ∧ n < 900000 ∧ HeapT K H D slots outs ∧ slots.length ≤ 40 ∧
  ∀ v d (L : List Addr) H', Kx [p] H H' → PenAt H' p c (n + 1) → (∀ b ∈ L, H b = none) → St K H' v d L → GoodN 130 d 2 1000 → liveD slots d = false → Q v H'
theorem ok_odd {f : Addr} {fd : FuncData} (F : Fun K "_law_odd" "_law_odd" sQOdd f fd) (T : Txt mg) (l_law_draw : Lo P w K mg base "_law_draw" 1 ["_law_pen_here", "_law_bound"] spDraw) : FnOk P w K mg base CX0 2 f fd ["_law_pen_here", "_law_home"] (spOdd K) := by
  refine F.ok scQOdd (fun vs H Q E h => ?_) (fun cdv A outer s H vs Q E hr h => ?_)
  · obtain ⟨p, c, D, n, slots, outs, rfl, _⟩ := h
    rfl
  · obtain ⟨p, c, D, n, slots, outs, rfl, hpen, hn, hT, h40, k⟩ := h
    have e50 : (10 : Int) ^ (50 : Int).toNat = 100000000000000000000000000000000000000000000000000 := by decide +kernel
    obtain ⟨S, O, vs, hD, hS, hO, hvl, hv⟩ := id hT.ex
    refine ⟨_, (pss_cons (ps_set (i := 2) scQOdd.nd rfl (Or.inl rfl) (pe_callB call_len_seq (by rfl) T.b_len boot'_len (pa_cons (pe_ix ix_tup (pv 1) pe_int (fun _ _ => rfl)) pa_nil)))
      (pss_cons (ps_set (i := 3) scQOdd.nd rfl (Or.inl rfl) (pe_lst (pa_cons pe_non (pa_cons pe_bl (pa_cons pe_bl (pa_cons (pe_un un_neg pe_int) (pa_cons (pv 2) (pa_cons (pe_op op_add (pv 2) pe_int) (pa_cons pe_str (pa_cons pe_str (pa_cons (pe_tup (pa_cons pe_int pa_nil)) (pa_cons (pe_lst (pa_cons pe_int pa_nil)) (pa_cons (pe_tup pa_nil) (pa_cons (pe_op op_pow pe_int pe_int) (pa_cons (pe_op op_sub pe_int (pv 2)) (pa_cons (pe_tup (pa_cons (pe_tup pa_nil) (pa_cons pe_int pa_nil))) pa_nil))))))))))))))))
      (pss_cons (ps_set (i := 3) scQOdd.nd rfl (Or.inl rfl) (pe_op op_cat (pv 3) (pe_lc (own := [("_law_v", 4)]) rfl scQOdd.nd (pi_range1 (by rfl) T.b_range (pa_cons (pv 2) pa_nil)) (blkOk_by (N := ["_law_pen_here", "_law_home", "_law_size_here", "_law_some", "_law_v"]) (sc := defScope sQOdd) (by decide +kernel)) (fun _ _ _ _ _ => (pg_name (i := 4) scQOdd.nd rfl (Or.inl rfl))) (fun _ _ _ _ _ => (pts_one (pt_cmpR op_isN1 (pe_ix ix_tupK (pe_ix (ix_tupK (K := K)) (pv 1) pe_int (fun _ _ => rfl)) (pv 4) (fun _ _ => rfl)) pe_non (nomark _)))) (fun _ _ _ _ _ => (pv 4)))))
      (pss_one (ps_ret (pe_ix ix_list (pv 3) (pe_lo l_law_draw (hr.mono (by decide)) (by rfl) (pa_cons (pv 0) (pa_cons (pe_callB call_len_seq (by rfl) T.b_len boot'_len (pa_cons (pv 3) pa_nil)) pa_nil))) (fun _ _ => rfl))))))), ?_⟩
    refine x_start (σ' := [some (.ref p), some (.ref D), none, none, none]) rfl ?_
    try dsimp only [cxOf]
    repeat walk_at "rd"
    rw [hvl, e50]
    rename_i t1 nt1 l1 nl1 t2 nt2 t3 nt3 t4 nt4 q nq
    generalize hzs : [V.non, V.bl true, V.bl false, V.int (-1), V.int (slots.length : Nat), V.int ((slots.length : Nat) + 1), V.str "0", V.str "", V.ref t1, V.ref l1, V.ref t2, V.int 100000000000000000000000000000000000000000000000000, V.int (0 - (slots.length : Nat)), V.ref t4] = zs at *
    have hzl : zs.length = 14 := by rw [← hzs]; rfl
    have et1 := lk_ne (o := .lst zs) (lk_ne (o := .tup [.ref t3, .int 1]) (lk_ne (o := .tup []) (lk_ne (o := .tup []) (lk_ne (o := .lst [.int 0]) (upd_same (H := H) (a := t1) (o := .tup [.int 0])) nl1) nt2) nt3) nt4) nq
    have k1 := (Kx.refl [] H).new (o := .tup [.int 0]) nt1
    have fl1 := k1.fresh (by simp) nl1
    generalize hA1 : upd H t1 (.tup [.int 0]) = H1 at *
    have el1 := lk_ne (o := .lst zs) (lk_ne (o := .tup [.ref t3, .int 1]) (lk_ne (o := .tup []) (lk_ne (o := .tup []) (upd_same (H := H1) (a := l1) (o := .lst [.int 0])) nt2) nt3) nt4) nq
    replace k1 := k1.new (o := .lst [.int 0]) nl1
    have ft2 := k1.fresh (by simp) nt2
    generalize hA2 : upd H1 l1 (.lst [.int 0]) = H2 at *
    have et2 := lk_ne (o := .lst zs) (lk_ne (o := .tup [.ref t3, .int 1]) (lk_ne (o := .tup []) (upd_same (H := H2) (a := t2) (o := .tup [])) nt3) nt4) nq
    replace k1 := k1.new (o := .tup []) nt2
    have ft3 := k1.fresh (by simp) nt3
    generalize hA3 : upd H2 t2 (.tup []) = H3 at *
    have et3 := lk_ne (o := .lst zs) (lk_ne (o := .tup [.ref t3, .int 1]) (upd_same (H := H3) (a := t3) (o := .tup [])) nt4) nq
    replace k1 := k1.new (o := .tup []) nt3
    have ft4 := k1.fresh (by simp) nt4
    generalize hA4 : upd H3 t3 (.tup []) = H4 at *
    have et4 := lk_ne (o := .lst zs) (upd_same (H := H4) (a := t4) (o := .tup [.ref t3, .int 1])) nq
    replace k1 := k1.new (o := .tup [.ref t3, .int 1]) nt4
    have fq := k1.fresh (by simp) nq
    generalize hA5 : upd H4 t4 (.tup [.ref t3, .int 1]) = H5 at *
    have eq := upd_same (H := H5) (a := q) (o := .lst zs)
    replace k1 := k1.new (o := .lst zs) nq
    have hT6 := hT.keep k1
    have P6 := hpen.keep k1 (by simp) (by simp) (Nat.le_refl _)
    generalize upd H5 q (.lst zs) = H6 at *
    have hD6 := k1.sqT (by simp) hD
    have hS6 := k1.sqT (by simp) hS
    obtain ⟨⟨op, hp⟩, _⟩ := hpen.some
    have npt : ∀ b, H b = none → b ≠ p := fun b hb z => by rw [z, hp] at hb; cases hb
    refine y_lcR1 (by omega) (by omega) (fun U nU => ⟨fun i H7 => ∃ ns : List Nat, Kx [] H6 H7 ∧ H7 U = some (.lst (natV ns)) ∧ (∀ x ∈ ns, slots[x]? = some none) ∧ ns.length ≤ i, ⟨[], (Kx.refl [] _).new nU, upd_same, (fun x hx => by cases hx), Nat.le_refl _⟩, fun _ _ _ _ => trivial, ?_, ?_⟩)
    · rintro i x H7 H7' hi ⟨ns, k7, eU, hns, hnl⟩ ⟨rfl, rfl⟩
      rw [Int.toNat_natCast] at hi
      have es := List.getElem?_eq_getElem hi
      have hD7 := k7.sqT (by simp) hD6
      have hS7 := k7.sqT (by simp) hS6
      repeat walk_at "rd"
      refine ⟨rfl, ?_⟩
      rcases hv i _ es with ⟨e, z⟩ | ⟨r, row, e, z, _⟩
      · have hvA : atI vs (0 + (i : Int)) = some .non := by
          rw [Int.zero_add]
          exact atI_nat z
        repeat walk_at "rd"
        refine iteP rfl ?_
        repeat walk_at "rd"
        refine ⟨natV ns, eU, small1000 (by rw [natV_len]; omega), ns ++ [i], k7.wr (.inl nU), ?_, fun x hx => ?_, by rw [List.length_append, List.length_singleton]; omega⟩
        · rw [upd_same, Int.zero_add]
          unfold natV
          rw [List.map_append]
          rfl
        · rcases List.mem_append.mp hx with hx | hx
          · exact hns x hx
          · rw [List.mem_singleton.mp hx, es, e]
      · have hvA : atI vs (0 + (i : Int)) = some (.ref r) := by
          rw [Int.zero_add]
          exact atI_nat z
        repeat walk_at "rd"
        refine iteN (by simp) ⟨ns, k7, eU, hns, by omega⟩
    · rintro H7 ⟨ns, k7, eU, hns, hnl⟩
      rw [Int.toNat_natCast] at hnl
      have eq7 := k7 q _ (by simp) eq
      have P7 := P6.keep k7 (by simp) (by simp) (Nat.le_refl _)
      repeat walk_at "rd"
      refine x_catL eq7 eU (Nat.le_of_lt (small1000 (by rw [natV_len]; omega))) fun Z nZ => ?_
      have fZ := (k1.trans k7).fresh (by simp) nZ
      have P8 := P7.keep ((Kx.refl [] H7).new (o := .lst (zs ++ natV ns)) nZ) (by simp) (by simp) (Nat.le_refl _)
      have k8 := k7.new (o := .lst (zs ++ natV ns)) nZ
      have eZ := upd_same (H := H7) (a := Z) (o := .lst (zs ++ natV ns))
      generalize upd H7 Z (.lst (zs ++ natV ns)) = H8 at *
      have hsl : (zs ++ natV ns).length = 14 + ns.length := by rw [List.length_append, hzl, natV_len]
      repeat walk_at "rd"
      rw [hsl]
      refine x_draw P8 (by omega) (by omega) (by omega) fun i H9 i0 i1 k9 P9 => ?_
      have eZ9 := k9 Z _ (by simpa using npt _ fZ) eZ
      have e19 := k9 t1 _ (by simpa using npt _ nt1) (k8 t1 _ (by simp) et1)
      have el9 := k9 l1 _ (by simpa using npt _ fl1) (k8 l1 _ (by simp) el1)
      have e29 := k9 t2 _ (by simpa using npt _ ft2) (k8 t2 _ (by simp) et2)
      have e39 := k9 t3 _ (by simpa using npt _ ft3) (k8 t3 _ (by simp) et3)
      have e49 := k9 t4 _ (by simpa using npt _ ft4) (k8 t4 _ (by simp) et4)
      have hs : ∀ b ∈ [t1, l1, t2, t3, t4], ∃ o, H9 b = some o ∧ ∀ ps, o ≠ .tbl ps := fun b hb => by
        simp only [List.mem_cons, List.not_mem_nil, or_false] at hb
        rcases hb with rfl | rfl | rfl | rfl | rfl
        · exact ⟨_, e19, fun _ z => nomatch z⟩
        · exact ⟨_, el9, fun _ z => nomatch z⟩
        · exact ⟨_, e29, fun _ z => nomatch z⟩
        · exact ⟨_, e39, fun _ z => nomatch z⟩
        · exact ⟨_, e49, fun _ z => nomatch z⟩
      have hf : ∀ b ∈ [t1, l1, t2, t3, t4], H b = none := fun b hb => by
        simp only [List.mem_cons, List.not_mem_nil, or_false] at hb
        rcases hb with rfl | rfl | rfl | rfl | rfl
        · exact nt1
        · exact fl1
        · exact ft2
        · exact ft3
        · exact ft4
      have mkS : ∀ {v : V} {d : PyData}, (∀ H3, (∀ b ∈ [t1, l1, t2, t3, t4], H3 b = H9 b) → Dp K H3 v d) → St K H9 v d [t1, l1, t2, t3, t4] := fun h => ⟨hs, h⟩
      obtain ⟨m, rfl⟩ : ∃ m : Nat, i = m := ⟨i.toNat, by omega⟩
      have gi : ∀ {z : Int}, z.natAbs < 2 ^ 400 → GoodN 130 (.int z) 2 1000 := fun h => (GoodN.int h).mono (by decide) (by decide)
      have hat : ∃ v d, (zs ++ natV ns)[m]? = some v ∧ St K H9 v d [t1, l1, t2, t3, t4] ∧ GoodN 130 d 2 1000 ∧ liveD slots d = false := by
        rcases Nat.lt_or_ge m 14 with h14 | h14
        · have hz : ∀ {j : Nat} {v : V}, [V.non, V.bl true, V.bl false, V.int (-1), V.int (slots.length : Nat), V.int ((slots.length : Nat) + 1), V.str "0", V.str "", V.ref t1, V.ref l1, V.ref t2, V.int 100000000000000000000000000000000000000000000000000, V.int (0 - (slots.length : Nat)), V.ref t4][j]? = some v → (zs ++ natV ns)[j]? = some v := fun {j v} h => by
            rw [hzs] at h
            rw [List.getElem?_append_left (List.getElem?_eq_some_iff.mp h).1]
            exact h
          rcases (show m = 0 ∨ m = 1 ∨ m = 2 ∨ m = 3 ∨ m = 4 ∨ m = 5 ∨ m = 6 ∨ m = 7 ∨ m = 8 ∨ m = 9 ∨ m = 10 ∨ m = 11 ∨ m = 12 ∨ m = 13 by omega) with e | e | e | e | e | e | e | e | e | e | e | e | e | e <;> subst e
          · exact ⟨_, _, hz rfl, mkS fun _ _ => .non, by constructor <;> decide +kernel, rfl⟩
          · exact ⟨_, _, hz rfl, mkS fun _ _ => .bl true, by constructor <;> decide +kernel, rfl⟩
          · exact ⟨_, _, hz rfl, mkS fun _ _ => .bl false, by constructor <;> decide +kernel, rfl⟩
          · exact ⟨_, _, hz rfl, mkS fun _ _ => .int _, gi (by decide +kernel), liveD_out (by omega)⟩
          · exact ⟨_, _, hz rfl, mkS fun _ _ => .int _, gi (Nat.lt_of_le_of_lt (show (slots.length : Int).natAbs ≤ 40 by omega) (by decide +kernel)), liveD_out (by omega)⟩
          · exact ⟨_, _, hz rfl, mkS fun _ _ => .int _, gi (Nat.lt_of_le_of_lt (show ((slots.length : Int) + 1).natAbs ≤ 41 by omega) (by decide +kernel)), liveD_out (by omega)⟩
          · exact ⟨_, _, hz rfl, mkS fun _ _ => .str _, by constructor <;> decide +kernel, rfl⟩
          · exact ⟨_, _, hz rfl, mkS fun _ _ => .str _, by constructor <;> decide +kernel, rfl⟩
          · exact ⟨_, .tuple [.int 0], hz rfl, mkS fun _ x => .tup (SqT.of ((x t1 (by simp)).trans e19)) (.cons (.int 0) .nil), by constructor <;> decide +kernel, rfl⟩
          · exact ⟨_, .list [.int 0], hz rfl, mkS fun _ x => .lst (SqL.of ((x l1 (by simp)).trans el9)) (.cons (.int 0) .nil), by constructor <;> decide +kernel, rfl⟩
          · exact ⟨_, .tuple [], hz rfl, mkS fun _ x => .tup (SqT.of ((x t2 (by simp)).trans e29)) .nil, by constructor <;> decide +kernel, rfl⟩
          · exact ⟨_, _, hz rfl, mkS fun _ _ => .int _, gi (by decide +kernel), liveD_out (by omega)⟩
          · refine ⟨_, _, hz rfl, mkS fun _ _ => .int _, gi (Nat.lt_of_le_of_lt (show (0 - (slots.length : Int)).natAbs ≤ 40 by omega) (by decide +kernel)), liveD_out ?_⟩
            omega
          · exact ⟨_, .tuple [.tuple [], .int 1], hz rfl, mkS fun _ x => .tup (SqT.of ((x t4 (by simp)).trans e49)) (.cons (.tup (SqT.of ((x t3 (by simp)).trans e39)) .nil) (.cons (.int 1) .nil)), by constructor <;> decide +kernel, rfl⟩
        · obtain ⟨j, rfl⟩ : ∃ j : Nat, m = 14 + j := ⟨m - 14, by omega⟩
          have hj : j < ns.length := by omega
          have hx := List.getElem?_eq_getElem hj
          have hm := hns _ (List.getElem_mem hj)
          have hlt : ns[j] < slots.length := (List.getElem?_eq_some_iff.mp hm).1
          refine ⟨_, _, by rw [List.getElem?_append_right (by omega), hzl, Nat.add_sub_cancel_left]; exact natV_get hx, mkS fun _ _ => .int _, gi (Nat.lt_of_le_of_lt (show ((ns[j] : Nat) : Int).natAbs ≤ 40 by omega) (by decide +kernel)), ?_⟩
          rw [liveD_int, Int.toNat_natCast, hm]
          simp
      obtain ⟨v, d, hva, hd, hg, hl⟩ := hat
      exact ⟨Z, _, _, _, rfl, rfl, SqL.of eZ9, atI_nat hva, k v d _ H9 (((k1.trans k8).mono (by simp)).trans k9) P9 hf hd hg hl⟩
end

section
variable {P : Program} {w : World} {K : PySem.W.Frag} {mg : Str → Option Value} {base : Heap}

theorem nats_int (l : List Nat) : (l.map fun m : Nat => V.int m) = (l.map fun m : Nat => (m : Int)).map V.int := by rw [List.map_map]; rfl
theorem flat_natsA (l : List Nat) : (l.map fun m : Nat => V.int m).all flatV = true := by rw [nats_int]; exact flat_ints _
theorem in_nats {n : Nat} {l : List Nat} : inV (.int (n : Int)) (l.map fun m : Nat => V.int m) = decide (n ∈ l) := by
  rw [nats_int, in_int]
  by_cases h : n ∈ l
  · rw [decide_eq_true h, decide_eq_true (List.mem_map.mpr ⟨n, h, rfl⟩)]
  · rw [decide_eq_false h, decide_eq_false fun z => by
      obtain ⟨m, hm, e⟩ := List.mem_map.mp z
      have : m = n := by omega
      exact h (this ▸ hm)]
end

/-- row or () -/
theorem orRow {K : PySem.W.Frag} {σ : SS} {H : Hp} {Q : VK} {o : Option Rw} {x : V} (hx : (o = none ∧ x = .non) ∨ ∃ r row, o = some row ∧ x = .ref r ∧ SqT K H r (rowV row)) (q : ∀ p H', Kx [] H H' → SqT K H' p (rowV (o.getD [])) → Q (.ref p) H') : ∃ k, TruV K x H k ∧ if k = true then Q x H else tTup tNil σ H Q := by
  have em : tTup tNil σ H fun x H' => ∃ p, x = .ref p ∧ Kx [] H H' ∧ SqT K H' p [] := by
    refine x_tup (x_nil ⟨Nat.zero_le _, fun p np => ⟨p, rfl, (Kx.refl [] H).new np, SqT.of upd_same⟩⟩)
  have go : (∀ p H', Kx [] H H' → SqT K H' p [] → Q (.ref p) H') → tTup tNil σ H Q := fun h => x_tup (x_nil ⟨Nat.zero_le _, fun p np => h p _ ((Kx.refl [] H).new np) (SqT.of upd_same)⟩)
  rcases hx with ⟨rfl, rfl⟩ | ⟨r, row, rfl, rfl, hr⟩
  · exact x_truN (iteN rfl (go fun p H' k h => q p H' k h))
  · refine x_truT hr ?_
    cases row with
    | nil => exact iteN rfl (go fun p H' k h => q p H' k h)
    | cons a l => exact iteP rfl (q r H (Kx.refl [] H) hr)
theorem rowOf_get {slots : List (Option Rw)} {i : Nat} (h : i < slots.length) : (slots[i]).getD [] = rowOf slots i := by
  unfold rowOf
  rw [List.getElem?_eq_getElem h]
  rfl
theorem flat_rowA (row : Rw) : (rowV row).all flatV = true := by
  unfold rowV
  rw [List.all_map, List.all_eq_true]
  intro x _
  cases x <;> rfl
theorem in_rowA {v : Nat} {row : Rw} : inV (.int (v : Int)) (rowV row) = decide (some v ∈ row) := by
  unfold rowV
  induction row with
  | nil => rfl
  | cons a r ih =>
    rw [List.map_cons]
    have e : inV (.int (v : Int)) (slotV a :: r.map slotV) = (eqV (slotV a) (.int (v : Int)) || inV (.int (v : Int)) (r.map slotV)) := rfl
    rw [e, ih]
    cases a with
    | none =>
      have : eqV (slotV none) (.int (v : Int)) = false := rfl
      rw [this, Bool.false_or]
      simp
    | some m =>
      have : eqV (slotV (some m)) (.int (v : Int)) = decide ((m : Int) = (v : Int)) := rfl
      rw [this]
      by_cases h : m = v
      · subst h
        simp
      · have h2 : ¬ ((m : Int) = (v : Int)) := by omega
        have h3 : ¬ (some v = some m) := fun e => h (Option.some.inj e).symm
        rw [decide_eq_false h2, Bool.false_or]
        exact decide_eq_decide.mpr ⟨List.mem_cons_of_mem _, fun z => (List.mem_cons.mp z).resolve_left h3⟩
def heldN (slots : List (Option Rw)) (v n : Nat) : List Nat := (List.range n).filter fun a => decide (some v ∈ rowOf slots a)
theorem heldN_succ (slots : List (Option Rw)) (v n : Nat) : heldN slots v (n + 1) = if some v ∈ rowOf slots n then heldN slots v n ++ [n] else heldN slots v n := by
  unfold heldN
  rw [List.range_succ, List.filter_append]
  by_cases h : some v ∈ rowOf slots n <;> simp [h]
theorem heldN_len (slots : List (Option Rw)) (v n : Nat) : (heldN slots v n).length ≤ n := by
  have := List.length_filter_le (fun a => decide (some v ∈ rowOf slots a)) (List.range n)
  rwa [List.length_range] at this
theorem heldN_mem {slots : List (Option Rw)} {v a : Nat} : a ∈ heldN slots v slots.length ↔ some v ∈ rowOf slots a := by
  unfold heldN
  rw [List.mem_filter, List.mem_range, decide_eq_true_iff]
  constructor
  · exact fun h => h.2
  · intro h
    obtain ⟨row, e, _⟩ := row_of_mem h
    exact ⟨(List.getElem?_eq_some_iff.mp e).1, h⟩
/-- an order that fits -/
structure OrdOk (slots : List (Option Rw)) (outs : List Int) (n : Nat) (ord : List Nat) (aim : Nat) : Prop where
  len : ord.length ≤ 40
  lv : ∀ m ∈ ord, isLive slots m = true
  nd : ord.Nodup
  hd : ord[0]? = some n
  z : ∀ m ∈ ord, (outs[m]?).getD 0 = 0
  hold : ∀ (i p : Nat), ord[i]? = some p → ∀ a, some p ∈ rowOf slots a → a ∈ ord.take i
  last : ord[ord.length - 1]? = some aim
structure WalkOk (slots : List (Option Rw)) (outs : List Int) (ws : List Nat) (aim : Nat) : Prop where
  len : ws.length ≤ 41
  lv : ∀ m ∈ ws, isLive slots m = true
  hd : ws[0]? = some aim
  st : ∀ (i a b : Nat), ws[i]? = some a → ws[i + 1]? = some b → some a ∈ rowOf slots b
  fin : ∃ is a, ws = is ++ [a] ∧ ((outs[a]?).getD 0 > 0 ∨ a ∈ is)
section
variable {P : Program} {w : World} {K : PySem.W.Frag} {mg : Str → Option Value} {base : Heap}
end

/-- how the law grows the set of what is lost -/
structure GrS (slots : List (Option Rw)) (outs : List Int) (L : List Nat) : Prop where
  nd : L.Nodup
  ok : ∀ (i p : Nat), L[i]? = some p → isLive slots p = true ∧ (outs[p]?).getD 0 = 0 ∧ ∀ a, some p ∈ rowOf slots a → a ∈ L.take i
def GrC (slots : List (Option Rw)) (outs : List Int) (L : List Nat) (p : Nat) : Prop := isLive slots p = true → (outs[p]?).getD 0 = 0 → p ∉ L → ∃ a, some p ∈ rowOf slots a ∧ a ∉ L
theorem GrS.len {slots : List (Option Rw)} {outs : List Int} {L : List Nat} (g : GrS slots outs L) (h40 : slots.length ≤ 40) : L.length ≤ 40 := by
  have := g.nd.length_le_of_subset (l₂ := List.range slots.length) fun m hm => by
    obtain ⟨i, hi⟩ := List.mem_iff_getElem?.mp hm
    obtain ⟨_, _, h⟩ := live_lt (g.ok i m hi).1
    exact List.mem_range.mpr h
  rw [List.length_range] at this
  omega
theorem GrS.add {slots : List (Option Rw)} {outs : List Int} {L : List Nat} (g : GrS slots outs L) {p : Nat} (hl : isLive slots p = true) (hz : (outs[p]?).getD 0 = 0) (hn : p ∉ L) (hh : ∀ a, some p ∈ rowOf slots a → a ∈ L) : GrS slots outs (L ++ [p]) := by
  refine ⟨List.nodup_append.mpr ⟨g.nd, by simp, fun a ha b hb e => by rw [List.mem_singleton.mp hb] at e; exact hn (e ▸ ha)⟩, fun i q hi => ?_⟩
  rcases Nat.lt_or_ge i L.length with lt | ge
  · rw [List.getElem?_append_left lt] at hi
    rw [List.take_append_of_le_length (Nat.le_of_lt lt)]
    exact g.ok i q hi
  · rw [List.getElem?_append_right (by omega)] at hi
    have h0 : i = L.length := by
      have := (List.getElem?_eq_some_iff.mp hi).1
      have e : [p].length = 1 := rfl
      omega
    subst h0
    rw [Nat.sub_self] at hi
    cases Option.some.inj (hi : some p = some q)
    rw [List.take_append_of_le_length (Nat.le_refl _), List.take_length]
    exact ⟨hl, hz, hh⟩
theorem grow_log {slots : List (Option Rw)} {o1 : List Int} {n : Nat} {s' : FS} {L : List Nat} (li : LI slots o1 n s') (wk : Wk slots o1 s') (hp : s'.pend = []) (he : s'.shelf = []) (rf : ∀ p, isLive slots p = true → p ≠ n → (o1[p]?).getD 0 = 0 → ∃ a, some p ∈ rowOf slots a) (g : GrS slots o1 L)
    (hc : (∀ p, p < slots.length → GrC slots o1 L p) ∨ (L = [] ∧ ¬ ((o1[n]?).getD 0 = 0 ∧ ∀ a, some n ∉ rowOf slots a))) : ∀ p, p ∈ L ↔ p ∈ s'.log := by
  have a : ∀ (i p : Nat), L[i]? = some p → p ∈ s'.log := by
    intro i
    induction i using Nat.strongRecOn with
    | ind i ih =>
      intro p h
      obtain ⟨h1, h2, h4⟩ := g.ok i p h
      have hlet : Let slots n p := by
        by_cases e : p = n
        · exact .inl e
        · obtain ⟨b, hb⟩ := rf p h1 e h2
          obtain ⟨row, er, _⟩ := row_of_mem hb
          exact .inr ⟨b, (List.getElem?_eq_some_iff.mp er).1, hb⟩
      refine lost_in li hp he h1 hlet h2 fun x _ hm => ?_
      obtain ⟨j, hj⟩ := List.mem_iff_getElem?.mp (h4 x hm)
      have hji : j < i := by
        have := (List.getElem?_eq_some_iff.mp hj).1
        rw [List.length_take] at this
        omega
      rw [List.getElem?_take_of_lt hji] at hj
      exact ih j hji x hj
  have mem0 : ∀ {q x : Nat}, some q ∈ rowOf slots x → x < slots.length := fun hm => by
    obtain ⟨row, er, _⟩ := row_of_mem hm
    exact (List.getElem?_eq_some_iff.mp er).1
  have b : ∀ (i p : Nat), s'.log[i]? = some p → p ∈ L := by
    rcases hc with hc | ⟨rfl, hn⟩
    · intro i
      induction i using Nat.strongRecOn with
      | ind i ih =>
        intro p h
        obtain ⟨h2, h4, _⟩ := li.j i p h
        have hlv := wk.ok.lv p (List.mem_append_left _ (List.mem_of_getElem? h))
        obtain ⟨_, _, hlt⟩ := live_lt hlv
        by_cases hin : p ∈ L
        · exact hin
        · obtain ⟨x, hx, hxL⟩ := hc p hlt hlv h2 hin
          obtain ⟨j, hj⟩ := List.mem_iff_getElem?.mp (h4 x (mem0 hx) hx)
          have hji : j < i := by
            have := (List.getElem?_eq_some_iff.mp hj).1
            rw [List.length_take] at this
            omega
          rw [List.getElem?_take_of_lt hji] at hj
          exact absurd (ih j hji x hj) hxL
    · intro i p h
      exfalso
      have h0 : 0 < s'.log.length := by
        have := (List.getElem?_eq_some_iff.mp h).1
        omega
      have e0 := List.getElem?_eq_getElem h0
      have en := first_spot li e0
      obtain ⟨h2, h4, _⟩ := li.j 0 _ e0
      rw [en] at h2 h4
      exact hn ⟨h2, fun a ha => absurd (h4 a (mem0 ha) ha) (by simp)⟩
  intro p
  constructor
  · intro h
    obtain ⟨i, hi⟩ := List.mem_iff_getElem?.mp h
    exact a i p hi
  · intro h
    obtain ⟨i, hi⟩ := List.mem_iff_getElem?.mp h
    exact b i p hi
/-- the law's list of what a drop of n destroys, ascending -/
def IsGone (slots : List (Option Rw)) (outs : List Int) (n : Nat) (ns : List Int) : Prop := ∃ L : List Nat, ns.Perm (L.map fun m : Nat => (m : Int)) ∧ ns.Pairwise (· ≤ ·) ∧ L.Nodup ∧ L.length ≤ 40 ∧ GrS slots outs L ∧ ((∀ p, p < slots.length → GrC slots outs L p) ∨ (L = [] ∧ ¬ ((outs[n]?).getD 0 = 0 ∧ ∀ a, some n ∉ rowOf slots a)))
theorem oneN_snoc (A l : List Nat) (h : Nat) : ((l ++ [h]).filter fun x => !decide (x ∈ A)) = if h ∈ A then l.filter (fun x => !decide (x ∈ A)) else l.filter (fun x => !decide (x ∈ A)) ++ [h] := by
  rw [List.filter_append]
  by_cases hh : h ∈ A <;> simp [hh]
section
variable {P : Program} {w : World} {K : PySem.W.Frag} {mg : Str → Option Value} {base : Heap}

theorem x_eqNilI {H : Hp} {Q : VK} {a b : Addr} {cs : List Int} (h : SqL K H a (cs.map V.int)) (hb : SqL K H b []) (q : Q (.bl cs.isEmpty) H) : rEqD K (.ref a) (.ref b) H Q := by
  refine x_eqNilD (ds := cs.map PyData.int) h (dp_intsT cs) (shaped_ints cs) hb ?_
  have e : (cs.map PyData.int).isEmpty = cs.isEmpty := by cases cs <;> rfl
  rw [e]
  exact q
theorem x_eqNilN {H : Hp} {Q : VK} {a b : Addr} {cs : List Nat} (h : SqL K H a (cs.map fun m : Nat => V.int m)) (hb : SqL K H b []) (q : Q (.bl cs.isEmpty) H) : rEqD K (.ref a) (.ref b) H Q := by
  rw [nats_int] at h
  refine x_eqNilI h hb ?_
  have e : (cs.map fun m : Nat => (m : Int)).isEmpty = cs.isEmpty := by cases cs <;> rfl
  rw [e]
  exact q
def spGone (K : PySem.W.Frag) : Sp := fun vs H Q _ => ∃ (D : Addr) (n : Nat) (slots : List (Option Rw)) (outs : List Int) (z : Int), vs = [.ref D, .int n] ∧ HeapT K H D slots outs ∧ Wf slots outs ∧ isLive slots n = true ∧ outs[n]? = some z ∧
  ∀ p H' ns, H p = none → Kx [] H H' → H' p = some (.lst (ns.map V.int)) → IsGone slots (outs.set n (z - 1)) n ns → Q (.ref p) H'
theorem ok_gone {f : Addr} {fd : FuncData} (F : Fun K "_law_gone" "_law_gone" sQGone f fd) (T : Txt mg) : FnOk P w K mg base CX0 1 f fd ["_law_home", "_law_spot"] (spGone K) := by
  refine F.ok scQGone (fun vs H Q E h => ?_) (fun cdv A outer s H vs Q E hr h => ?_)
  · obtain ⟨D, n, slots, outs, z, rfl, _⟩ := h
    rfl
  · obtain ⟨D, n, slots, outs, z, rfl, hT, wf, hlv, hz, k⟩ := h
    obtain ⟨S, O, vs, hD, hS, hO, hl, hv⟩ := id hT.ex
    have h40 := wf.most
    have hol := wf.len
    obtain ⟨_, _, hnlt⟩ := live_lt hlv
    refine ⟨_, (pss_cons (ps_asg (pv 0) (pg_tup rfl (pgs_cons (pg_name (i := 2) scQGone.nd rfl (Or.inr rfl)) (pgs_cons (pg_name (i := 3) scQGone.nd rfl (Or.inr rfl)) pgs_nil))))
      (pss_cons (ps_setLc (i := 5) (own := [("_law_v", 4)]) rfl scQGone.nd rfl rfl (sw_true rfl rfl rfl (by decide +kernel)) (pi_range1 (by rfl) T.b_range (pa_cons (pe_callB call_len_seq (by rfl) T.b_len boot'_len (pa_cons (pv 2) pa_nil)) pa_nil)) (blkOk_by (N := ["_law_home", "_law_spot", "_law_rows", "_law_outside", "_law_v", "_law_left", "_law_holding", "_law_found", "_law_grown", "_law_a"]) (sc := defScope sQGone) (by decide +kernel)) (fun _ _ _ _ _ => (pg_name (i := 4) scQGone.nd rfl (Or.inl rfl))) (fun _ _ _ _ _ => pts_nil) (fun _ _ _ _ _ => (pe_op op_sub (pe_ix ix_tupK (pv 3) (pv 4) (fun _ _ => rfl)) (pe_callTy call_int1 (by rfl) T.b_int boot'_int (pa_cons (pe_cmpR op_eq (pv 4) (pv 1) (nomark _)) pa_nil)))))
      (pss_cons (ps_setLc (i := 6) (own := [("_law_v", 4)]) rfl scQGone.nd rfl rfl (sw_true rfl rfl rfl (by decide +kernel)) (pi_range1 (by rfl) T.b_range (pa_cons (pe_callB call_len_seq (by rfl) T.b_len boot'_len (pa_cons (pv 2) pa_nil)) pa_nil)) (blkOk_by (N := ["_law_home", "_law_spot", "_law_rows", "_law_outside", "_law_v", "_law_left", "_law_holding", "_law_found", "_law_grown", "_law_a"]) (sc := defScope sQGone) (by decide +kernel)) (fun _ _ _ _ _ => (pg_name (i := 4) scQGone.nd rfl (Or.inr rfl))) (fun _ _ _ _ _ => pts_nil) (fun _ _ _ _ _ => (pe_lc (own := [("_law_a", 9)]) rfl scQGone.nd (pi_range1 (by rfl) T.b_range (pa_cons (pe_callB (call_lenK (K := K)) (by rfl) T.b_len boot'_len (pa_cons (pv 2) pa_nil)) pa_nil)) (blkOk_byN (N := ["_law_home", "_law_spot", "_law_rows", "_law_outside", "_law_v", "_law_left", "_law_holding", "_law_found", "_law_grown", "_law_a"]) (by show blkC _ (relabel' _ (defScope sQGone)) _ _ = true; decide +kernel)) (fun _ _ _ _ _ => (pg_name (i := 9) scQGone.nd rfl (Or.inl rfl))) (fun _ _ _ _ _ => (pts_one (pt_cmpR (op_in_seqK (K := K)) (pv 4) (pe_orTK (K := K) (pe_ix ix_tupK (pv 2) (pv 9) (fun _ _ => rfl)) (pe_one (pe_tup pa_nil))) (by with_unfolding_all rfl)))) (fun _ _ _ _ _ => (pv 9)))))
      (pss_cons (ps_set (i := 7) scQGone.nd rfl (Or.inr rfl) (pe_lst pa_nil))
      (pss_cons (ps_set (i := 8) scQGone.nd rfl (Or.inl rfl) (pe_and (pe_cmpR op_eq (pe_ix ix_list (pv 5) (pv 1) (fun _ _ => rfl)) pe_int (nomark _)) (pe_one (pe_cmpR (op_eqD hr.units) (pe_ix ix_list (pv 6) (pv 1) (fun _ _ => rfl)) (pe_lst pa_nil) (nomark _)))))
      (pss_cons (ps_if (pt_val (pv 8)) (pss_one (ps_set (i := 7) scQGone.nd rfl (Or.inr rfl) (pe_lst (pa_cons (pv 1) pa_nil)))) pss_nil)
      (pss_cons (ps_while PassesOwn.never (pt_val (pv 8))
      (pss_cons (ps_set (i := 8) scQGone.nd rfl (Or.inl rfl) pe_bl)
      (pss_one (ps_for PassesOwn.never rfl (pi_range1 (by rfl) T.b_range (pa_cons (pe_callB call_len_seq (by rfl) T.b_len boot'_len (pa_cons (pv 2) pa_nil)) pa_nil)) (pg_name (i := 4) scQGone.nd rfl (Or.inl rfl))
      (pss_one (ps_if (PW.pt (pw_and (pt_cmpR op_notIn_seq (pv 4) (pv 7) (by with_unfolding_all rfl)) (pw_and (pt_cmpR op_notN1 (pe_ix ix_tup (pv 2) (pv 4) (fun _ _ => rfl)) pe_non (nomark _)) (pw_and1 (pt_cmpR op_eq (pe_ix ix_list (pv 5) (pv 4) (fun _ _ => rfl)) pe_int (nomark _)))))) (pss_one (ps_if (pt_cmpR (op_eqD hr.units) (pe_lc (own := [("_law_a", 9)]) rfl scQGone.nd (pi_list (pe_ix ix_list (pv 6) (pv 4) (fun _ _ => rfl))) (blkOk_by (N := ["_law_home", "_law_spot", "_law_rows", "_law_outside", "_law_v", "_law_left", "_law_holding", "_law_found", "_law_grown", "_law_a"]) (sc := defScope sQGone) (by decide +kernel)) (fun _ _ _ _ _ => (pg_name (i := 9) scQGone.nd rfl (Or.inl rfl))) (fun _ _ _ _ _ => (pts_one (pt_cmpR (op_notIn_seqK (K := K)) (pv 9) (pv 7) (by with_unfolding_all rfl)))) (fun _ _ _ _ _ => (pv 9))) (pe_lst pa_nil) (nomark _)) (pss_cons (ps_expr (pe_bm PySem.F.plainAttrs_list PySem.F.slot_list_append PySem.F.type_list_append mt_append (pv 7) (pa_cons (pv 4) pa_nil)))
      (pss_one (ps_set (i := 8) scQGone.nd rfl (Or.inl rfl) pe_bl))) pss_nil)) pss_nil))))))
      (pss_one (ps_ret (pe_callB cr_sortedI (by rfl) T.b_sorted boot'_sorted (pa_cons (pv 7) pa_nil))))))))))), ?_⟩
    refine x_start (σ' := [some (.ref D), some (.int n), none, none, none, none, none, none, none, none]) rfl ?_
    try dsimp only [cxOf]
    repeat walk_at "rd"
    rw [hl]
    have hgo : ∀ i : Nat, i < slots.length → (outs.set n (z - 1))[i]? = some ((outs.set n (z - 1)).getD i 0) := fun i hi => by
      rw [List.getD_eq_getElem?_getD, List.getElem?_eq_getElem (by rw [List.length_set]; omega)]
      rfl
    refine y_lcR1 (by omega) (by omega) (fun A nA => ⟨fun i H2 => Kx [] H H2 ∧ H2 A = some (.lst (((outs.set n (z - 1)).take i).map V.int)), ⟨(Kx.refl _ _).new nA, upd_same⟩, fun _ _ _ _ => trivial, ?_, ?_⟩)
    · rintro i x H2 H2' hi ⟨k2, eA⟩ ⟨rfl, rfl⟩
      rw [Int.toNat_natCast] at hi
      have hio : i < outs.length := by omega
      have hat : atI (outs.map V.int) (i : Int) = some (.int outs[i]) := atI_nat (by rw [List.getElem?_map, List.getElem?_eq_getElem hio]; rfl)
      have hO2 := k2.sqT (by simp) hO
      dsimp only
      rw [Int.zero_add]
      repeat walk_at "rd"
      refine ⟨rfl, ?_⟩
      repeat walk_at "rd"
      refine ⟨_, eA, big_line (by rw [List.length_map, List.length_take, List.length_set]; omega), k2.wr (.inl nA), ?_⟩
      rw [upd_same, List.take_add_one, List.map_append, hgo i hi]
      congr 3
      have hzo : outs[n]? = some outs[n] := List.getElem?_eq_getElem (by omega)
      have hzn : outs[n] = z := Option.some.inj (hzo.symm.trans hz)
      rw [List.getD_eq_getElem?_getD]
      by_cases e : n = i
      · subst e
        rw [List.getElem?_set_self hio, hzn]
        simp
      · rw [List.getElem?_set_ne e, List.getElem?_eq_getElem hio, decide_eq_false (fun h => e (by have := V.int.inj h; omega))]
        simp
    rintro H2 ⟨k2, eA⟩
    rw [Int.toNat_natCast, show slots.length = (outs.set n (z - 1)).length by rw [List.length_set]; omega, List.take_length] at eA
    have hS2 := k2.sqT (by simp) hS
    repeat walk_at "rd"
    rw [hl]
    refine y_lcR1 (by omega) (by omega) (fun G nG => ⟨fun i H3 => Kx [] H2 H3 ∧ ∃ gs : List Addr, gs.length = i ∧ H3 G = some (.lst (gs.map V.ref)) ∧ ∀ (v : Nat) (g : Addr), gs[v]? = some g → g ≠ G ∧ H3 g = some (.lst ((heldN slots v slots.length).map fun m : Nat => V.int m)), ⟨(Kx.refl _ _).new nG, [], rfl, upd_same, fun v g h => by cases h⟩, fun _ _ _ _ => trivial, ?_, ?_⟩)
    · rintro i x H3 H3' hi ⟨k3, gs, hgl, eG, hgs⟩ ⟨rfl, rfl⟩
      rw [Int.toNat_natCast] at hi
      have hS3 := k3.sqT (by simp) hS2
      dsimp only
      rw [Int.zero_add]
      repeat walk_at "rd"
      refine ⟨rfl, ?_⟩
      repeat walk_at "rd"
      rw [hl]
      refine y_lcR1 (by omega) (by omega) (fun Z nZ => ⟨fun a H4 => Kx [] H3' H4 ∧ H4 Z = some (.lst ((heldN slots i a).map fun m : Nat => V.int m)), ⟨(Kx.refl _ _).new nZ, upd_same⟩, fun _ _ _ _ => trivial, ?_, ?_⟩)
      · rintro a x H4 H4' ha ⟨k4, eZ⟩ ⟨rfl, rfl⟩
        rw [Int.toNat_natCast] at ha
        have es := List.getElem?_eq_getElem ha
        have hvi : vs[a]? = some vs[a] := List.getElem?_eq_getElem (by omega)
        have hat : atI vs (a : Int) = some vs[a] := atI_nat hvi
        have hS4 := k4.sqT (by simp) hS3
        have hlen := heldN_len slots i a
        have hx : (slots[a] = none ∧ vs[a] = .non) ∨ ∃ r row, slots[a] = some row ∧ vs[a] = .ref r ∧ SqT K H4' r (rowV row) := by
          rcases hv a _ es with ⟨e, z⟩ | ⟨r, row, e, z, hR⟩
          · exact .inl ⟨e, Option.some.inj (hvi.symm.trans z)⟩
          · exact .inr ⟨r, row, e, Option.some.inj (hvi.symm.trans z), ((k2.trans k3).trans k4).sqT (by simp) hR⟩
        generalize vs[a] = x at *
        dsimp only
        rw [Int.zero_add]
        repeat walk_at "rd"
        refine ⟨rfl, ?_⟩
        repeat walk_at "rd"
        refine orRow hx fun p H5 k5 hp => ?_
        rw [rowOf_get ha] at hp
        have eZ5 := k5 Z _ (by simp) eZ
        have k45 := k4.trans k5
        repeat walk_at "rd"
        refine x_inT hp rfl (flat_rowA _) ?_
        rw [in_rowA]
        repeat walk_at "rd"
        by_cases h : some i ∈ rowOf slots a
        · refine iteP (decide_eq_true h) ?_
          repeat walk_at "rd"
          refine ⟨_, eZ5, big_line (by rw [List.length_map]; omega), k45.wr (.inl nZ), ?_⟩
          rw [upd_same, heldN_succ, if_pos h, List.map_append]
          rfl
        · refine iteN (decide_eq_false h) ⟨k45, ?_⟩
          rw [heldN_succ, if_neg h]
          exact eZ5
      rintro H4 ⟨k4, eZ⟩
      rw [Int.toNat_natCast] at eZ
      have eG4 := k4 G _ (by simp) eG
      have nZG : Z ≠ G := (ne_of_none eG nZ).symm
      repeat walk_at "rd"
      refine ⟨_, eG4, big_line (by rw [List.length_map]; omega), (k3.trans k4).wr (.inl nG), gs ++ [Z], by rw [List.length_append, hgl]; rfl, by rw [upd_same, List.map_append]; rfl, fun v g hg => ?_⟩
      rcases Nat.lt_or_ge v gs.length with lt | ge
      · rw [List.getElem?_append_left lt] at hg
        obtain ⟨h1, h2⟩ := hgs v g hg
        exact ⟨h1, lk_ne2 h1 (k4 _ _ (by simp) h2)⟩
      · rw [List.getElem?_append_right ge] at hg
        have h0 : v = gs.length := by
          have := (List.getElem?_eq_some_iff.mp hg).1
          have e : [Z].length = 1 := rfl
          omega
        rw [h0, Nat.sub_self] at hg
        cases Option.some.inj (hg : some Z = some g)
        rw [h0, hgl]
        exact ⟨nZG, lk_ne2 nZG eZ⟩
    rintro H3 ⟨k3, gs, hgl, eG, hgs⟩
    rw [Int.toNat_natCast] at hgl
    have hS3 := k3.sqT (by simp) hS2
    have eA3 := k3 A _ (by simp) eA
    have hgat : ∀ v : Nat, v < slots.length → ∃ g, atI (gs.map V.ref) (v : Int) = some (.ref g) ∧ H3 g = some (.lst ((heldN slots v slots.length).map fun m : Nat => V.int m)) := fun v hv => by
      have e := List.getElem?_eq_getElem (l := gs) (i := v) (by omega)
      exact ⟨gs[v], atI_nat (by rw [List.getElem?_map, e]; rfl), (hgs v _ e).2⟩
    obtain ⟨gn, hatn, egn⟩ := hgat n hnlt
    have hoat : ∀ v : Nat, v < slots.length → atI ((outs.set n (z - 1)).map V.int) (v : Int) = some (.int (((outs.set n (z - 1))[v]?).getD 0)) := fun v hv => atI_nat (by rw [List.getElem?_map, hgo v hv]; rfl)
    have hoatn := hoat n hnlt
    generalize hot : outs.set n (z - 1) = ot at *
    have hHn : heldN slots n slots.length = [] ↔ ∀ a, some n ∉ rowOf slots a := by
      constructor
      · intro h a ha
        have := heldN_mem.mpr ha
        rw [h] at this
        cases this
      · intro h
        cases e : heldN slots n slots.length with
        | nil => rfl
        | cons a r => exact absurd (heldN_mem.mp (by rw [e]; exact List.mem_cons_self)) (h a)
    have hInit : GrS slots ot [] := ⟨List.nodup_nil, fun i p h => by cases h⟩
    refine x_name ?_
    simp only [List.set_cons_zero, List.set_cons_succ]
    refine x_seq ?_
    refine x_asg ?_
    refine x_lst (x_nil ⟨Nat.zero_le _, fun FF nFF => ?_⟩)
    refine x_name ?_
    simp only [List.set_cons_zero, List.set_cons_succ]
    have kF := (Kx.refl [] H3).new (o := .lst []) nFF
    have eF := upd_same (H := H3) (a := FF) (o := .lst [])
    generalize upd H3 FF (.lst []) = H4 at *
    refine x_seqG (fun σ H5 => ∃ b : Bool, σ = [some (.ref D), some (.int n), some (.ref S), some (.ref O), none, some (.ref A), some (.ref G), some (.ref FF), some (.bl b), none] ∧ Kx [] H3 H5 ∧ H5 FF = some (.lst []) ∧ (b = true ↔ ((ot[n]?).getD 0 = 0 ∧ ∀ a, some n ∉ rowOf slots a))) (fun GG hGG => ?_) ?_
    · have eA4 := kF A _ (by simp) eA3
      have eG4 := kF G _ (by simp) eG
      have egn4 := kF gn _ (by simp) egn
      repeat walk_at "rd"
      by_cases h0 : (ot[n]?).getD 0 = 0
      · refine iteP (decide_eq_true (by rw [h0])) ?_
        repeat walk_at "rd"
        rename_i q nq
        refine x_eqNilN (SqL.of (lk_ne egn4 nq)) (SqL.of upd_same) ?_
        repeat walk_at "rd"
        refine hGG _ _ ⟨_, rfl, kF.new nq, lk_ne eF nq, ?_⟩
        rw [List.isEmpty_iff, hHn]
        exact ⟨fun h => ⟨h0, h⟩, fun h => h.2⟩
      · refine iteN (decide_eq_false (fun h => h0 (V.int.inj h))) ?_
        repeat walk_at "rd"
        exact hGG _ _ ⟨false, rfl, kF, eF, by simp [h0]⟩
    rintro σ H5 ⟨b0, rfl, k5, eF5, hb0⟩
    refine x_seqG (fun σ H6 => ∃ (FA : Addr) (b : Bool) (L : List Nat), σ = [some (.ref D), some (.int n), some (.ref S), some (.ref O), none, some (.ref A), some (.ref G), some (.ref FA), some (.bl b), none] ∧ Kx [] H3 H6 ∧ H6 FA = some (.lst (L.map fun m : Nat => V.int m)) ∧ H3 FA = none ∧ GrS slots ot L ∧ (b = false → L = [] ∧ ¬ ((ot[n]?).getD 0 = 0 ∧ ∀ a, some n ∉ rowOf slots a))) (fun GG hGG => ?_) ?_
    · repeat walk_at "rd"
      cases b0 with
      | true =>
        obtain ⟨i1, i2⟩ := hb0.mp rfl
        try refine iteP rfl ?_
        repeat walk_at "rd"
        rename_i q nq
        refine hGG _ _ ⟨q, true, [n], rfl, k5.new nq, upd_same, k5.fresh (by simp) nq, ?_, fun h => by cases h⟩
        have := hInit.add hlv i1 (by simp) (fun a ha => absurd ha (i2 a))
        simpa using this
      | false =>
        try refine iteN rfl ?_
        repeat walk_at "rd"
        exact hGG _ _ ⟨FF, false, [], rfl, k5, eF5, nFF, hInit, fun _ => ⟨rfl, fun h => by have := hb0.mpr h; cases this⟩⟩
    clear k5 eF5 hb0 kF eF
    rintro σ H6 ⟨FA, b1, L1, rfl, k6, eF6, nFA, g1, hb1⟩
    repeat walk_at "rd"
    refine ⟨fun m σ H7 => ∃ (b : Bool) (L : List Nat) (y4 : Option V), σ = [some (.ref D), some (.int n), some (.ref S), some (.ref O), y4, some (.ref A), some (.ref G), some (.ref FA), some (.bl b), none] ∧ Kx [] H3 H7 ∧ H7 FA = some (.lst (L.map fun m : Nat => V.int m)) ∧ GrS slots ot L ∧ m = 2 * (41 - L.length) + (if b then 1 else 0) ∧
      (b = false → (∀ p, p < slots.length → GrC slots ot L p) ∨ (L = [] ∧ ¬ ((ot[n]?).getD 0 = 0 ∧ ∀ a, some n ∉ rowOf slots a))), ⟨_, b1, L1, none, rfl, k6, eF6, g1, rfl, fun h => .inr (hb1 h)⟩, ?_⟩
    rintro m σ H7 ⟨b, L, y4, rfl, k7, eF7, g, hm, hbf⟩
    have hgl0 := g.len h40
    repeat walk_at "rd"
    cases b with
    | false =>
      try refine iteN rfl ?_
      repeat walk_at "rd"
      rw [nats_int] at eF7
      refine x_sortedL (SqL.of eF7) fun ns q pm up nq => ?_
      exact k q _ ns (((k2.trans k3).trans k7).fresh (by simp) nq) (((k2.trans k3).trans k7).new nq) upd_same ⟨L, pm, up, g.nd, hgl0, g, hbf rfl⟩
    | true =>
      refine iteP rfl (x_turn ?_)
      have hS7 := k7.sqT (by simp) hS3
      repeat walk_at "rd"
      rw [hl]
      refine y_forR1 (by omega) (by omega) ⟨fun v σ H8 => ∃ (b' : Bool) (L' : List Nat) (y4 : Option V), σ = [some (.ref D), some (.int n), some (.ref S), some (.ref O), y4, some (.ref A), some (.ref G), some (.ref FA), some (.bl b'), none] ∧ Kx [] H3 H8 ∧ H8 FA = some (.lst (L'.map fun m : Nat => V.int m)) ∧ GrS slots ot L' ∧ (b' = true → L.length < L'.length) ∧ (b' = false → L' = L ∧ ∀ p, p < v → GrC slots ot L p), ⟨false, L, _, rfl, k7, eF7, g, (fun h => by cases h), fun _ => ⟨rfl, fun p h => absurd h (Nat.not_lt_zero _)⟩⟩, fun _ _ _ _ _ => trivial, ?_, ?_⟩
      · rintro v x σ H8 H8' hv' ⟨b', L', y4, rfl, k8, eF8, g8, hbt, hbff⟩ ⟨rfl, rfl⟩
        rw [Int.toNat_natCast] at hv'
        have hgl8 := g8.len h40
        have es := List.getElem?_eq_getElem hv'
        have hvi : vs[v]? = some vs[v] := List.getElem?_eq_getElem (by omega)
        have hatS : atI vs (v : Int) = some vs[v] := atI_nat hvi
        have hS8 := k8.sqT (by simp) hS3
        have eA8 := k8 A _ (by simp) eA3
        have eG8 := k8 G _ (by simp) eG
        obtain ⟨gv, hatg, egv⟩ := hgat v hv'
        have egv8 := k8 gv _ (by simp) egv
        have hov := hoat v hv'
        have hlvv : isLive slots v = true ↔ vs[v] ≠ .non := by
          unfold isLive
          rw [es]
          rcases hv v _ es with ⟨e, z⟩ | ⟨r, row, e, z, hR⟩
          · rw [Option.some.inj (hvi.symm.trans z), e]
            simp
          · rw [Option.some.inj (hvi.symm.trans z), e]
            simp
        have stay : (isLive slots v = true → (ot[v]?).getD 0 = 0 → v ∉ L' → ∃ a, some v ∈ rowOf slots a ∧ a ∉ L') → ∀ Hx : Hp, Kx [] H3 Hx → Hx FA = some (.lst (L'.map fun m : Nat => V.int m)) → ∃ (b'' : Bool) (L'' : List Nat) (y4 : Option V), [some (V.ref D), some (.int n), some (.ref S), some (.ref O), some (.int (v : Int)), some (.ref A), some (.ref G), some (.ref FA), some (.bl b'), none] = [some (.ref D), some (.int n), some (.ref S), some (.ref O), y4, some (.ref A), some (.ref G), some (.ref FA), some (.bl b''), none] ∧ Kx [] H3 Hx ∧ Hx FA = some (.lst (L''.map fun m : Nat => V.int m)) ∧ GrS slots ot L'' ∧ (b'' = true → L.length < L''.length) ∧ (b'' = false → L'' = L ∧ ∀ p, p < v + 1 → GrC slots ot L p) := fun hC Hx kx ex => ⟨b', L', _, rfl, kx, ex, g8, hbt, fun hf => by
          obtain ⟨e1, e2⟩ := hbff hf
          refine ⟨e1, fun p hp => ?_⟩
          by_cases e : p = v
          · rw [e, ← e1]
            exact hC
          · exact e2 p (by omega)⟩
        dsimp only
        rw [Int.zero_add]
        generalize vs[v] = x at *
        repeat walk_at "rd"
        try refine x_notInL (SqL.of eF8) rfl (flat_natsA _) ?_
        rw [in_nats]
        by_cases hin : v ∈ L'
        · rw [decide_eq_true hin]
          repeat walk_at "rd"
          try refine iteN (by decide) ?_
          repeat walk_at "rd"
          try refine iteN (by decide) ?_
          repeat walk_at "rd"
          exact stay (fun _ _ h => absurd hin h) _ k8 eF8
        · rw [decide_eq_false hin]
          repeat walk_at "rd"
          try refine iteP (by decide) ?_
          repeat walk_at "rd"
          by_cases hnon : x = .non
          · refine iteN (by rw [hnon]; simp) ?_
            repeat walk_at "rd"
            try refine iteN (by decide) ?_
            repeat walk_at "rd"
            exact stay (fun h => absurd hnon (hlvv.mp h)) _ k8 eF8
          · refine iteP (by simp [hnon]) ?_
            repeat walk_at "rd"
            by_cases hz0 : (ot[v]?).getD 0 = 0
            · refine iteP (decide_eq_true (by rw [hz0])) ?_
              repeat walk_at "rd"
              have hhl := heldN_len slots v slots.length
              refine y_lcL (xs := (heldN slots v slots.length).map fun m : Nat => V.int m) (SqL.of egv8) (fun Z nZ => ⟨fun t H9 => Kx [] H8' H9 ∧ H9 Z = some (.lst ((((heldN slots v slots.length).take t).filter fun x => !decide (x ∈ L')).map fun m : Nat => V.int m)), ⟨(Kx.refl _ _).new nZ, upd_same⟩, ?_, ?_, ?_⟩)
              · rintro t H9 ht ⟨k9, _⟩
                exact k9.sqL (by simp) (SqL.of egv8)
              · rintro t x H9 H9' ht ⟨k9, eZ⟩ ⟨rfl, hx⟩
                rw [List.length_map] at ht
                have ett := List.getElem?_eq_getElem ht
                replace hx : ((heldN slots v slots.length).map fun m : Nat => V.int m)[t]? = some x := hx
                rw [List.getElem?_map, ett] at hx
                cases Option.some.inj hx
                have htk : (heldN slots v slots.length).take (t + 1) = (heldN slots v slots.length).take t ++ [(heldN slots v slots.length)[t]] := by rw [List.take_add_one, ett]; rfl
                have eF9 := k9 FA _ (by simp) eF8
                have hzl : ((((heldN slots v slots.length).take t).filter fun x => !decide (x ∈ L')).map fun m : Nat => V.int m).length < sizeLine := big_line (by
                  rw [List.length_map]
                  refine Nat.le_trans (List.length_filter_le _ _) ?_
                  rw [List.length_take]
                  omega)
                generalize (heldN slots v slots.length)[t] = a at *
                repeat walk_at "rd"
                refine ⟨rfl, ?_⟩
                repeat walk_at "rd"
                try refine x_notInL (SqL.of eF9) rfl (flat_natsA _) ?_
                rw [in_nats]
                repeat walk_at "rd"
                by_cases ha : a ∈ L'
                · refine iteN (by rw [decide_eq_true ha]; rfl) ⟨k9, ?_⟩
                  rw [htk, oneN_snoc, if_pos ha]
                  exact eZ
                · refine iteP (by rw [decide_eq_false ha]; rfl) ?_
                  repeat walk_at "rd"
                  refine ⟨_, eZ, hzl, k9.wr (.inl nZ), ?_⟩
                  rw [upd_same, htk, oneN_snoc, if_neg ha, List.map_append]
                  rfl
              rintro H9 ⟨k9, eZ⟩
              rw [List.length_map, List.take_length] at eZ
              repeat walk_at "rd"
              rename_i q nq
              refine x_eqNilN (SqL.of (lk_ne eZ nq)) (SqL.of upd_same) ?_
              have k10 := (k8.trans k9).new (o := .lst []) nq
              have eF10 := lk_ne (o := .lst []) (k9 FA _ (by simp) eF8) nq
              generalize upd H9 q (.lst []) = H10 at *
              by_cases hall : ∀ a, some v ∈ rowOf slots a → a ∈ L'
              · have he : ((heldN slots v slots.length).filter fun x => !decide (x ∈ L')) = [] := by
                  rw [List.filter_eq_nil_iff]
                  intro a ha
                  have := hall a (heldN_mem.mp ha)
                  simp [this]
                rw [he]
                repeat walk_at "rd"
                try refine iteP rfl ?_
                repeat walk_at "rd"
                refine ⟨ty_list (SqL.of eF10), ?_⟩
                repeat walk_at "rd"
                refine ⟨true, L' ++ [v], _, rfl, k10.wr (.inl nFA), by rw [upd_same, List.map_append]; rfl, g8.add (hlvv.mpr hnon) hz0 hin hall, fun _ => ?_, fun h => by cases h⟩
                rw [List.length_append, List.length_singleton]
                cases b' with
                | true => have := hbt rfl; omega
                | false => rw [(hbff rfl).1]; omega
              · have he : ((heldN slots v slots.length).filter fun x => !decide (x ∈ L')).isEmpty = false := by
                  cases e : ((heldN slots v slots.length).filter fun x => !decide (x ∈ L')) with
                  | cons _ _ => rfl
                  | nil =>
                    rw [List.filter_eq_nil_iff] at e
                    exact absurd (fun a ha => by have := e a (heldN_mem.mpr ha); simpa using this) hall
                rw [he]
                repeat walk_at "rd"
                try refine iteN rfl ?_
                repeat walk_at "rd"
                refine stay (fun _ _ _ => ?_) _ k10 eF10
                by_cases hex : ∃ a, some v ∈ rowOf slots a ∧ a ∉ L'
                · exact hex
                · exact absurd (fun a ha => by
                    by_cases h : a ∈ L'
                    · exact h
                    · exact absurd ⟨a, ha, h⟩ hex) hall
            · refine iteN (decide_eq_false (fun h => hz0 (V.int.inj h))) ?_
              repeat walk_at "rd"
              try refine iteN (by decide) ?_
              repeat walk_at "rd"
              exact stay (fun _ h => absurd h hz0) _ k8 eF8
      · rintro σ H8 ⟨b', L', y4, rfl, k8, eF8, g8, hbt, hbff⟩
        rw [Int.toNat_natCast] at hbff
        have hgl8 := g8.len h40
        repeat walk_at "rd"
        refine ⟨2 * (41 - L'.length) + (if b' then 1 else 0), ?_, b', L', _, rfl, k8, eF8, g8, rfl, fun h => .inl ?_⟩
        · cases b' with
          | true => have := hbt rfl; simp at hm ⊢; omega
          | false => rw [(hbff rfl).1]; simp at hm ⊢; omega
        · obtain ⟨e1, e2⟩ := hbff h
          rw [e1]
          exact e2
end


section
variable {P : Program} {w : World} {K : PySem.W.Frag} {mg : Str → Option Value} {base : Heap}
theorem sorted_same {A B : List Nat} (pab : A.Perm B) {ns ms : List Int} (h1 : ns.Perm (A.map fun n : Nat => (n : Int))) (h2 : ms.Perm (B.map fun n : Nat => (n : Int))) (s1 : ns.Pairwise (· ≤ ·)) (s2 : ms.Pairwise (· ≤ ·)) : ns = ms :=
  List.Perm.eq_of_pairwise (le := fun a b : Int => a ≤ b) (fun a b _ _ h1 h2 => Int.le_antisymm h1 h2) s1 s2 ((h1.trans (pab.map _)).trans h2.symm)
/-- the live nodes that the law says stay -/
def stayL (slots : List (Option Rw)) (gs : List Int) (n : Nat) : List Int := ((List.range n).filter fun m => isLive slots m && !decide ((m : Int) ∈ gs)).map fun m : Nat => (m : Int)
theorem stayL_succ (slots : List (Option Rw)) (gs : List Int) (n : Nat) : stayL slots gs (n + 1) = if (isLive slots n && !decide ((n : Int) ∈ gs)) = true then stayL slots gs n ++ [(n : Int)] else stayL slots gs n := by
  unfold stayL
  rw [List.range_succ, List.filter_append]
  by_cases h : (isLive slots n && !decide ((n : Int) ∈ gs)) = true
  · rw [if_pos h]
    simp only [List.filter_cons, h, if_true, List.filter_nil, List.map_append, List.map_cons, List.map_nil]
  · rw [if_neg h]
    rw [show List.filter (fun m : Nat => isLive slots m && !decide ((m : Int) ∈ gs)) [n] = [] by
      rw [List.filter_eq_nil_iff]
      intro a ha
      rw [List.mem_singleton.mp ha]
      exact h]
    rw [List.append_nil]
theorem stayL_len (slots : List (Option Rw)) (gs : List Int) (n : Nat) : (stayL slots gs n).length ≤ n := by
  unfold stayL
  rw [List.length_map]
  have := List.length_filter_le (fun m => isLive slots m && !decide ((m : Int) ∈ gs)) (List.range n)
  rwa [List.length_range] at this
theorem dp_intsL {H : Hp} : ∀ cs : List Int, DpAll K H (cs.map V.int) (cs.map PyData.int)
  | [] => .nil
  | _ :: r => .cons (.int _) (dp_intsL r)
theorem good_two {xs ys : List Int} (hx : ∀ x ∈ xs, 0 ≤ x ∧ x < 40) (hy : ∀ x ∈ ys, 0 ≤ x ∧ x < 40) (lx : xs.length ≤ 40) (ly : ys.length ≤ 40) : Good (.list [.list (xs.map PyData.int), .list (ys.map PyData.int)]) 2 (2 * (40 * 32 + 1)) := by
  have g : ∀ {zs : List Int}, (∀ x ∈ zs, 0 ≤ x ∧ x < 40) → zs.length ≤ 40 → Good (.list (zs.map PyData.int)) 1 (40 * 32) := fun h hl => Good.list (n := 40) (fun d hd => by
    obtain ⟨m, hm, rfl⟩ := List.mem_map.mp hd
    have := h m hm
    exact Good.int (by omega)) (by rw [List.length_map]; exact hl)
  refine Good.list (n := 2) (fun d hd => ?_) (Nat.le_refl _)
  simp only [List.mem_cons, List.not_mem_nil, or_false] at hd
  rcases hd with rfl | rfl
  · exact g hx lx
  · exact g hy ly
def spRight (K : PySem.W.Frag) : Sp := fun vs H Q _ => ∃ (D : Addr) (n : Nat) (slots : List (Option Rw)) (outs : List Int) (z : Int), vs = [.ref D, .int n] ∧ HeapT K H D slots outs ∧ Wf slots outs ∧ Refd slots outs ∧ isLive slots n = true ∧ outs[n]? = some z ∧ 1 ≤ z ∧ ∀ H', Kx [] H H' → Q (.bl true) H'
theorem ok_right {f : Addr} {fd : FuncData} (F : Fun K "_law_right" "_law_right" sQRight f fd) (T : Txt mg) (l_law_gone : Lo P w K mg base "_law_gone" 1 ["_law_home", "_law_spot"] (spGone K)) (l_freed : Lo P w K mg base "freed" 8 ["heap", "node"] (spFreed K)) (k_freed : Lkw P w K mg base "freed" 8 ["heap", "node"] ["node", "heap"] (gRev 2) (spFreed K))
    (l_kept : Lo P w K mg base "kept" 8 ["heap", "node"] (spKept K)) (k_kept : Lkw P w K mg base "kept" 8 ["heap", "node"] ["node", "heap"] (gRev 2) (spKept K)) : FnG P w K mg base 9 f fd ["_law_home", "_law_spot"] (spRight K) := by
  refine FnG.body F scQRight (fun vs H Q E h => ?_) (fun cdv A outer s H vs Q E hgd hr h => ?_)
  · obtain ⟨D, n, slots, outs, z, rfl, _⟩ := h
    rfl
  · obtain ⟨D, n, slots, outs, z, rfl, hT, wf, rf, hlv, hz, h1, k⟩ := h
    refine ⟨_, (pss_cons (ps_set (i := 2) scQRight.nd rfl (Or.inr rfl) (pe_lo l_law_gone (hr.mono (by decide)) (by rfl) (pa_cons (pv 0) (pa_cons (pv 1) pa_nil))))
      (pss_cons (ps_setLc (i := 3) (own := [("_law_v", 6)]) rfl scQRight.nd rfl rfl (sw_true rfl rfl rfl (by decide +kernel)) (pi_range1 (by rfl) T.b_range (pa_cons (pe_callB call_len_seq (by rfl) T.b_len boot'_len (pa_cons (pe_ix ix_tup (pv 0) pe_int (fun _ _ => rfl)) pa_nil)) pa_nil)) (blkOk_by (N := ["_law_home", "_law_spot", "_law_gone_here", "_law_stay", "_law_turn", "_law_found", "_law_v"]) (sc := defScope sQRight) (by decide +kernel)) (fun _ _ _ _ _ => (pg_name (i := 6) scQRight.nd rfl (Or.inl rfl))) (fun _ _ _ _ _ => (pts_one (PW.pt (pw_and (pt_cmpR op_notN1 (pe_ix ix_tupK (pe_ix (ix_tupK (K := K)) (pv 0) pe_int (fun _ _ => rfl)) (pv 6) (fun _ _ => rfl)) pe_non (nomark _)) (pw_and1 (pt_cmpR (op_notIn_seqK (K := K)) (pv 6) (pv 2) (by with_unfolding_all rfl))))))) (fun _ _ _ _ _ => (pv 6)))
      (pss_cons (ps_for PassesOwn.never rfl (pi_range1 (by rfl) T.b_range (pa_cons pe_int pa_nil)) (pg_name (i := 4) scQRight.nd rfl (Or.inl rfl))
      (pss_cons (ps_set (i := 5) scQRight.nd rfl (Or.inl rfl) (pe_lst (pa_cons (pe_lo l_freed (hr.mono (by decide)) (by rfl) (pa_cons (pv 0) (pa_cons (pv 1) pa_nil))) (pa_cons (pe_lkw k_kept (hr.mono (by decide)) (by rfl) (pk_cons (pv 1) (pk_cons (pv 0) pk_nil))) pa_nil))))
      (pss_cons (ps_if (pt_cmpR op_eq (pv 4) pe_int (nomark _)) (pss_one (ps_set (i := 5) scQRight.nd rfl (Or.inl rfl) (pe_lst (pa_cons (pe_lkw k_freed (hr.mono (by decide)) (by rfl) (pk_cons (pv 1) (pk_cons (pv 0) pk_nil))) (pa_cons (pe_lo l_kept (hr.mono (by decide)) (by rfl) (pa_cons (pv 0) (pa_cons (pv 1) pa_nil))) pa_nil))))) pss_nil)
      (pss_cons (ps_if (pt_cmpR op_ne (pe_callB (call_repr hgd hr.units) (by rfl) T.b_repr boot'_repr (pa_cons (pv 5) pa_nil)) (pe_callB (call_repr hgd hr.units) (by rfl) T.b_repr boot'_repr (pa_cons (pe_lst (pa_cons (pv 2) (pa_cons (pv 3) pa_nil))) pa_nil)) (nomark _)) (pss_one (ps_ret pe_bl)) pss_nil)
      (pss_cons (ps_expr (pe_bm PySem.F.plainAttrs_list PySem.F.slot_list_append PySem.F.type_list_append mt_append (pe_ix ix_list (pv 5) pe_int (fun _ _ => rfl)) (pa_cons pe_non pa_nil)))
      (pss_one (ps_expr (pe_bm0 PySem.F.plainAttrs_list PySem.F.slot_list_reverse PySem.F.type_list_reverse mt_reverse (pe_ix ix_list (pv 5) pe_int (fun _ _ => rfl))))))))))
      (pss_one (ps_ret pe_bl))))), ?_⟩
    refine x_start (σ' := [some (.ref D), some (.int n), none, none, none, none, none]) rfl ?_
    try dsimp only [cxOf]
    have h40 := wf.most
    repeat walk_at "rd"
    refine ⟨D, n, slots, outs, z, rfl, hT, wf, hlv, hz, fun G H1 gs nG k1 eG hgone => ?_⟩
    have hT1 := hT.keep k1
    obtain ⟨S, O, vs, hD, hS, hO, hl, hv⟩ := id hT1.ex
    repeat walk_at "rd"
    rw [hl]
    refine y_lcR1 (by omega) (by omega) (fun Z nZ => ⟨fun i H2 => Kx [] H1 H2 ∧ H2 Z = some (.lst ((stayL slots gs i).map V.int)), ⟨(Kx.refl _ _).new nZ, upd_same⟩, fun _ _ _ _ => trivial, ?_, ?_⟩)
    · rintro i x H2 H2' hi ⟨k2, eZ⟩ ⟨rfl, rfl⟩
      rw [Int.toNat_natCast] at hi
      have es := List.getElem?_eq_getElem hi
      have hD2 := k2.sqT (by simp) hD
      have hS2 := k2.sqT (by simp) hS
      have eG2 := k2 G _ (by simp) eG
      have hlen := stayL_len slots gs i
      dsimp only
      rw [Int.zero_add]
      repeat walk_at "rd"
      refine ⟨rfl, ?_⟩
      rcases hv i _ es with ⟨e, zz⟩ | ⟨r, row, e, zz, _⟩
      · have hvA : atI vs (i : Int) = some .non := atI_nat zz
        have hil : isLive slots i = false := by unfold isLive; rw [es, e]; rfl
        repeat walk_at "rd"
        refine iteN (by simp) ⟨k2, ?_⟩
        rw [stayL_succ, hil, Bool.false_and, if_neg (by simp)]
        exact eZ
      · have hvA : atI vs (i : Int) = some (.ref r) := atI_nat zz
        have hil : isLive slots i = true := by unfold isLive; rw [es, e]; rfl
        repeat walk_at "rd"
        try refine iteP (by simp) ?_
        repeat walk_at "rd"
        try refine x_notInL (SqL.of eG2) rfl (flat_ints _) ?_
        rw [in_int]
        repeat walk_at "rd"
        by_cases hin : (i : Int) ∈ gs
        · rw [decide_eq_true hin]
          refine iteN (by simp) ⟨k2, ?_⟩
          rw [stayL_succ, hil, decide_eq_true hin, if_neg (by simp)]
          exact eZ
        · rw [decide_eq_false hin]
          refine iteP (by simp) ?_
          repeat walk_at "rd"
          refine ⟨_, eZ, small1000 (by rw [List.length_map]; omega), k2.wr (.inl nZ), ?_⟩
          rw [upd_same, stayL_succ, hil, decide_eq_false hin, if_pos (by simp), List.map_append]
          rfl
    · rintro H2 ⟨k2, eZ⟩
      rw [Int.toNat_natCast] at eZ
      have eG2 := k2 G _ (by simp) eG
      replace k2 := k1.trans k2
      have fZ := k1.fresh (by simp) nZ
      obtain ⟨L, hper, hsort, hnd, hL40, hg, hc⟩ := hgone
      have hgone : IsGone slots (outs.set n (z - 1)) n gs := ⟨L, hper, hsort, hnd, hL40, hg, hc⟩
      have hgl : gs.length ≤ 40 := by
        rw [hper.length_eq, List.length_map]
        exact hL40
      have hgb : ∀ x ∈ gs, 0 ≤ x ∧ x < 40 := fun x hx => by
        obtain ⟨m, hm, rfl⟩ := List.mem_map.mp (hper.mem_iff.mp hx)
        obtain ⟨i, hi⟩ := List.mem_iff_getElem?.mp hm
        obtain ⟨_, _, h⟩ := live_lt (hg.ok i m hi).1
        omega
      have hsb : ∀ x ∈ stayL slots gs slots.length, 0 ≤ x ∧ x < 40 := fun x hx => by
        unfold stayL at hx
        obtain ⟨m, hm, rfl⟩ := List.mem_map.mp hx
        have := List.mem_range.mp (List.mem_filter.mp hm).1
        omega
      have hsl := stayL_len slots gs slots.length
      have g2 := good_two hgb hsb hgl (by omega)
      have same : ∀ s', Drp slots outs n z s' → (∀ cs : List Int, cs.Perm (s'.log.map fun m : Nat => (m : Int)) → cs.Pairwise (· ≤ ·) → cs = gs) ∧ liveUp (afterS slots s'.log) slots.length = stayL slots gs slots.length := fun s' d => by
        obtain ⟨wfA, rfA, li, wk⟩ := drop_after wf rf hz h1 hlv d.st d.p d.e
        have hiff := grow_log (n := n) li wk d.p d.e (fun p hp hne h0 => by
          rw [List.getElem?_set_ne (Ne.symm hne)] at h0
          rcases rf p hp with h | ⟨a, row, ea, hm⟩
          · omega
          · exact ⟨a, by rw [rowOf_some ea]; exact hm⟩) hg hc
        have hpm : L.Perm s'.log := (List.perm_ext_iff_of_nodup hnd (List.nodup_append.mp wk.ok.nd).1).mpr hiff
        refine ⟨fun cs h1 h2 => sorted_same hpm.symm h1 hper h2 hsort, ?_⟩
        unfold liveUp stayL
        congr 1
        refine List.filter_congr fun m hm => ?_
        have hmg : ((m : Nat) : Int) ∈ gs ↔ m ∈ s'.log := by
          rw [hper.mem_iff, List.mem_map]
          constructor
          · rintro ⟨y, hy, e⟩
            have : y = m := by omega
            exact this ▸ (hiff y).mp hy
          · exact fun h => ⟨m, (hiff m).mpr h, rfl⟩
        have ha := after_live slots s'.log m
        by_cases h1 : isLive slots m = true
        · by_cases h2 : m ∈ s'.log
          · rw [decide_eq_true (hmg.mpr h2), Bool.not_true, Bool.and_false]
            cases e : isLive (afterS slots s'.log) m with
            | false => rfl
            | true => exact absurd h2 (ha.mp e).2
          · rw [decide_eq_false (fun h => h2 (hmg.mp h)), h1, ha.mpr ⟨h1, h2⟩]
            rfl
        · cases e : isLive (afterS slots s'.log) m with
          | false => rw [Bool.eq_false_iff.mpr h1]; rfl
          | true => exact absurd (ha.mp e).1 h1
      generalize stayL slots gs slots.length = st at *
      repeat walk_at "rd"
      refine y_forR1 (by decide) (by decide) ⟨fun i σ H3 => ∃ (y4 y5 y6 : Option V), σ = [some (.ref D), some (.int n), some (.ref G), some (.ref Z), y4, y5, y6] ∧ Kx [] H H3 ∧ H3 G = some (.lst (gs.map V.int)) ∧ H3 Z = some (.lst (st.map V.int)), ⟨_, _, _, rfl, k2, eG2, eZ⟩, fun _ _ _ _ _ => trivial, ?_, ?_⟩
      · rintro i x σ H3 H3' hi ⟨y4, y5, y6, rfl, k3, eG3, eZ3⟩ ⟨rfl, rfl⟩
        have hT3 := hT.keep k3
        have hi2 : i < 2 := hi
        repeat walk_at "rd"
        refine ⟨D, n, slots, outs, z, rfl, hT3, wf, rf, hlv, hz, h1, fun s' p H4 cs d np k4 ep hper4 hsort4 => ?_⟩
        obtain rfl := ((same s' d).1 cs hper4 hsort4).symm
        have eG4 := k4 G _ (by simp) eG3
        have eZ4 := k4 Z _ (by simp) eZ3
        have fp := k3.fresh (by simp) np
        have nGp : G ≠ p := ne_of_none eG3 np
        have nZp : Z ≠ p := ne_of_none eZ3 np
        replace k3 := k3.trans k4
        have hT4 := hT.keep k3
        repeat walk_at "rd"
        refine ⟨D, n, slots, outs, z, rfl, hT4, wf, rf, hlv, hz, h1, fun s2 q H5 d2 nq k5 eq => ?_⟩
        rw [(same s2 d2).2] at eq
        have eG5 := k5 G _ (by simp) eG4
        have eZ5 := k5 Z _ (by simp) eZ4
        have ep5 := k5 p _ (by simp) ep
        have fq := k3.fresh (by simp) nq
        have nGq : G ≠ q := ne_of_none eG4 nq
        have nZq : Z ≠ q := ne_of_none eZ4 nq
        have npq : p ≠ q := ne_of_none ep nq
        replace k3 := k3.trans k5
        iterate 3 (first | walk_at "rd" | skip)
        rename_i F nF
        replace eG5 := lk_ne (o := .lst [.ref p, .ref q]) eG5 nF
        replace eZ5 := lk_ne (o := .lst [.ref p, .ref q]) eZ5 nF
        replace ep5 := lk_ne (o := .lst [.ref p, .ref q]) ep5 nF
        replace eq := lk_ne (o := .lst [.ref p, .ref q]) eq nF
        have eF := upd_same (H := H5) (a := F) (o := .lst [.ref p, .ref q])
        replace k3 := k3.new (o := .lst [.ref p, .ref q]) nF
        generalize upd H5 F (.lst [.ref p, .ref q]) = H6 at *
        refine x_seqG (fun σ H6 => ∃ (F p q : Addr) (y6 : Option V), σ = [some (.ref D), some (.int n), some (.ref G), some (.ref Z), some (.int (0 + (i : Nat))), some (.ref F), y6] ∧ Kx [] H H6 ∧ H6 G = some (.lst (gs.map V.int)) ∧ H6 Z = some (.lst (st.map V.int)) ∧ H6 F = some (.lst [.ref p, .ref q]) ∧ H6 p = some (.lst (gs.map V.int)) ∧ H6 q = some (.lst (st.map V.int)) ∧ H p = none ∧ H q = none ∧ G ≠ p ∧ Z ≠ p ∧ G ≠ q ∧ Z ≠ q ∧ p ≠ q) (fun GG hGG => ?_) ?_
        · repeat walk_at "rd"
          by_cases h1i : V.int (0 + (i : Int)) = V.int 1
          · refine iteP (decide_eq_true h1i) ?_
            clear ep5 eq nGp nZp nGq nZq npq fp fq
            have eG3 := eG5
            have eZ3 := eZ5
            clear eG5 eZ5
            have hT3 := hT.keep k3
            repeat walk_at "rd"
            refine ⟨D, n, slots, outs, z, rfl, hT3, wf, rf, hlv, hz, h1, fun s' p H4 cs d np k4 ep hper4 hsort4 => ?_⟩
            obtain rfl := ((same s' d).1 cs hper4 hsort4).symm
            have eG4 := k4 G _ (by simp) eG3
            have eZ4 := k4 Z _ (by simp) eZ3
            have fp := k3.fresh (by simp) np
            have nGp : G ≠ p := ne_of_none eG3 np
            have nZp : Z ≠ p := ne_of_none eZ3 np
            replace k3 := k3.trans k4
            have hT4 := hT.keep k3
            repeat walk_at "rd"
            refine ⟨D, n, slots, outs, z, rfl, hT4, wf, rf, hlv, hz, h1, fun s2 q H5 d2 nq k5 eq => ?_⟩
            rw [(same s2 d2).2] at eq
            have eG5 := k5 G _ (by simp) eG4
            have eZ5 := k5 Z _ (by simp) eZ4
            have ep5 := k5 p _ (by simp) ep
            have fq := k3.fresh (by simp) nq
            have nGq : G ≠ q := ne_of_none eG4 nq
            have nZq : Z ≠ q := ne_of_none eZ4 nq
            have npq : p ≠ q := ne_of_none ep nq
            replace k3 := k3.trans k5
            repeat walk_at "rd"
            rename_i F2 nF2
            exact hGG _ _ ⟨_, p, q, _, rfl, k3.new nF2, lk_ne eG5 nF2, lk_ne eZ5 nF2, upd_same, lk_ne ep5 nF2, lk_ne eq nF2, fp, fq, nGp, nZp, nGq, nZq, npq⟩
          · refine iteN (decide_eq_false h1i) ?_
            repeat walk_at "rd"
            exact hGG _ _ ⟨_, p, q, _, rfl, k3, eG5, eZ5, eF, ep5, eq, fp, fq, nGp, nZp, nGq, nZq, npq⟩
        · rintro σ H7 ⟨F, p, q, y6, rfl, k7, eG7, eZ7, eF7, ep7, eq7, fp, fq, nGp, nZp, nGq, nZq, npq⟩
          have hfd : Dp K H7 (.ref F) (.list [.list (gs.map PyData.int), .list (st.map PyData.int)]) := .lst (SqL.of eF7) (.cons (.lst (SqL.of ep7) (dp_intsL _)) (.cons (.lst (SqL.of eq7) (dp_intsL _)) .nil))
          repeat walk_at "rd"
          refine x_repr hfd g2 (by decide) (by decide) ?_
          generalize hex : (PyData.list [.list (gs.map PyData.int), .list (st.map PyData.int)]).shown = ex
          repeat walk_at "rd"
          rename_i M nM
          refine x_repr (d := .list [.list (gs.map PyData.int), .list (st.map PyData.int)]) (.lst (SqL.of upd_same) (.cons (.lst (SqL.of (lk_ne eG7 nM)) (dp_intsL _)) (.cons (.lst (SqL.of (lk_ne eZ7 nM)) (dp_intsL _)) .nil))) g2 (by decide) (by decide) ?_
          rw [hex]
          replace eG7 := lk_ne (o := .lst [.ref G, .ref Z]) eG7 nM
          replace eZ7 := lk_ne (o := .lst [.ref G, .ref Z]) eZ7 nM
          replace eF7 := lk_ne (o := .lst [.ref G, .ref Z]) eF7 nM
          replace ep7 := lk_ne (o := .lst [.ref G, .ref Z]) ep7 nM
          replace eq7 := lk_ne (o := .lst [.ref G, .ref Z]) eq7 nM
          replace k7 := k7.new (o := .lst [.ref G, .ref Z]) nM
          generalize upd H7 M (.lst [.ref G, .ref Z]) = H8 at *
          repeat walk_at "rd"
          refine iteN (by simp) ?_
          repeat walk_at "rd"
          refine ⟨ty_list (SqL.of ep7), ?_⟩
          repeat walk_at "rd"
          have nFo : ∀ {x : Addr} {ys : List Int}, H8 x = some (.lst (ys.map V.int)) → F ≠ x := fun {x ys} e z => by
            rw [← z, eF7] at e
            have := HO.lst.inj (Option.some.inj e)
            cases ys with
            | nil => cases this
            | cons a r => simp at this
          have nFp := nFo ep7
          have nFq := nFo eq7
          replace eF7 := (upd_ne (H := H8) (o := .lst (gs.map V.int ++ [V.non])) nFp).trans eF7
          replace eG7 := (upd_ne (H := H8) (o := .lst (gs.map V.int ++ [V.non])) nGp).trans eG7
          replace eZ7 := (upd_ne (H := H8) (o := .lst (gs.map V.int ++ [V.non])) nZp).trans eZ7
          replace eq7 := (upd_ne (H := H8) (o := .lst (gs.map V.int ++ [V.non])) npq.symm).trans eq7
          replace k7 := k7.wr (o := .lst (gs.map V.int ++ [V.non])) (.inl fp)
          generalize upd H8 p (.lst (gs.map V.int ++ [V.non])) = H9 at *
          repeat walk_at "rd"
          refine ⟨ty_list (SqL.of eq7), ?_⟩
          repeat walk_at "rd"
          exact ⟨_, _, _, rfl, k7.wr (.inl fq), (upd_ne nGq).trans eG7, (upd_ne nZq).trans eZ7⟩
      · rintro σ H3 ⟨y4, y5, y6, rfl, k3, eG3, eZ3⟩
        repeat walk_at "rd"
        exact k _ k3
end


section
variable {P : Program} {w : World} {K : PySem.W.Frag} {mg : Str → Option Value} {base : Heap}
theorem tabs_kx {T : List (Addr × Str)} {S : List Addr} {H H' : Hp} (k : Kx S H H') (hS : ∀ q ∈ S, ∃ xs, H q = some (.lst xs)) (t : LamX.Tabs T H) : LamX.Tabs T H' := by
  intro p hp
  obtain ⟨ps, h1, h2, h3⟩ := t p hp
  have out : ∀ {b : Addr} {o : HO}, H b = some o → (∀ xs, o ≠ .lst xs) → H' b = some o := fun {b o} e n => k b o (fun hm => by obtain ⟨xs, hx⟩ := hS b hm; rw [hx] at e; exact n xs (Option.some.inj e).symm) e
  refine ⟨ps, out h1 (fun _ z => nomatch z), h2, fun pos cv hc => ?_⟩
  obtain ⟨c, e1, e2⟩ := h3 pos cv hc
  exact ⟨c, e1, out e2 (fun _ z => by unfold LamX.CodeO at z; cases z)⟩
theorem tabs_k0 {T : List (Addr × Str)} {H H' : Hp} (k : Kx [] H H') (t : LamX.Tabs T H) : LamX.Tabs T H' := tabs_kx k (fun z hz => by cases hz) t
theorem extN_sqT {H H' : Hp} {a : Addr} {xs : List V} (e : LamX.ExtN H H') (h : SqT K H a xs) : SqT K H' a xs := by
  rcases h with (h | ⟨o, h⟩) | h
  · exact .inl (.inl (e _ _ h fun _ z => nomatch z))
  · exact .inl (.inr ⟨o, e _ _ h fun _ z => nomatch z⟩)
  · exact .inr h
theorem extN_heap {H H' : Hp} {D : Addr} {slots : List (Option Rw)} {outs : List Int} (e : LamX.ExtN H H') (h : HeapT K H D slots outs) : HeapT K H' D slots outs := by
  obtain ⟨S, O, vs, h1, h2, h3, h4, h5⟩ := h.ex
  refine ⟨S, O, vs, extN_sqT e h1, extN_sqT e h2, extN_sqT e h3, h4, fun i o hi => ?_⟩
  rcases h5 i o hi with z | ⟨r, row, e1, e2, e3⟩
  · exact .inl z
  · exact .inr ⟨r, row, e1, e2, extN_sqT e e3⟩
theorem extN_k {H H' : Hp} (k : Kx [] H H') : LamX.ExtN H H' := fun b o e _ => k b o (by simp) e
theorem extN_trans {H H1 H2 : Hp} (a : LamX.ExtN H H1) (b : LamX.ExtN H1 H2) : LamX.ExtN H H2 := fun c o e n => b c o (a c o e n) n
theorem extN_pen {H H' : Hp} {p c : Addr} {n : Nat} (e : LamX.ExtN H H') (h : PenAt H p c n) : PenAt H' p c n := by
  obtain ⟨cs, pl, r, h1, h2, h3⟩ := h
  exact ⟨cs, pl, r, e _ _ h1 (fun _ z => nomatch z), e _ _ h2 (fun _ z => nomatch z), h3⟩
theorem penLs {H : Hp} {p c : Addr} {n : Nat} (h : PenAt H p c n) : ∀ z ∈ [p], ∃ xs, H z = some (HO.lst xs) := fun z hz => by
  rw [List.mem_singleton.mp hz]
  obtain ⟨cs, pl, r, h, _⟩ := h
  exact ⟨_, h⟩
theorem heap_kx {H H' : Hp} {S : List Addr} {D : Addr} {slots : List (Option Rw)} {outs : List Int} (k : Kx S H H') (hS : ∀ q ∈ S, ∃ xs, H q = some (.lst xs)) (h : HeapT K H D slots outs) : HeapT K H' D slots outs := by
  have sq : ∀ {a : Addr} {xs : List V}, SqT K H a xs → SqT K H' a xs := fun {a xs} h => by
    have out : ∀ {b : Addr} {o : HO}, H b = some o → (∀ xs, o ≠ .lst xs) → H' b = some o := fun {b o} e n => k b o (fun hm => by obtain ⟨xs, hx⟩ := hS b hm; rw [hx] at e; exact n xs (Option.some.inj e).symm) e
    rcases h with (h | ⟨o, h⟩) | h
    · exact .inl (.inl (out h fun _ z => nomatch z))
    · exact .inl (.inr ⟨o, out h fun _ z => nomatch z⟩)
    · exact .inr h
  obtain ⟨S, O, vs, h1, h2, h3, h4, h5⟩ := h.ex
  refine ⟨S, O, vs, sq h1, sq h2, sq h3, h4, fun i o hi => ?_⟩
  rcases h5 i o hi with z | ⟨r, row, e1, e2, e3⟩
  · exact .inl z
  · exact .inr ⟨r, row, e1, e2, sq e3⟩
theorem good_small {n : Nat} (h : n ≤ 1000) : GoodN 130 (.int (n : Nat)) 1 1000 := (GoodN.int (Nat.lt_of_le_of_lt (show ((n : Nat) : Int).natAbs ≤ 1000 by omega) (by decide +kernel))).mono (by decide) (by decide)

theorem extN_wr {H0 Hm H1 : Hp} {F : Addr} {o : HO} (a : LamX.ExtN H0 Hm) (n : Hm F = none) (b : LamX.ExtN H0 H1) : LamX.ExtN H0 (upd H1 F o) := fun c u e t => by
  have : c ≠ F := fun z => by
    have := a c u e t
    rw [z, n] at this
    cases this
  rw [upd_ne this]
  exact b c u e t
theorem x_reprP {H : Hp} {Q : VK} {t : Addr} {xs : List V} {wd : Str} {d : PyData} (h : SqL K H t xs) (hx : DpAll K H xs [.tuple [.str wd, d], .tuple [.str wd, d]]) (gw : GoodN 130 (.str wd) 2 1000) (g : GoodN 130 d 2 1000) (q : Q (.str (PyData.list [.tuple [.str wd, d], .tuple [.str wd, d]]).shown) H) : rRepr K [.ref t] H Q := by
  have g1 : GoodN 130 (.tuple [.str wd, d]) 3 (2 * 1001) := GoodN.tuple (fun x hx => by
    simp only [List.mem_cons, List.not_mem_nil, or_false] at hx
    rcases hx with rfl | rfl
    · exact gw
    · exact g) (Nat.le_refl _)
  have g3 : GoodN 130 (.list [.tuple [.str wd, d], .tuple [.str wd, d]]) 4 (2 * (2 * 1001 + 1)) := GoodN.list (fun x hx => by
    simp only [List.mem_cons, List.not_mem_nil, or_false, or_self] at hx
    rw [hx]
    exact g1) (Nat.le_refl _)
  exact ⟨t, _, rfl, .lst h hx, g3.sh, g3.nd, Nat.le_trans g3.dp (by decide), Nat.le_trans (PyData.shown_le 130 (by decide) _ g3.sl) (Nat.le_trans (Nat.add_le_add_right (Nat.mul_le_mul_left _ g3.wt) _) (by decide)), q⟩
theorem gw_node : GoodN 130 (.str "node") 2 1000 := by constructor <;> decide +kernel
theorem gw_ref : GoodN 130 (.str "reference") 2 1000 := by constructor <;> decide +kernel
theorem Ky.heap {H H' : Hp} {p c D : Addr} {n : Nat} {slots : List (Option Rw)} {outs : List Int} (k : Ky [p] H H') (P : PenAt H p c n) (h : HeapT K H D slots outs) : HeapT K H' D slots outs := by
  obtain ⟨cs, pl, r, hp, _⟩ := P
  have sq : ∀ {a : Addr} {xs : List V}, SqT K H a xs → SqT K H' a xs := fun {a xs} h => by
    have out : ∀ {b : Addr} {o : HO}, H b = some o → (∀ xs, o ≠ .lst xs) → (∀ ps, o ≠ .tbl ps) → H' b = some o := fun {b o} e n t => k b o (fun hm => by rw [List.mem_singleton.mp hm, hp] at e; exact n _ (Option.some.inj e).symm) e t
    rcases h with (h | ⟨o, h⟩) | h
    · exact .inl (.inl (out h (fun _ z => nomatch z) fun _ z => nomatch z))
    · exact .inl (.inr ⟨o, out h (fun _ z => nomatch z) fun _ z => nomatch z⟩)
    · exact .inr h
  obtain ⟨S, O, vs, h1, h2, h3, h4, h5⟩ := h.ex
  refine ⟨S, O, vs, sq h1, sq h2, sq h3, h4, fun i o hi => ?_⟩
  rcases h5 i o hi with z | ⟨r, row, e1, e2, e3⟩
  · exact .inl z
  · exact .inr ⟨r, row, e1, e2, sq e3⟩
def lamQ1 : Str := (envOfC "_law_refused" (defScope sQRefused) 0 0 .none).qual ++ "<lambda>"
def lamQ2 : Str := (envOfC "law" (defScope sLaw) 0 0 .none).qual ++ "<lambda>"
abbrev TT (PR1 PR2 : Addr) : List (Addr × Str) := [(PR1, lamQ1), (PR2, lamQ2)]

def spRefused (K : PySem.W.Frag) (PR1 PR2 : Addr) : Sp := fun vs H Q _ => ∃ (D p c : Addr) (n : Nat) (slots : List (Option Rw)) (outs : List Int), vs = [.ref p, .ref D] ∧ PenAt H p c n ∧ n ≤ 800000 ∧ HeapT K H D slots outs ∧ Wf slots outs ∧ LamX.Tabs (TT PR1 PR2) H ∧
  ∀ H', Ky [p] H H' → PenAt H' p c (n + 2) → LamX.Tabs (TT PR1 PR2) H' → Q (.bl true) H'
theorem ok_refused {f gE cR1 PR1 PR2 C_MissingError C_NoNode C_NoPosition C_NoReference C_NoSlot C_NotFreed C_UndoError : Addr} {fd fdE : FuncData} {cdE : Value} (F : FunC K "_law_refused" "_law_refused" sQRefused f fd (.ref cR1)) (T : Txt mg) (TB : LamX.TabB base mg cR1 PR1) (hne : PR1 ≠ PR2)
    (D_law_error : LamD K mg "_law_error" "_law_ask" sQError gE fdE cdE ["_law_ask", "_law_caught", "e"]) (c_MissingError : mg "MissingError" = some (.ref C_MissingError)) (c_NoNode : mg "NoNode" = some (.ref C_NoNode)) (c_NoPosition : mg "NoPosition" = some (.ref C_NoPosition)) (c_NoReference : mg "NoReference" = some (.ref C_NoReference)) (c_NoSlot : mg "NoSlot" = some (.ref C_NoSlot)) (c_NotFreed : mg "NotFreed" = some (.ref C_NotFreed)) (c_UndoError : mg "UndoError" = some (.ref C_UndoError)) (N : ErC K C_MissingError C_NoNode C_NoPosition C_NoReference C_NoSlot C_NotFreed C_UndoError C_NoNode false) (NR : ErC K C_MissingError C_NoNode C_NoPosition C_NoReference C_NoSlot C_NotFreed C_UndoError C_NoReference true)
    (l_law_odd : Lo P w K mg base "_law_odd" 2 ["_law_pen_here", "_law_home"] (spOdd K)) (l_law_draw : Lo P w K mg base "_law_draw" 1 ["_law_pen_here", "_law_bound"] spDraw)
    (e_freed : LoX P w K mg base "freed" 8 ["heap", "node"] (spNeedRX K C_NoNode C_NoReference C_NoSlot)) (e_kept : LoX P w K mg base "kept" 8 ["heap", "node"] (spNeedRX K C_NoNode C_NoReference C_NoSlot)) : FnG P w K mg base 12 f fd ["_law_pen_here", "_law_home"] (spRefused K PR1 PR2) := by
  refine FnG.bodyC F scQRefused (fun vs H Q E h => ?_) (fun A outer s H vs Q E hgd hr h => ?_)
  · obtain ⟨D, p, c, n, slots, outs, rfl, _⟩ := h
    rfl
  · obtain ⟨D, p, c, n, slots, outs, rfl, hpen, hn, hT, wf, tab, k⟩ := h
    have hmT : (PR1, lamQ1) ∈ TT PR1 PR2 := List.mem_cons_self
    have hu : ∀ q ∈ TT PR1 PR2, q.1 = PR1 → q.2 = lamQ1 := fun q hq e => by
      simp only [TT, List.mem_cons, List.not_mem_nil, or_false] at hq
      rcases hq with rfl | rfl
      · rfl
      · exact absurd e.symm hne
    have G_law_error : ∀ {X : Cx} (eK : X.K = K) (em : X.mg = mg) (q : Str) (m : Nat), Gives X ["_law_ask", "_law_caught", "e"] "_law_error" sQError gE cdE "_law_ask" q m (TTe C_NoNode C_NoReference) := fun {X} eK em q m => gives_error (X := X) (by rw [em]; exact T) (by rw [em]; exact c_MissingError) (by rw [em]; exact c_NoNode) (by rw [em]; exact c_NoPosition) (by rw [em]; exact c_NoReference) (by rw [em]; exact c_NoSlot) (by rw [em]; exact c_NotFreed) (by rw [em]; exact c_UndoError) (by rw [eK]; exact N) (by rw [eK]; exact NR)
    have h40 := wf.most
    refine ⟨_, (pss_cons (ps_set (i := 4) scQRefused.nd rfl (Or.inr rfl) (pe_lo l_law_odd (hr.mono (by decide)) (by rfl) (pa_cons (pv 0) (pa_cons (pv 1) pa_nil))))
      (pss_cons (ps_set (i := 2) scQRefused.nd rfl (Or.inl rfl) (pe_lst (pa_cons (pe_lamW (k := 8) D_law_error (G_law_error rfl rfl _ _) TB rfl hmT hu (hr.mono (by decide)) (by rfl) (LamX.lamS_by (by show LamX.lamSB (defScope sQRefused) _ = true; decide +kernel)) (fun A outer s H E f c' hrL => by exact (pe_loX e_freed (takes_of rfl rfl rfl rfl) (hrL.mono (by decide)) (by rfl) (pa_cons (pv 1) (pa_cons (pv 4) pa_nil))))) pa_nil)))
      (pss_cons (ps_expr (pe_bm PySem.F.plainAttrs_list PySem.F.slot_list_append PySem.F.type_list_append mt_append (pv 2) (pa_cons (pe_lamW (k := 8) D_law_error (G_law_error rfl rfl _ _) TB rfl hmT hu (hr.mono (by decide)) (by rfl) (LamX.lamS_by (by show LamX.lamSB (defScope sQRefused) _ = true; decide +kernel)) (fun A outer s H E f c' hrL => by exact (pe_loX e_kept (takes_of rfl rfl rfl rfl) (hrL.mono (by decide)) (by rfl) (pa_cons (pv 1) (pa_cons (pv 4) pa_nil))))) pa_nil)))
      (pss_cons (ps_if (pt_cmpR op_ne (pe_callB (call_repr hgd hr.units) (by rfl) T.b_repr boot'_repr (pa_cons (pv 2) pa_nil)) (pe_callB (call_repr hgd hr.units) (by rfl) T.b_repr boot'_repr (pa_cons (pe_op op_rep (pe_lst (pa_cons (pe_tup (pa_cons pe_str (pa_cons (pv 4) pa_nil))) pa_nil)) pe_int) pa_nil)) (nomark _)) (pss_one (ps_ret pe_bl)) pss_nil)
      (pss_cons (ps_setLc (i := 3) (own := [("_law_v", 6)]) rfl scQRefused.nd rfl rfl (sw_true rfl rfl rfl (by decide +kernel)) (pi_range1 (by rfl) T.b_range (pa_cons (pe_callB call_len_seq (by rfl) T.b_len boot'_len (pa_cons (pe_ix ix_tup (pv 1) pe_int (fun _ _ => rfl)) pa_nil)) pa_nil)) (blkOk_by (N := ["_law_pen_here", "_law_home", "_law_found", "_law_bare", "_law_odd_here", "_law_spot", "_law_v"]) (sc := defScope sQRefused) (by decide +kernel)) (fun _ _ _ _ _ => (pg_name (i := 6) scQRefused.nd rfl (Or.inl rfl))) (fun _ _ _ _ _ => (pts_one (PW.pt (pw_and (pt_cmpR op_notN1 (pe_ix ix_tupK (pe_ix (ix_tupK (K := K)) (pv 1) pe_int (fun _ _ => rfl)) (pv 6) (fun _ _ => rfl)) pe_non (nomark _)) (pw_and1 (pt_cmpR op_eq (pe_ix ix_tupK (pe_ix (ix_tupK (K := K)) (pv 1) pe_int (fun _ _ => rfl)) (pv 6) (fun _ _ => rfl)) pe_int (nomark _))))))) (fun _ _ _ _ _ => (pv 6)))
      (pss_cons (ps_if (pt_cmpR (op_eqD hr.units) (pv 3) (pe_lst pa_nil) (nomark _)) (pss_one (ps_ret pe_bl)) pss_nil)
      (pss_cons (ps_set (i := 5) scQRefused.nd rfl (Or.inr rfl) (pe_ix ix_list (pv 3) (pe_lo l_law_draw (hr.mono (by decide)) (by rfl) (pa_cons (pv 0) (pa_cons (pe_callB call_len_seq (by rfl) T.b_len boot'_len (pa_cons (pv 3) pa_nil)) pa_nil))) (fun _ _ => rfl)))
      (pss_cons (ps_set (i := 2) scQRefused.nd rfl (Or.inl rfl) (pe_lst (pa_cons (pe_lamW (k := 8) D_law_error (G_law_error rfl rfl _ _) TB rfl hmT hu (hr.mono (by decide)) (by rfl) (LamX.lamS_by (by show LamX.lamSB (defScope sQRefused) _ = true; decide +kernel)) (fun A outer s H E f c' hrL => by exact (pe_loX e_freed (takes_of rfl rfl rfl rfl) (hrL.mono (by decide)) (by rfl) (pa_cons (pv 1) (pa_cons (pv 5) pa_nil))))) pa_nil)))
      (pss_cons (ps_expr (pe_bm PySem.F.plainAttrs_list PySem.F.slot_list_append PySem.F.type_list_append mt_append (pv 2) (pa_cons (pe_lamW (k := 8) D_law_error (G_law_error rfl rfl _ _) TB rfl hmT hu (hr.mono (by decide)) (by rfl) (LamX.lamS_by (by show LamX.lamSB (defScope sQRefused) _ = true; decide +kernel)) (fun A outer s H E f c' hrL => by exact (pe_loX e_kept (takes_of rfl rfl rfl rfl) (hrL.mono (by decide)) (by rfl) (pa_cons (pv 1) (pa_cons (pv 5) pa_nil))))) pa_nil)))
      (pss_one (ps_ret (pe_cmpR op_eq (pe_callB (call_repr hgd hr.units) (by rfl) T.b_repr boot'_repr (pa_cons (pv 2) pa_nil)) (pe_callB (call_repr hgd hr.units) (by rfl) T.b_repr boot'_repr (pa_cons (pe_op op_rep (pe_lst (pa_cons (pe_tup (pa_cons pe_str (pa_cons (pv 5) pa_nil))) pa_nil)) pe_int) pa_nil)) (nomark _))))))))))))), ?_⟩
    refine x_start (σ' := [some (.ref p), some (.ref D), none, none, none, none, none]) rfl ?_
    try dsimp only [cxOf]
    repeat walk_at "rd"
    refine ⟨p, c, D, n, slots, outs, rfl, hpen, by omega, hT, h40, fun v d L H1 k1 P1 hfL hS hg hl => ?_⟩
    have tab1 := tabs_kx k1 (penLs hpen) tab
    have hT1 := heap_kx k1 (penLs hpen) hT
    have hd : ∀ H', LamX.ExtN H1 H' → Dp K H' v d := fun H' x => (hS.ext x).now
    repeat walk_at "rd"
    refine ⟨tab1, fun A1 a1 tA1 => ⟨false, v, fun E Qn hE => ?_, fun L1 B1 nL1 kA eL1 => ?_⟩⟩
    · refine x_cW ?_
      repeat walk_at "rd"
      exact ⟨D, v, d, slots, outs, rfl, extN_heap a1 hT1, hd _ a1, .inl ⟨hl, hE⟩⟩
    have X1 : LamX.ExtN H1 B1 := extN_trans a1 (extN_k kA)
    have tB1 := tabs_k0 kA tA1
    repeat walk_at "rd"
    rename_i Fo nFo
    have eFo := upd_same (H := B1) (a := Fo) (o := .lst [.ref L1])
    have X2 : LamX.ExtN H1 (upd B1 Fo (.lst [.ref L1])) := extN_trans X1 (extN_k ((Kx.refl [] B1).new nFo))
    have tB2 := tabs_k0 ((Kx.refl [] B1).new (o := .lst [.ref L1]) nFo) tB1
    have eL2 := lk_ne (o := .lst [.ref L1]) eL1 nFo
    have nLF : L1 ≠ Fo := ne_of_none eL1 nFo
    generalize upd B1 Fo (.lst [.ref L1]) = B2 at *
    refine ⟨ty_list (SqL.of eFo), ?_⟩
    repeat walk_at "rd"
    refine ⟨tB2, fun A3 a3 tA3 => ⟨false, v, fun E Qn hE => ?_, fun M1 B3 nM1 kC eM1 => ?_⟩⟩
    · refine x_cW ?_
      repeat walk_at "rd"
      exact ⟨D, v, d, slots, outs, rfl, extN_heap (extN_trans X2 a3) hT1, hd _ (extN_trans X2 a3), .inl ⟨hl, hE⟩⟩
    have Y3 : LamX.ExtN B2 B3 := extN_trans a3 (extN_k kC)
    have tB3 := tabs_k0 kC tA3
    have eFo3 := Y3 Fo _ eFo fun _ z => nomatch z
    have eL3 := Y3 L1 _ eL2 fun _ z => nomatch z
    have nMF : M1 ≠ Fo := fun z => by
      have := a3 Fo _ eFo fun _ z => nomatch z
      rw [← z, nM1] at this
      cases this
    have X4 : LamX.ExtN H1 (upd B3 Fo (.lst ([.ref L1] ++ [.ref M1]))) := extN_wr X1 nFo (extN_trans X2 Y3)
    repeat walk_at "rd"
    have tB4 := tabs_kx ((Kx.refl [Fo] B3).wr (p := Fo) (o := .lst ([.ref L1] ++ [.ref M1])) (.inr (by simp))) (fun z hz => by rw [List.mem_singleton.mp hz]; exact ⟨_, eFo3⟩) tB3
    have eL4 := (upd_ne (H := B3) (o := .lst ([.ref L1] ++ [.ref M1])) nLF).trans eL3
    have eM4 := (upd_ne (H := B3) (o := .lst ([.ref L1] ++ [.ref M1])) nMF).trans eM1
    have eF4 := upd_same (H := B3) (a := Fo) (o := .lst ([.ref L1] ++ [.ref M1]))
    generalize upd B3 Fo (.lst ([.ref L1] ++ [.ref M1])) = B4 at *
    refine x_reprP (wd := "node") (d := d) (SqL.of eF4) (.cons (.tup (SqT.of eL4) (.cons (.str _) (.cons (hd _ X4) .nil))) (.cons (.tup (SqT.of eM4) (.cons (.str _) (.cons (hd _ X4) .nil))) .nil)) gw_node hg ?_
    generalize hex : (PyData.list [.tuple [.str "node", d], .tuple [.str "node", d]]).shown = ex
    repeat walk_at "rd"
    rename_i m nm lq nlq
    refine x_rep (xs := [.ref m]) (k := 2) upd_same (by omega) (by omega) (Nat.le_of_lt (small1000 (by simp))) fun R nR => ?_
    have kB := (((Kx.refl [] B4).new (o := .tup [.str "node", v]) nm).new (o := .lst [.ref m]) nlq).new (o := .lst (List.replicate (2 : Int).toNat [V.ref m]).flatten) nR
    have em := lk_ne (o := .lst (List.replicate (2 : Int).toNat [V.ref m]).flatten) (lk_ne (o := .lst [.ref m]) (upd_same (H := B4) (a := m) (o := .tup [.str "node", v])) nlq) nR
    have eR := upd_same (H := upd (upd B4 m (.tup [.str "node", v])) lq (.lst [.ref m])) (a := R) (o := .lst (List.replicate (2 : Int).toNat [V.ref m]).flatten)
    have X6 : LamX.ExtN H1 (upd (upd (upd B4 m (.tup [.str "node", v])) lq (.lst [.ref m])) R (.lst (List.replicate (2 : Int).toNat [V.ref m]).flatten)) := extN_trans X4 (extN_k kB)
    have tB6 := tabs_k0 kB tB4
    clear kB
    generalize upd (upd (upd B4 m (.tup [.str "node", v])) lq (.lst [.ref m])) R (.lst (List.replicate (2 : Int).toNat [V.ref m]).flatten) = B6 at *
    repeat walk_at "rd"
    refine x_reprP (wd := "node") (d := d) (xs := [.ref m, .ref m]) (SqL.of eR) (.cons (.tup (SqT.of em) (.cons (.str _) (.cons (hd _ X6) .nil))) (.cons (.tup (SqT.of em) (.cons (.str _) (.cons (hd _ X6) .nil))) .nil)) gw_node hg ?_
    rw [hex]
    repeat walk_at "rd"
    refine iteN (by simp) ?_
    have hT6 := extN_heap X6 hT1
    have P6 := extN_pen X6 P1
    have y6 : Ky [p] H B6 := (Ky.of k1).trans (Ky.ext X6)
    clear eFo eL2 tB2 tB1 tB3 tB4 eFo3 eL3 eL4 eM4 eF4 X1 X2 X4 Y3 em eR hex nL1 nM1 eL1 eM1 nFo nlq nR nm
    obtain ⟨S, O, vs, hD, hS, hO, hvl, hv⟩ := id hT6.ex
    repeat walk_at "rd"
    rw [hvl]
    refine y_lcR1 (by omega) (by omega) (fun Z nZ => ⟨fun i H2 => ∃ ns : List Nat, Kx [] B6 H2 ∧ H2 Z = some (.lst (ns.map fun m : Nat => V.int m)) ∧ (∀ x ∈ ns, isLive slots x = true ∧ outs[x]? = some 0) ∧ ns.length ≤ i, ⟨[], (Kx.refl _ _).new nZ, upd_same, (fun x hx => by cases hx), Nat.le_refl _⟩, fun _ _ _ _ => trivial, ?_, ?_⟩)
    · rintro i x H2 H2' hi ⟨ns, k2, eZ, hns, hnl⟩ ⟨rfl, rfl⟩
      rw [Int.toNat_natCast] at hi
      have es := List.getElem?_eq_getElem hi
      have hD2 := k2.sqT (by simp) hD
      have hS2 := k2.sqT (by simp) hS
      have hO2 := k2.sqT (by simp) hO
      dsimp only
      rw [Int.zero_add]
      repeat walk_at "rd"
      refine ⟨rfl, ?_⟩
      rcases hv i _ es with ⟨e, zz⟩ | ⟨r, row, e, zz, _⟩
      · have hvA : atI vs (i : Int) = some .non := atI_nat zz
        repeat walk_at "rd"
        refine iteN (by simp) ⟨ns, k2, eZ, hns, by omega⟩
      · have hvA : atI vs (i : Int) = some (.ref r) := atI_nat zz
        have hil : isLive slots i = true := by unfold isLive; rw [es, e]; rfl
        have hio : i < outs.length := by rw [wf.len]; exact hi
        have hat : atI (outs.map V.int) (i : Int) = some (.int outs[i]) := atI_nat (by rw [List.getElem?_map, List.getElem?_eq_getElem hio]; rfl)
        repeat walk_at "rd"
        try refine iteP (by simp) ?_
        repeat walk_at "rd"
        by_cases hz0 : outs[i] = 0
        · refine iteP (by rw [hz0]; simp) ?_
          repeat walk_at "rd"
          refine ⟨_, eZ, small1000 (by rw [List.length_map]; omega), ns ++ [i], k2.wr (.inl nZ), by rw [upd_same, List.map_append]; rfl, fun x hx => ?_, by rw [List.length_append, List.length_singleton]; omega⟩
          rcases List.mem_append.mp hx with hx | hx
          · exact hns x hx
          · rw [List.mem_singleton.mp hx, List.getElem?_eq_getElem hio, hz0]
            exact ⟨hil, rfl⟩
        · refine iteN (decide_eq_false fun h => hz0 (V.int.inj h)) ⟨ns, k2, eZ, hns, by omega⟩
    · rintro H2 ⟨ns, k2, eZ, hns, hnl⟩
      rw [Int.toNat_natCast] at hnl
      have P2 := P6.keep k2 (by simp) (by simp) (Nat.le_refl _)
      have nZp : Z ≠ p := fun z => by
        obtain ⟨⟨o, ho⟩, _⟩ := P6.some
        rw [z, ho] at nZ
        cases nZ
      repeat walk_at "rd"
      rename_i q nq
      refine x_eqNilN (SqL.of (lk_ne eZ nq)) (SqL.of upd_same) ?_
      have kq : Kx [] H2 (upd H2 q (.lst [])) := (Kx.refl [] H2).new nq
      replace eZ := lk_ne (o := .lst []) eZ nq
      replace P2 := P2.keep kq (by simp) (by simp) (Nat.le_refl _)
      replace k2 := k2.trans kq
      clear kq
      generalize upd H2 q (.lst []) = H3 at *
      cases ns with
      | nil =>
        repeat walk_at "rd"
        try refine iteP rfl ?_
        repeat walk_at "rd"
        exact k _ (y6.trans (Ky.of (k2.mono (by simp)))) (P2.keep (Kx.refl [] _) (by simp) (by simp) (by omega)) (tabs_k0 k2 tB6)
      | cons a r =>
        repeat walk_at "rd"
        try refine iteN (by simp [List.isEmpty]) ?_
        repeat walk_at "rd"
        rw [List.length_map]
        rw [List.length_cons] at hnl ⊢
        refine x_draw P2 (by omega) (by omega) (by omega) fun t H4 t0 t1 k4 P4 => ?_
        obtain ⟨m, rfl⟩ : ∃ m : Nat, t = m := ⟨t.toNat, by omega⟩
        have hm : m < (a :: r).length := by rw [List.length_cons]; omega
        have hga := hns _ (List.getElem_mem hm)
        have hat : atI ((a :: r).map fun m : Nat => V.int m) (m : Int) = some (.int ((a :: r)[m] : Nat)) := atI_nat (by rw [List.getElem?_map, List.getElem?_eq_getElem hm]; rfl)
        generalize (a :: r)[m] = g at *
        have eZ4 := k4 Z _ (by simpa using nZp) eZ
        have tab4 := tabs_kx k4 (penLs P2) (tabs_k0 k2 tB6)
        have hT4 := heap_kx k4 (penLs P2) (hT6.keep k2)
        have y4 : Ky [p] H H4 := (y6.trans (Ky.of (k2.mono (by simp)))).trans (Ky.of k4)
        obtain ⟨_, _, hgl⟩ := live_lt hga.1
        have hgg : GoodN 130 (.int (g : Nat)) 2 1000 := (good_small (by omega)).mono (by decide) (Nat.le_refl _)
        repeat walk_at "rd"
        refine ⟨tab4, fun A1 a1 tA1 => ⟨true, (.int (g : Nat)), fun E Qn hE => ?_, fun L1 B1 nL1 kA eL1 => ?_⟩⟩
        · refine x_cW ?_
          repeat walk_at "rd"
          exact ⟨D, (.int (g : Nat)), (.int (g : Nat)), slots, outs, rfl, extN_heap a1 hT4, (fun H' (_ : LamX.ExtN H4 H') => (Dp.int _ : Dp K H' (.int (g : Nat)) (.int (g : Nat)))) _ a1, .inr ⟨g, rfl, hga.1, hga.2, hE⟩⟩
        have X1 : LamX.ExtN H4 B1 := extN_trans a1 (extN_k kA)
        have tB1 := tabs_k0 kA tA1
        repeat walk_at "rd"
        rename_i Fo nFo
        have eFo := upd_same (H := B1) (a := Fo) (o := .lst [.ref L1])
        have X2 : LamX.ExtN H4 (upd B1 Fo (.lst [.ref L1])) := extN_trans X1 (extN_k ((Kx.refl [] B1).new nFo))
        have tB2 := tabs_k0 ((Kx.refl [] B1).new (o := .lst [.ref L1]) nFo) tB1
        have eL2 := lk_ne (o := .lst [.ref L1]) eL1 nFo
        have nLF : L1 ≠ Fo := ne_of_none eL1 nFo
        generalize upd B1 Fo (.lst [.ref L1]) = B2 at *
        refine ⟨ty_list (SqL.of eFo), ?_⟩
        repeat walk_at "rd"
        refine ⟨tB2, fun A3 a3 tA3 => ⟨true, (.int (g : Nat)), fun E Qn hE => ?_, fun M1 B3 nM1 kC eM1 => ?_⟩⟩
        · refine x_cW ?_
          repeat walk_at "rd"
          exact ⟨D, (.int (g : Nat)), (.int (g : Nat)), slots, outs, rfl, extN_heap (extN_trans X2 a3) hT4, (fun H' (_ : LamX.ExtN H4 H') => (Dp.int _ : Dp K H' (.int (g : Nat)) (.int (g : Nat)))) _ (extN_trans X2 a3), .inr ⟨g, rfl, hga.1, hga.2, hE⟩⟩
        have Y3 : LamX.ExtN B2 B3 := extN_trans a3 (extN_k kC)
        have tB3 := tabs_k0 kC tA3
        have eFo3 := Y3 Fo _ eFo fun _ z => nomatch z
        have eL3 := Y3 L1 _ eL2 fun _ z => nomatch z
        have nMF : M1 ≠ Fo := fun z => by
          have := a3 Fo _ eFo fun _ z => nomatch z
          rw [← z, nM1] at this
          cases this
        have X4 : LamX.ExtN H4 (upd B3 Fo (.lst ([.ref L1] ++ [.ref M1]))) := extN_wr X1 nFo (extN_trans X2 Y3)
        repeat walk_at "rd"
        have tB4 := tabs_kx ((Kx.refl [Fo] B3).wr (p := Fo) (o := .lst ([.ref L1] ++ [.ref M1])) (.inr (by simp))) (fun z hz => by rw [List.mem_singleton.mp hz]; exact ⟨_, eFo3⟩) tB3
        have eL4 := (upd_ne (H := B3) (o := .lst ([.ref L1] ++ [.ref M1])) nLF).trans eL3
        have eM4 := (upd_ne (H := B3) (o := .lst ([.ref L1] ++ [.ref M1])) nMF).trans eM1
        have eF4 := upd_same (H := B3) (a := Fo) (o := .lst ([.ref L1] ++ [.ref M1]))
        generalize upd B3 Fo (.lst ([.ref L1] ++ [.ref M1])) = B4 at *
        refine x_reprP (wd := "reference") (d := (.int (g : Nat))) (SqL.of eF4) (.cons (.tup (SqT.of eL4) (.cons (.str _) (.cons ((fun H' (_ : LamX.ExtN H4 H') => (Dp.int _ : Dp K H' (.int (g : Nat)) (.int (g : Nat)))) _ X4) .nil))) (.cons (.tup (SqT.of eM4) (.cons (.str _) (.cons ((fun H' (_ : LamX.ExtN H4 H') => (Dp.int _ : Dp K H' (.int (g : Nat)) (.int (g : Nat)))) _ X4) .nil))) .nil)) gw_ref hgg ?_
        generalize hex : (PyData.list [.tuple [.str "reference", (.int (g : Nat))], .tuple [.str "reference", (.int (g : Nat))]]).shown = ex
        repeat walk_at "rd"
        rename_i m nm lq nlq
        refine x_rep (xs := [.ref m]) (k := 2) upd_same (by omega) (by omega) (Nat.le_of_lt (small1000 (by simp))) fun R nR => ?_
        have kB := (((Kx.refl [] B4).new (o := .tup [.str "reference", (.int (g : Nat))]) nm).new (o := .lst [.ref m]) nlq).new (o := .lst (List.replicate (2 : Int).toNat [V.ref m]).flatten) nR
        have em := lk_ne (o := .lst (List.replicate (2 : Int).toNat [V.ref m]).flatten) (lk_ne (o := .lst [.ref m]) (upd_same (H := B4) (a := m) (o := .tup [.str "reference", (.int (g : Nat))])) nlq) nR
        have eR := upd_same (H := upd (upd B4 m (.tup [.str "reference", (.int (g : Nat))])) lq (.lst [.ref m])) (a := R) (o := .lst (List.replicate (2 : Int).toNat [V.ref m]).flatten)
        have X6 : LamX.ExtN H4 (upd (upd (upd B4 m (.tup [.str "reference", (.int (g : Nat))])) lq (.lst [.ref m])) R (.lst (List.replicate (2 : Int).toNat [V.ref m]).flatten)) := extN_trans X4 (extN_k kB)
        have tB6 := tabs_k0 kB tB4
        clear kB
        generalize upd (upd (upd B4 m (.tup [.str "reference", (.int (g : Nat))])) lq (.lst [.ref m])) R (.lst (List.replicate (2 : Int).toNat [V.ref m]).flatten) = B6 at *
        repeat walk_at "rd"
        refine x_reprP (wd := "reference") (d := (.int (g : Nat))) (xs := [.ref m, .ref m]) (SqL.of eR) (.cons (.tup (SqT.of em) (.cons (.str _) (.cons ((fun H' (_ : LamX.ExtN H4 H') => (Dp.int _ : Dp K H' (.int (g : Nat)) (.int (g : Nat)))) _ X6) .nil))) (.cons (.tup (SqT.of em) (.cons (.str _) (.cons ((fun H' (_ : LamX.ExtN H4 H') => (Dp.int _ : Dp K H' (.int (g : Nat)) (.int (g : Nat)))) _ X6) .nil))) .nil)) gw_ref hgg ?_
        rw [hex]
        repeat walk_at "rd"
        rw [decide_eq_true (show V.str ex = V.str ex from rfl)]
        exact k _ (y4.trans (Ky.ext X6)) (extN_pen X6 P4) tB6

end


section
variable {P : Program} {w : World} {K : PySem.W.Frag} {mg : Str → Option Value} {base : Heap}

def spLaw (K : PySem.W.Frag) (PR1 PR2 : Addr) : Sp := fun vs H Q _ => ∃ (a : Addr) (ns : List Int), vs = [.ref a] ∧ SqL K H a (ns.map V.int) ∧ LamX.Tabs (TT PR1 PR2) H ∧ ∀ H', Q (.bl true) H'
/-- a node that may be dropped -/
def DropN (slots : List (Option Rw)) (outs : List Int) (m : Nat) : Prop := isLive slots m = true ∧ ∃ z, outs[m]? = some z ∧ 1 ≤ z
theorem ok_law {f gE cR2 PR1 PR2 C_MissingError C_NoNode C_NoPosition C_NoReference C_NoSlot C_NotFreed C_UndoError : Addr} {fd fdE : FuncData} {cdE : Value} (F : FunC K "law" "law" sLaw f fd (.ref cR2)) (T : Txt mg) (TB : LamX.TabB base mg cR2 PR2) (hne : PR1 ≠ PR2)
    (D_law_error : LamD K mg "_law_error" "_law_ask" sQError gE fdE cdE ["_law_ask", "_law_caught", "e"]) (c_MissingError : mg "MissingError" = some (.ref C_MissingError)) (c_NoNode : mg "NoNode" = some (.ref C_NoNode)) (c_NoPosition : mg "NoPosition" = some (.ref C_NoPosition)) (c_NoReference : mg "NoReference" = some (.ref C_NoReference)) (c_NoSlot : mg "NoSlot" = some (.ref C_NoSlot)) (c_NotFreed : mg "NotFreed" = some (.ref C_NotFreed)) (c_UndoError : mg "UndoError" = some (.ref C_UndoError)) (N : ErC K C_MissingError C_NoNode C_NoPosition C_NoReference C_NoSlot C_NotFreed C_UndoError C_NoNode false) (NR : ErC K C_MissingError C_NoNode C_NoPosition C_NoReference C_NoSlot C_NotFreed C_UndoError C_NoReference true)
    (l_law_pen : Lo P w K mg base "_law_pen" 1 ["_law_script"] (spPen K)) (l_law_heap : Lo P w K mg base "_law_heap" 3 ["_law_pen_here", "_law_most"] (spHeap K)) (l_law_draw : Lo P w K mg base "_law_draw" 1 ["_law_pen_here", "_law_bound"] spDraw) (l_law_odd : Lo P w K mg base "_law_odd" 2 ["_law_pen_here", "_law_home"] (spOdd K))
    (l_law_right : Lk P w K mg base "_law_right" 9 ["_law_home", "_law_spot"] (spRight K)) (l_law_refused : Lk P w K mg base "_law_refused" 12 ["_law_pen_here", "_law_home"] (spRefused K PR1 PR2))
    (e_freed : LoX P w K mg base "freed" 8 ["heap", "node"] (spNeedRX K C_NoNode C_NoReference C_NoSlot)) (e_kept : LoX P w K mg base "kept" 8 ["heap", "node"] (spNeedRX K C_NoNode C_NoReference C_NoSlot)) : FnG P w K mg base 13 f fd ["_law_script"] (spLaw K PR1 PR2) := by
  refine FnG.bodyC F scLaw (fun vs H Q E h => ?_) (fun A outer s H vs Q E hgd hr h => ?_)
  · obtain ⟨a, ns, rfl, _⟩ := h
    rfl
  · obtain ⟨a, ns, rfl, ha, hTab, k⟩ := h
    have hmT : (PR2, lamQ2) ∈ TT PR1 PR2 := List.mem_cons_of_mem _ List.mem_cons_self
    have hu : ∀ q ∈ TT PR1 PR2, q.1 = PR2 → q.2 = lamQ2 := fun q hq e => by
      simp only [TT, List.mem_cons, List.not_mem_nil, or_false] at hq
      rcases hq with rfl | rfl
      · exact absurd e hne
      · rfl
    have G_law_error : ∀ {X : Cx} (eK : X.K = K) (em : X.mg = mg) (q : Str) (m : Nat), Gives X ["_law_ask", "_law_caught", "e"] "_law_error" sQError gE cdE "_law_ask" q m (TTe C_NoNode C_NoReference) := fun {X} eK em q m => gives_error (X := X) (by rw [em]; exact T) (by rw [em]; exact c_MissingError) (by rw [em]; exact c_NoNode) (by rw [em]; exact c_NoPosition) (by rw [em]; exact c_NoReference) (by rw [em]; exact c_NoSlot) (by rw [em]; exact c_NotFreed) (by rw [em]; exact c_UndoError) (by rw [eK]; exact N) (by rw [eK]; exact NR)
    refine ⟨_, (pss_cons (ps_set (i := 1) scLaw.nd rfl (Or.inr rfl) (pe_lo l_law_pen (hr.mono (by decide)) (by rfl) (pa_cons (pv 0) pa_nil)))
      (pss_cons (ps_for PassesOwn.never rfl (pi_tup (pe_tup (pa_cons pe_int (pa_cons pe_int pa_nil)))) (pg_name (i := 2) scLaw.nd rfl (Or.inl rfl))
      (pss_cons (ps_asg (pe_lo l_law_heap (hr.mono (by decide)) (by rfl) (pa_cons (pv 1) (pa_cons (pv 2) pa_nil))) (pg_tup rfl (pgs_cons (pg_name (i := 3) scLaw.nd rfl (Or.inr rfl)) (pgs_cons (pg_name (i := 4) scLaw.nd rfl (Or.inl rfl)) pgs_nil))))
      (pss_cons (ps_set (i := 5) scLaw.nd rfl (Or.inl rfl) (pe_callB (call_repr hgd hr.units) (by rfl) T.b_repr boot'_repr (pa_cons (pv 3) pa_nil)))
      (pss_cons (ps_set (i := 7) scLaw.nd rfl (Or.inr rfl) (pe_lc (own := [("_law_v", 6)]) rfl scLaw.nd (pi_range1 (by rfl) T.b_range (pa_cons (pe_callB call_len_seq (by rfl) T.b_len boot'_len (pa_cons (pe_ix ix_tup (pv 3) pe_int (fun _ _ => rfl)) pa_nil)) pa_nil)) (blkOk_by (N := ["_law_script", "_law_pen_here", "_law_most", "_law_home", "_law_spot", "_law_state", "_law_v", "_law_others", "_law_spots", "_law_found", "_law_empty", "_law_odd_here", "_law_k"]) (sc := defScope sLaw) (by decide +kernel)) (fun _ _ _ _ _ => (pg_name (i := 6) scLaw.nd rfl (Or.inl rfl))) (fun _ _ _ _ _ => (pts_one (pt_cmpR op_gt (pe_ix ix_tupK (pe_ix (ix_tupK (K := K)) (pv 3) pe_int (fun _ _ => rfl)) (pv 6) (fun _ _ => rfl)) pe_int (nomark _)))) (fun _ _ _ _ _ => (pv 6))))
      (pss_cons (ps_set (i := 8) scLaw.nd rfl (Or.inl rfl) (pe_op op_cat (pe_lst (pa_cons (pv 4) pa_nil)) (pe_lc (own := [("_law_k", 12)]) rfl scLaw.nd (pi_range1 (by rfl) T.b_range (pa_cons (pe_lo l_law_draw (hr.mono (by decide)) (by rfl) (pa_cons (pv 1) (pa_cons pe_int pa_nil))) pa_nil)) (blkOk_by (N := ["_law_script", "_law_pen_here", "_law_most", "_law_home", "_law_spot", "_law_state", "_law_v", "_law_others", "_law_spots", "_law_found", "_law_empty", "_law_odd_here", "_law_k"]) (sc := defScope sLaw) (by decide +kernel)) (fun _ _ _ _ _ => (pg_name (i := 12) scLaw.nd rfl (Or.inl rfl))) (fun _ _ _ _ _ => pts_nil) (fun _ _ _ _ _ => (pe_ix (ix_listK (K := K)) (pv 7) (pe_lo l_law_draw (hr.mono (by decide)) (by rfl) (pa_cons (pv 1) (pa_cons (pe_callB (call_lenK (K := K)) (by rfl) T.b_len boot'_len (pa_cons (pv 7) pa_nil)) pa_nil))) (fun _ _ => rfl))))))
      (pss_cons (ps_for PassesOwn.never rfl (pi_list (pv 8)) (pg_name (i := 6) scLaw.nd rfl (Or.inl rfl))
      (pss_one (ps_if (pt_not (pt_val (pe_lk l_law_right hgd (hr.mono (by decide)) (by rfl) (pa_cons (pv 3) (pa_cons (pv 6) pa_nil))))) (pss_one (ps_ret pe_bl)) pss_nil)))
      (pss_one (ps_if (PW.pt (pw_or (pt_not (pt_val (pe_lk l_law_refused hgd (hr.mono (by decide)) (by rfl) (pa_cons (pv 1) (pa_cons (pv 3) pa_nil))))) (pw_or1 (pt_cmpR op_ne (pe_callB (call_repr hgd hr.units) (by rfl) T.b_repr boot'_repr (pa_cons (pv 3) pa_nil)) (pv 5) (nomark _))))) (pss_one (ps_ret pe_bl)) pss_nil))))))))
      (pss_cons (ps_set (i := 10) scLaw.nd rfl (Or.inr rfl) (pe_tup (pa_cons (pe_tup pa_nil) (pa_cons (pe_tup pa_nil) pa_nil))))
      (pss_cons (ps_set (i := 11) scLaw.nd rfl (Or.inr rfl) (pe_lo l_law_odd (hr.mono (by decide)) (by rfl) (pa_cons (pv 1) (pa_cons (pv 10) pa_nil))))
      (pss_cons (ps_set (i := 9) scLaw.nd rfl (Or.inl rfl) (pe_lst (pa_cons (pe_lamW (k := 8) D_law_error (G_law_error rfl rfl _ _) TB rfl hmT hu (hr.mono (by decide)) (by rfl) (LamX.lamS_by (by show LamX.lamSB (defScope sLaw) _ = true; decide +kernel)) (fun A outer s H E f c' hrL => by exact (pe_loX e_freed (takes_of rfl rfl rfl rfl) (hrL.mono (by decide)) (by rfl) (pa_cons (pv 10) (pa_cons (pv 11) pa_nil))))) pa_nil)))
      (pss_cons (ps_expr (pe_bm PySem.F.plainAttrs_list PySem.F.slot_list_append PySem.F.type_list_append mt_append (pv 9) (pa_cons (pe_lamW (k := 8) D_law_error (G_law_error rfl rfl _ _) TB rfl hmT hu (hr.mono (by decide)) (by rfl) (LamX.lamS_by (by show LamX.lamSB (defScope sLaw) _ = true; decide +kernel)) (fun A outer s H E f c' hrL => by exact (pe_loX e_kept (takes_of rfl rfl rfl rfl) (hrL.mono (by decide)) (by rfl) (pa_cons (pv 10) (pa_cons (pv 11) pa_nil))))) pa_nil)))
      (pss_one (ps_ret (pe_cmpR op_eq (pe_callB (call_repr hgd hr.units) (by rfl) T.b_repr boot'_repr (pa_cons (pv 9) pa_nil)) (pe_callB (call_repr hgd hr.units) (by rfl) T.b_repr boot'_repr (pa_cons (pe_op op_rep (pe_lst (pa_cons (pe_tup (pa_cons pe_str (pa_cons (pv 11) pa_nil))) pa_nil)) pe_int) pa_nil)) (nomark _)))))))))), ?_⟩
    refine x_start (σ' := [some (.ref a), none, none, none, none, none, none, none, none, none, none, none, none]) rfl ?_
    try dsimp only [cxOf]
    repeat walk_at "rd"
    refine ⟨a, ns, rfl, ha, fun p c H1 np nc k1 P1 => ?_⟩
    have tab1 := tabs_k0 k1 hTab
    repeat walk_at "rd"
    rename_i q nq
    have P2 := P1.keep ((Kx.refl [] H1).new (o := .tup [.int 12, .int 40]) nq) (by simp) (by simp) (Nat.le_refl _)
    have eq2 := upd_same (H := H1) (a := q) (o := .tup [.int 12, .int 40])
    have tab2 := tabs_k0 ((Kx.refl [] H1).new (o := .tup [.int 12, .int 40]) nq) tab1
    have nqp : q ≠ p := fun z => by
      obtain ⟨⟨o, ho⟩, _⟩ := P1.some
      rw [z, ho] at nq
      cases nq
    generalize upd H1 q (.tup [.int 12, .int 40]) = H2 at *
    refine y_forT (xs := [.int 12, .int 40]) (SqT.of eq2) ⟨fun i σ H3 => ∃ (y2 y3 y4 y5 y6 y7 y8 y9 y10 y11 y12 : Option V), σ = [some (.ref a), some (.ref p), y2, y3, y4, y5, y6, y7, y8, y9, y10, y11, y12] ∧ PenAt H3 p c (2000 * i) ∧ H3 q = some (.tup [.int 12, .int 40]) ∧ LamX.Tabs (TT PR1 PR2) H3, ⟨_, _, _, _, _, _, _, _, _, _, _, rfl, P2.up rfl rfl (by omega), eq2, tab2⟩, ?_, ?_, ?_⟩
    · rintro i σ H3 hi ⟨y2, y3, y4, y5, y6, y7, y8, y9, y10, y11, y12, rfl, P3, eq3, tab3⟩
      exact SqT.of eq3
    · rintro i x σ H3 H3' hi ⟨y2, y3, y4, y5, y6, y7, y8, y9, y10, y11, y12, rfl, P3, eq3, tab3⟩ ⟨rfl, hx⟩
      have hi2 : i < 2 := hi
      obtain ⟨M, rfl, hM1, hM40⟩ : ∃ M : Nat, x = .int M ∧ 1 ≤ M ∧ M ≤ 40 := by
        match i, hx with
        | 0, hx => exact ⟨12, (Option.some.inj hx).symm, by decide, by decide⟩
        | 1, hx => exact ⟨40, (Option.some.inj hx).symm, by decide, by decide⟩
      repeat walk_at "rd"
      refine ⟨p, c, _, M, rfl, P3, hM1, hM40, by omega, fun B D lab slots outs ls H4 eB hT wf rf hsl1 hslM hls hlsn hlsl hlab ⟨z, hz, hz1⟩ k4 P4 => ?_⟩
      have hBt : SqT K H4 B [.ref D, .int lab] := SqT.of eB
      have eq4 := k4 q _ (by simpa using nqp) eq3
      have tab4 := tabs_kx k4 (penLs P3) tab3
      have h40 := wf.most
      have hol := wf.len
      have gh := good_heap wf
      repeat walk_at "rd"
      refine x_repr hT.dp gh (by decide) (by decide) ?_
      generalize hbf : (heapD slots outs).shown = bf
      obtain ⟨S, O, vs, hD, hS, hO, hl, hv⟩ := id hT.ex
      repeat walk_at "rd"
      rw [hl]
      refine y_lcR1 (by omega) (by omega) (fun Z nZ => ⟨fun i H6 => ∃ ns : List Nat, Kx [] H4 H6 ∧ H6 Z = some (.lst (ns.map fun m : Nat => V.int m)) ∧ (∀ m ∈ ns, DropN slots outs m) ∧ ns.length ≤ i ∧ (lab < i → lab ∈ ns), ⟨[], (Kx.refl _ _).new nZ, upd_same, (fun x hx => by cases hx), Nat.le_refl _, by omega⟩, fun _ _ _ _ => trivial, ?_, ?_⟩)
      · rintro v x H6 H6' hv' ⟨ns, k6, eZ, hns, hnl, hin⟩ ⟨rfl, rfl⟩
        rw [Int.toNat_natCast] at hv'
        have es := List.getElem?_eq_getElem hv'
        have hio : v < outs.length := by omega
        have hou := List.getElem?_eq_getElem hio
        have hat : atI (outs.map V.int) (v : Int) = some (.int outs[v]) := atI_nat (by rw [List.getElem?_map, hou]; rfl)
        have hD6 := k6.sqT (by simp) hD
        have hO6 := k6.sqT (by simp) hO
        generalize outs[v] = zo at *
        dsimp only
        rw [Int.zero_add]
        repeat walk_at "rd"
        refine ⟨rfl, ?_⟩
        repeat walk_at "rd"
        by_cases h0 : 0 < zo
        · refine iteP (decide_eq_true h0) ?_
          repeat walk_at "rd"
          refine ⟨_, eZ, small1000 (by rw [List.length_map]; omega), ns ++ [v], k6.wr (.inl nZ), by rw [upd_same, List.map_append]; rfl, fun m hm => ?_, by rw [List.length_append, List.length_singleton]; omega, fun h => ?_⟩
          · rcases List.mem_append.mp hm with hm | hm
            · exact hns m hm
            · rw [List.mem_singleton.mp hm]
              refine ⟨?_, zo, hou, by omega⟩
              unfold isLive
              rw [es]
              cases e : slots[v] with
              | some row => rfl
              | none =>
                have := wf.free v (by rw [es, e])
                rw [hou] at this
                cases Option.some.inj this
                omega
          · by_cases hlv : lab < v
            · exact List.mem_append_left _ (hin hlv)
            · exact List.mem_append_right _ (List.mem_singleton.mpr (by omega))
        · refine iteN (decide_eq_false h0) ⟨ns, k6, eZ, hns, by omega, fun h => ?_⟩
          by_cases hlv : lab < v
          · exact hin hlv
          · exfalso
            have : lab = v := by omega
            rw [this, hou] at hz
            cases Option.some.inj hz
            omega
      rintro H6 ⟨ns, k6, eZ, hns, hnl, hin⟩
      rw [Int.toNat_natCast] at hnl hin
      obtain ⟨_, _, hlt⟩ := live_lt hlab
      have hl1 : 1 ≤ ns.length := List.length_pos_of_mem (hin hlt)
      have nZp : Z ≠ p := fun e => by
        obtain ⟨⟨o, ho⟩, _⟩ := P4.some
        rw [e, ho] at nZ
        cases nZ
      have hT6 := hT.keep k6
      have P6 := P4.keep k6 (by simp) (by simp) (Nat.le_refl _)
      have eq6 := k6 q _ (by simp) eq4
      have tab6 := tabs_k0 k6 tab4
      repeat walk_at "rd"
      rename_i U0 nU0
      have kU : Kx [] H6 (upd H6 U0 (.lst [V.int (lab : Nat)])) := (Kx.refl [] H6).new nU0
      have P7 := P6.keep kU (by simp) (by simp) (Nat.le_refl _)
      have eq7 := kU q _ (by simp) eq6
      have eZ7 := kU Z _ (by simp) eZ
      have hT7 := hT6.keep kU
      have tab7 := tabs_k0 kU tab6
      have eU7 := upd_same (H := H6) (a := U0) (o := .lst [V.int (lab : Nat)])
      have nU0p : U0 ≠ p := fun e => by
        obtain ⟨⟨o, ho⟩, _⟩ := P6.some
        rw [e, ho] at nU0
        cases nU0
      clear kU
      generalize upd H6 U0 (.lst [V.int (lab : Nat)]) = H7 at *
      refine x_draw P7 (by omega) (by omega) (by omega) fun d H8 d0 d1 k8 P8 => ?_
      obtain ⟨kk, rfl⟩ : ∃ kk : Nat, d = kk := ⟨d.toNat, by omega⟩
      have eq8 := k8 q _ (by simpa using nqp) eq7
      have eZ8 := k8 Z _ (by simpa using nZp) eZ7
      have eU8 := k8 U0 _ (by simpa using nU0p) eU7
      have hT8 := heap_kx k8 (penLs P7) hT7
      have tab8 := tabs_kx k8 (penLs P7) tab7
      obtain ⟨⟨op, hp⟩, oc, hc⟩ := P8.some
      repeat walk_at "rd"
      refine y_lcR1 (by omega) (by omega) (fun W nW => ⟨fun t H9 => Kx [p] H8 H9 ∧ PenAt H9 p c (2000 * i + 1001 + t) ∧ ∃ zs : List Nat, H9 W = some (.lst (zs.map fun m : Nat => V.int m)) ∧ zs.length = t ∧ ∀ m ∈ zs, DropN slots outs m,
        ⟨(Kx.refl [p] H8).new nW, P8.keep ((Kx.refl [] H8).new nW) (by simp) (by simp) (by omega), [], upd_same, rfl, by simp⟩, fun _ _ _ _ => trivial, ?_, ?_⟩)
      · rintro t x H9 H9' ht ⟨k9, P9, zs, eW, hzl, hzs⟩ ⟨rfl, rfl⟩
        rw [Int.toNat_natCast] at ht
        have nWp : W ≠ p := fun z => by rw [z, hp] at nW; cases nW
        have eZ9 := k9 Z _ (by simpa using nZp) eZ8
        repeat walk_at "rd"
        refine ⟨rfl, ?_⟩
        repeat walk_at "rd"
        rw [List.length_map]
        refine x_draw P9 (by omega) (by omega) (by omega) fun g H10 g0 g1 k10 P10 => ?_
        obtain ⟨m, rfl⟩ : ∃ m : Nat, g = m := ⟨g.toNat, by omega⟩
        have hm : m < ns.length := by omega
        have eZ10 := k10 Z _ (by simpa using nZp) eZ9
        have eW10 := k10 W _ (by simpa using nWp) eW
        have hat : atI (ns.map fun m : Nat => V.int m) (m : Int) = some (.int (ns[m] : Nat)) := atI_nat (by rw [List.getElem?_map, List.getElem?_eq_getElem hm]; rfl)
        have hnm := hns _ (List.getElem_mem hm)
        generalize ns[m] = y at *
        repeat walk_at "rd"
        refine ⟨_, eW10, small1000 (by rw [List.length_map]; omega), (k9.trans k10).wr (.inl nW), P10.keep (Kx.wr (S := [W]) (Kx.refl [W] H10) (.inr (by simp))) (by simp [nWp.symm]) (by simp; intro z; rw [← z, hc] at nW; cases nW) (by omega), zs ++ [y], ?_, by rw [List.length_append, hzl]; rfl, fun z hz2 => ?_⟩
        · rw [upd_same, List.map_append]
          rfl
        · rcases List.mem_append.mp hz2 with hz2 | hz2
          · exact hzs z hz2
          · rw [List.mem_singleton.mp hz2]
            exact hnm
      rintro H9 ⟨k9, P9, zs, eW, hzl, hzs⟩
      rw [Int.toNat_natCast] at hzl P9
      have eq9 := k9 q _ (by simpa using nqp) eq8
      have eU9 := k9 U0 _ (by simpa using nU0p) eU8
      have hT9 := heap_kx k9 (penLs P8) hT8
      have tab9 := tabs_kx k9 (penLs P8) tab8
      have hall : ∀ m ∈ lab :: zs, DropN slots outs m := fun m hm => by
        rcases List.mem_cons.mp hm with rfl | hm
        · exact ⟨hlab, z, hz, hz1⟩
        · exact hzs m hm
      repeat walk_at "rd"
      refine x_catL eU9 eW (Nat.le_of_lt (small1000 (by rw [List.length_map]; show 1 + zs.length ≤ 1000; omega))) fun Y nY => ?_
      rw [show [V.int (lab : Nat)] ++ zs.map (fun m : Nat => V.int m) = (lab :: zs).map fun m : Nat => V.int m from rfl]
      have kY : Kx [] H9 (upd H9 Y (.lst ((lab :: zs).map fun m : Nat => V.int m))) := (Kx.refl [] H9).new nY
      have P10 := P9.keep kY (by simp) (by simp) (Nat.le_refl _)
      have eq10 := kY q _ (by simp) eq9
      have hT10 := hT9.keep kY
      have tab10 := tabs_k0 kY tab9
      have eY := upd_same (H := H9) (a := Y) (o := .lst ((lab :: zs).map fun m : Nat => V.int m))
      clear kY
      generalize upd H9 Y (.lst ((lab :: zs).map fun m : Nat => V.int m)) = H10 at *
      repeat walk_at "rd"
      refine y_forL (xs := (lab :: zs).map fun m : Nat => V.int m) (SqL.of eY) ⟨fun j σ H11 => ∃ (y6 : Option V), σ = [some (.ref a), some (.ref p), some (.int M), some (.ref D), some (.int lab), some (.str bf), y6, some (.ref Z), some (.ref Y), y9, y10, y11, y12] ∧ Kx [] H10 H11, ⟨_, rfl, Kx.refl _ _⟩, ?_, ?_, ?_⟩
      · rintro j σ H11 hj ⟨y6, rfl, k11⟩
        exact k11.sqL (by simp) (SqL.of eY)
      · rintro j x σ H11 H11' hj ⟨y6, rfl, k11⟩ ⟨rfl, hx⟩
        rw [List.length_map] at hj
        replace hx : ((lab :: zs).map fun m : Nat => V.int m)[j]? = some x := hx
        rw [List.getElem?_map, List.getElem?_eq_getElem hj] at hx
        cases Option.some.inj hx
        obtain ⟨hl2, z2, hz2, hz12⟩ := hall _ (List.getElem_mem hj)
        generalize (lab :: zs)[j] = y at *
        repeat walk_at "rd"
        refine ⟨D, y, slots, outs, z2, rfl, hT10.keep k11, wf, rf, hl2, hz2, hz12, fun H12 k12 => ?_⟩
        repeat walk_at "rd"
        try refine iteN (by decide) ?_
        repeat walk_at "rd"
        exact ⟨_, rfl, k11.trans k12⟩
      · rintro σ H11 ⟨y6, rfl, k11⟩
        have P11 := P10.keep k11 (by simp) (by simp) (Nat.le_refl _)
        repeat walk_at "rd"
        refine ⟨D, p, c, _, slots, outs, rfl, P11, by omega, hT10.keep k11, wf, tabs_k0 k11 tab10, fun H12 ky P12 tab12 => ?_⟩
        have hT12 := ky.heap P11 (hT10.keep k11)
        repeat walk_at "rd"
        try refine iteN (by decide) ?_
        repeat walk_at "rd"
        refine x_repr hT12.dp gh (by decide) (by decide) ?_
        rw [hbf]
        repeat walk_at "rd"
        refine iteN (by simp) ?_
        repeat walk_at "rd"
        exact ⟨_, _, _, _, _, _, _, _, _, _, _, rfl, P12.keep (Kx.refl [] _) (by simp) (by simp) (by omega), ky q _ (by simpa using nqp) (k11 q _ (by simp) eq10) (fun _ z => nomatch z), tab12⟩
    · rintro σ H3 ⟨y2, y3, y4, y5, y6, y7, y8, y9, y10, y11, y12, rfl, P3, eq3, tab3⟩
      repeat walk_at "rd"
      rename_i s0 ns0 o0 no0 D0 nD0
      have kk := (((Kx.refl [] H3).new (o := .tup []) ns0).new (o := .tup []) no0).new (o := .tup [.ref s0, .ref o0]) nD0
      have eD := upd_same (H := upd (upd H3 s0 (.tup [])) o0 (.tup [])) (a := D0) (o := .tup [.ref s0, .ref o0])
      have es := lk_ne (o := .tup [.ref s0, .ref o0]) (lk_ne (o := .tup []) (upd_same (H := H3) (a := s0) (o := .tup [])) no0) nD0
      have eo := lk_ne (o := .tup [.ref s0, .ref o0]) (upd_same (H := upd H3 s0 (.tup [])) (a := o0) (o := .tup [])) nD0
      have tab4 := tabs_k0 kk tab3
      have P4 := P3.keep kk (by simp) (by simp) (Nat.le_refl _)
      clear kk
      generalize upd (upd (upd H3 s0 (.tup [])) o0 (.tup [])) D0 (.tup [.ref s0, .ref o0]) = H4 at *
      have hT0 : HeapT K H4 D0 [] [] := ⟨s0, o0, [], SqT.of eD, SqT.of es, SqT.of eo, rfl, fun i o h => by cases h⟩
      refine ⟨p, c, D0, _, [], [], rfl, P4, by show 2000 * 2 < 900000; omega, hT0, by decide, fun v d L H5 k5 P5 hfL hS hg hl => ?_⟩
      have tab5 := tabs_kx k5 (penLs P4) tab4
      have hT5 := heap_kx k5 (penLs P4) hT0
      have hd : ∀ H', LamX.ExtN H5 H' → Dp K H' v d := fun H' x => (hS.ext x).now
      repeat walk_at "rd"
      refine ⟨tab5, fun A1 a1 tA1 => ⟨false, v, fun E Qn hE => ?_, fun L1 B1 nL1 kA eL1 => ?_⟩⟩
      · refine x_cW ?_
        repeat walk_at "rd"
        exact ⟨D0, v, d, [], [], rfl, extN_heap a1 hT5, hd _ a1, .inl ⟨hl, hE⟩⟩
      have X1 : LamX.ExtN H5 B1 := extN_trans a1 (extN_k kA)
      have tB1 := tabs_k0 kA tA1
      repeat walk_at "rd"
      rename_i Fo nFo
      have eFo := upd_same (H := B1) (a := Fo) (o := .lst [.ref L1])
      have X2 : LamX.ExtN H5 (upd B1 Fo (.lst [.ref L1])) := extN_trans X1 (extN_k ((Kx.refl [] B1).new nFo))
      have tB2 := tabs_k0 ((Kx.refl [] B1).new (o := .lst [.ref L1]) nFo) tB1
      have eL2 := lk_ne (o := .lst [.ref L1]) eL1 nFo
      have nLF : L1 ≠ Fo := ne_of_none eL1 nFo
      generalize upd B1 Fo (.lst [.ref L1]) = B2 at *
      refine ⟨ty_list (SqL.of eFo), ?_⟩
      repeat walk_at "rd"
      refine ⟨tB2, fun A3 a3 tA3 => ⟨false, v, fun E Qn hE => ?_, fun M1 B3 nM1 kC eM1 => ?_⟩⟩
      · refine x_cW ?_
        repeat walk_at "rd"
        exact ⟨D0, v, d, [], [], rfl, extN_heap (extN_trans X2 a3) hT5, hd _ (extN_trans X2 a3), .inl ⟨hl, hE⟩⟩
      have Y3 : LamX.ExtN B2 B3 := extN_trans a3 (extN_k kC)
      have tB3 := tabs_k0 kC tA3
      have eFo3 := Y3 Fo _ eFo fun _ z => nomatch z
      have eL3 := Y3 L1 _ eL2 fun _ z => nomatch z
      have nMF : M1 ≠ Fo := fun z => by
        have := a3 Fo _ eFo fun _ z => nomatch z
        rw [← z, nM1] at this
        cases this
      have X4 : LamX.ExtN H5 (upd B3 Fo (.lst ([.ref L1] ++ [.ref M1]))) := extN_wr X1 nFo (extN_trans X2 Y3)
      repeat walk_at "rd"
      have tB4 := tabs_kx ((Kx.refl [Fo] B3).wr (p := Fo) (o := .lst ([.ref L1] ++ [.ref M1])) (.inr (by simp))) (fun z hz => by rw [List.mem_singleton.mp hz]; exact ⟨_, eFo3⟩) tB3
      have eL4 := (upd_ne (H := B3) (o := .lst ([.ref L1] ++ [.ref M1])) nLF).trans eL3
      have eM4 := (upd_ne (H := B3) (o := .lst ([.ref L1] ++ [.ref M1])) nMF).trans eM1
      have eF4 := upd_same (H := B3) (a := Fo) (o := .lst ([.ref L1] ++ [.ref M1]))
      generalize upd B3 Fo (.lst ([.ref L1] ++ [.ref M1])) = B4 at *
      refine x_reprP (wd := "node") (d := d) (SqL.of eF4) (.cons (.tup (SqT.of eL4) (.cons (.str _) (.cons (hd _ X4) .nil))) (.cons (.tup (SqT.of eM4) (.cons (.str _) (.cons (hd _ X4) .nil))) .nil)) gw_node hg ?_
      generalize hex : (PyData.list [.tuple [.str "node", d], .tuple [.str "node", d]]).shown = ex
      repeat walk_at "rd"
      rename_i m nm lq nlq
      refine x_rep (xs := [.ref m]) (k := 2) upd_same (by omega) (by omega) (Nat.le_of_lt (small1000 (by simp))) fun R nR => ?_
      have kB := (((Kx.refl [] B4).new (o := .tup [.str "node", v]) nm).new (o := .lst [.ref m]) nlq).new (o := .lst (List.replicate (2 : Int).toNat [V.ref m]).flatten) nR
      have em := lk_ne (o := .lst (List.replicate (2 : Int).toNat [V.ref m]).flatten) (lk_ne (o := .lst [.ref m]) (upd_same (H := B4) (a := m) (o := .tup [.str "node", v])) nlq) nR
      have eR := upd_same (H := upd (upd B4 m (.tup [.str "node", v])) lq (.lst [.ref m])) (a := R) (o := .lst (List.replicate (2 : Int).toNat [V.ref m]).flatten)
      have X6 : LamX.ExtN H5 (upd (upd (upd B4 m (.tup [.str "node", v])) lq (.lst [.ref m])) R (.lst (List.replicate (2 : Int).toNat [V.ref m]).flatten)) := extN_trans X4 (extN_k kB)
      have tB6 := tabs_k0 kB tB4
      clear kB
      generalize upd (upd (upd B4 m (.tup [.str "node", v])) lq (.lst [.ref m])) R (.lst (List.replicate (2 : Int).toNat [V.ref m]).flatten) = B6 at *
      repeat walk_at "rd"
      refine x_reprP (wd := "node") (d := d) (xs := [.ref m, .ref m]) (SqL.of eR) (.cons (.tup (SqT.of em) (.cons (.str _) (.cons (hd _ X6) .nil))) (.cons (.tup (SqT.of em) (.cons (.str _) (.cons (hd _ X6) .nil))) .nil)) gw_node hg ?_
      rw [hex]
      repeat walk_at "rd"
      rw [decide_eq_true (show V.str ex = V.str ex from rfl)]
      exact k _
end

theorem all_mk {l : PySem.W.OpenLaw} {w : World} {K : PySem.W.Frag} {h : Heap} {mg : Str → Option Value} {fa : Addr} (X : K.In h) (G : h.Ns mainGlobals mg) (hfa : mg "law" = some (.ref fa))
    {C : Addr} (aC : PySem.W.nsIn K mainGlobals "Releasing" = some (some (.ref C))) (pg : PySem.W.plainGet K C Str.empty = true) (hd : PySem.W.hasDictIn K C = true) (po : PySem.W.plainOver K C = true) (sa : PySem.W.findIn K (.ref C) "__setattr__" = some (some (.builtin "object.__setattr__"))) (mk : PySem.W.makesIn K C = true) (kc : PySem.W.keepIn K (.ref C) = true)
    (n_slots : PySem.W.findIn K (.ref C) "slots" = some none)
    (n_outside : PySem.W.findIn K (.ref C) "outside" = some none)
    (n_references : PySem.W.findIn K (.ref C) "references" = some none)
    (n_limit : PySem.W.findIn K (.ref C) "limit" = some none)
    (n_emptied : PySem.W.findIn K (.ref C) "emptied" = some none)
    (n_shelf : PySem.W.findIn K (.ref C) "shelf" = some none)
    (n_events : PySem.W.findIn K (.ref C) "events" = some none)
    {f_law_draw : Addr} {od_law_draw an_law_draw : Option Addr} {sl_law_draw : Array (Option Value)} {oc_law_draw kV_law_draw dc_law_draw pm_law_draw cd_law_draw ct_law_draw : Value}
    (a_law_draw : PySem.W.nsIn K mainGlobals "_law_draw" = some (some (.ref f_law_draw))) (l_law_draw : K.lookup f_law_draw = some ⟨oc_law_draw, od_law_draw, .func (PySem.W.fnOf "_law_draw" "_law_draw" (defArgs sQDraw) (defBody sQDraw) (defScope sQDraw) .none kV_law_draw dc_law_draw pm_law_draw an_law_draw cd_law_draw ct_law_draw), sl_law_draw⟩)
    (c_law_draw : PySem.W.codeIn K cd_law_draw "_law_draw" = true) (k_law_draw : PySem.W.keepIn K (.ref f_law_draw) = true)
    {f_law_pen : Addr} {od_law_pen an_law_pen : Option Addr} {sl_law_pen : Array (Option Value)} {oc_law_pen kV_law_pen dc_law_pen pm_law_pen cd_law_pen ct_law_pen : Value}
    (a_law_pen : PySem.W.nsIn K mainGlobals "_law_pen" = some (some (.ref f_law_pen))) (l_law_pen : K.lookup f_law_pen = some ⟨oc_law_pen, od_law_pen, .func (PySem.W.fnOf "_law_pen" "_law_pen" (defArgs sQPen) (defBody sQPen) (defScope sQPen) .none kV_law_pen dc_law_pen pm_law_pen an_law_pen cd_law_pen ct_law_pen), sl_law_pen⟩)
    (c_law_pen : PySem.W.codeIn K cd_law_pen "_law_pen" = true) (k_law_pen : PySem.W.keepIn K (.ref f_law_pen) = true)
    {f_law_order : Addr} {od_law_order an_law_order : Option Addr} {sl_law_order : Array (Option Value)} {oc_law_order kV_law_order dc_law_order pm_law_order cd_law_order ct_law_order : Value}
    (a_law_order : PySem.W.nsIn K mainGlobals "_law_order" = some (some (.ref f_law_order))) (l_law_order : K.lookup f_law_order = some ⟨oc_law_order, od_law_order, .func (PySem.W.fnOf "_law_order" "_law_order" (defArgs sQOrder) (defBody sQOrder) (defScope sQOrder) .none kV_law_order dc_law_order pm_law_order an_law_order cd_law_order ct_law_order), sl_law_order⟩)
    (c_law_order : PySem.W.codeIn K cd_law_order "_law_order" = true) (k_law_order : PySem.W.keepIn K (.ref f_law_order) = true)
    {f_law_size : Addr} {od_law_size an_law_size : Option Addr} {sl_law_size : Array (Option Value)} {oc_law_size kV_law_size dc_law_size pm_law_size cd_law_size ct_law_size : Value}
    (a_law_size : PySem.W.nsIn K mainGlobals "_law_size" = some (some (.ref f_law_size))) (l_law_size : K.lookup f_law_size = some ⟨oc_law_size, od_law_size, .func (PySem.W.fnOf "_law_size" "_law_size" (defArgs sQSize) (defBody sQSize) (defScope sQSize) .none kV_law_size dc_law_size pm_law_size an_law_size cd_law_size ct_law_size), sl_law_size⟩)
    (c_law_size : PySem.W.codeIn K cd_law_size "_law_size" = true) (k_law_size : PySem.W.keepIn K (.ref f_law_size) = true)
    {f_live_nodes : Addr} {od_live_nodes an_live_nodes : Option Addr} {sl_live_nodes : Array (Option Value)} {oc_live_nodes kV_live_nodes dc_live_nodes pm_live_nodes cd_live_nodes ct_live_nodes : Value}
    (a_live_nodes : PySem.W.nsIn K mainGlobals "live_nodes" = some (some (.ref f_live_nodes))) (l_live_nodes : K.lookup f_live_nodes = some ⟨oc_live_nodes, od_live_nodes, .func (PySem.W.fnOf "live_nodes" "live_nodes" (defArgs sLiveNodes) (defBody sLiveNodes) (defScope sLiveNodes) .none kV_live_nodes dc_live_nodes pm_live_nodes an_live_nodes cd_live_nodes ct_live_nodes), sl_live_nodes⟩)
    (c_live_nodes : PySem.W.codeIn K cd_live_nodes "live_nodes" = true) (k_live_nodes : PySem.W.keepIn K (.ref f_live_nodes) = true)
    {f_law_links : Addr} {od_law_links an_law_links : Option Addr} {sl_law_links : Array (Option Value)} {oc_law_links kV_law_links dc_law_links pm_law_links cd_law_links ct_law_links : Value}
    (a_law_links : PySem.W.nsIn K mainGlobals "_law_links" = some (some (.ref f_law_links))) (l_law_links : K.lookup f_law_links = some ⟨oc_law_links, od_law_links, .func (PySem.W.fnOf "_law_links" "_law_links" (defArgs sQLinks) (defBody sQLinks) (defScope sQLinks) .none kV_law_links dc_law_links pm_law_links an_law_links cd_law_links ct_law_links), sl_law_links⟩)
    (c_law_links : PySem.W.codeIn K cd_law_links "_law_links" = true) (k_law_links : PySem.W.keepIn K (.ref f_law_links) = true)
    {f_law_heap : Addr} {od_law_heap an_law_heap : Option Addr} {sl_law_heap : Array (Option Value)} {oc_law_heap kV_law_heap dc_law_heap pm_law_heap cd_law_heap ct_law_heap : Value}
    (a_law_heap : PySem.W.nsIn K mainGlobals "_law_heap" = some (some (.ref f_law_heap))) (l_law_heap : K.lookup f_law_heap = some ⟨oc_law_heap, od_law_heap, .func (PySem.W.fnOf "_law_heap" "_law_heap" (defArgs sQHeap) (defBody sQHeap) (defScope sQHeap) .none kV_law_heap dc_law_heap pm_law_heap an_law_heap cd_law_heap ct_law_heap), sl_law_heap⟩)
    (c_law_heap : PySem.W.codeIn K cd_law_heap "_law_heap" = true) (k_law_heap : PySem.W.keepIn K (.ref f_law_heap) = true)
    {f_Releasing_destroy : Addr} {od_Releasing_destroy an_Releasing_destroy : Option Addr} {sl_Releasing_destroy : Array (Option Value)} {oc_Releasing_destroy kV_Releasing_destroy dc_Releasing_destroy pm_Releasing_destroy cd_Releasing_destroy ct_Releasing_destroy : Value}
    (a_Releasing_destroy : PySem.W.findIn K (.ref C) "_destroy" = some (some (.ref f_Releasing_destroy))) (i_Releasing_destroy : PySem.W.isFn K (.ref f_Releasing_destroy) = true) (l_Releasing_destroy : K.lookup f_Releasing_destroy = some ⟨oc_Releasing_destroy, od_Releasing_destroy, .func (PySem.W.fnOf "_destroy" "Releasing._destroy" (defArgs sReleasingDestroy) (defBody sReleasingDestroy) (defScope sReleasingDestroy) .none kV_Releasing_destroy dc_Releasing_destroy pm_Releasing_destroy an_Releasing_destroy cd_Releasing_destroy ct_Releasing_destroy), sl_Releasing_destroy⟩)
    (c_Releasing_destroy : PySem.W.codeIn K cd_Releasing_destroy "Releasing._destroy" = true) (k_Releasing_destroy : PySem.W.keepIn K (.ref f_Releasing_destroy) = true)
    {f_Releasing_release : Addr} {od_Releasing_release an_Releasing_release : Option Addr} {sl_Releasing_release : Array (Option Value)} {oc_Releasing_release kV_Releasing_release dc_Releasing_release pm_Releasing_release cd_Releasing_release ct_Releasing_release : Value}
    (a_Releasing_release : PySem.W.findIn K (.ref C) "_release" = some (some (.ref f_Releasing_release))) (i_Releasing_release : PySem.W.isFn K (.ref f_Releasing_release) = true) (l_Releasing_release : K.lookup f_Releasing_release = some ⟨oc_Releasing_release, od_Releasing_release, .func (PySem.W.fnOf "_release" "Releasing._release" (defArgs sReleasingRelease) (defBody sReleasingRelease) (defScope sReleasingRelease) .none kV_Releasing_release dc_Releasing_release pm_Releasing_release an_Releasing_release cd_Releasing_release ct_Releasing_release), sl_Releasing_release⟩)
    (c_Releasing_release : PySem.W.codeIn K cd_Releasing_release "Releasing._release" = true) (k_Releasing_release : PySem.W.keepIn K (.ref f_Releasing_release) = true)
    {f_Releasing_release_all : Addr} {od_Releasing_release_all an_Releasing_release_all : Option Addr} {sl_Releasing_release_all : Array (Option Value)} {oc_Releasing_release_all kV_Releasing_release_all dc_Releasing_release_all pm_Releasing_release_all cd_Releasing_release_all ct_Releasing_release_all : Value}
    (a_Releasing_release_all : PySem.W.findIn K (.ref C) "_release_all" = some (some (.ref f_Releasing_release_all))) (i_Releasing_release_all : PySem.W.isFn K (.ref f_Releasing_release_all) = true) (l_Releasing_release_all : K.lookup f_Releasing_release_all = some ⟨oc_Releasing_release_all, od_Releasing_release_all, .func (PySem.W.fnOf "_release_all" "Releasing._release_all" (defArgs sReleasingReleaseAll) (defBody sReleasingReleaseAll) (defScope sReleasingReleaseAll) .none kV_Releasing_release_all dc_Releasing_release_all pm_Releasing_release_all an_Releasing_release_all cd_Releasing_release_all ct_Releasing_release_all), sl_Releasing_release_all⟩)
    (c_Releasing_release_all : PySem.W.codeIn K cd_Releasing_release_all "Releasing._release_all" = true) (k_Releasing_release_all : PySem.W.keepIn K (.ref f_Releasing_release_all) = true)
    {f_Releasing_drop : Addr} {od_Releasing_drop an_Releasing_drop : Option Addr} {sl_Releasing_drop : Array (Option Value)} {oc_Releasing_drop kV_Releasing_drop dc_Releasing_drop pm_Releasing_drop cd_Releasing_drop ct_Releasing_drop : Value}
    (a_Releasing_drop : PySem.W.findIn K (.ref C) "drop" = some (some (.ref f_Releasing_drop))) (i_Releasing_drop : PySem.W.isFn K (.ref f_Releasing_drop) = true) (l_Releasing_drop : K.lookup f_Releasing_drop = some ⟨oc_Releasing_drop, od_Releasing_drop, .func (PySem.W.fnOf "drop" "Releasing.drop" (defArgs sReleasingDrop) (defBody sReleasingDrop) (defScope sReleasingDrop) .none kV_Releasing_drop dc_Releasing_drop pm_Releasing_drop an_Releasing_drop cd_Releasing_drop ct_Releasing_drop), sl_Releasing_drop⟩)
    (c_Releasing_drop : PySem.W.codeIn K cd_Releasing_drop "Releasing.drop" = true) (k_Releasing_drop : PySem.W.keepIn K (.ref f_Releasing_drop) = true)
    {f_slot_uses : Addr} {od_slot_uses an_slot_uses : Option Addr} {sl_slot_uses : Array (Option Value)} {oc_slot_uses kV_slot_uses dc_slot_uses pm_slot_uses cd_slot_uses ct_slot_uses : Value}
    (a_slot_uses : PySem.W.nsIn K mainGlobals "slot_uses" = some (some (.ref f_slot_uses))) (l_slot_uses : K.lookup f_slot_uses = some ⟨oc_slot_uses, od_slot_uses, .func (PySem.W.fnOf "slot_uses" "slot_uses" (defArgs sSlotUses) (defBody sSlotUses) (defScope sSlotUses) .none kV_slot_uses dc_slot_uses pm_slot_uses an_slot_uses cd_slot_uses ct_slot_uses), sl_slot_uses⟩)
    (c_slot_uses : PySem.W.codeIn K cd_slot_uses "slot_uses" = true) (k_slot_uses : PySem.W.keepIn K (.ref f_slot_uses) = true)
    {f_counts : Addr} {od_counts an_counts : Option Addr} {sl_counts : Array (Option Value)} {oc_counts kV_counts dc_counts pm_counts cd_counts ct_counts : Value}
    (a_counts : PySem.W.nsIn K mainGlobals "counts" = some (some (.ref f_counts))) (l_counts : K.lookup f_counts = some ⟨oc_counts, od_counts, .func (PySem.W.fnOf "counts" "counts" (defArgs sCounts) (defBody sCounts) (defScope sCounts) .none kV_counts dc_counts pm_counts an_counts cd_counts ct_counts), sl_counts⟩)
    (c_counts : PySem.W.codeIn K cd_counts "counts" = true) (k_counts : PySem.W.keepIn K (.ref f_counts) = true)
    {f_is_integer : Addr} {od_is_integer an_is_integer : Option Addr} {sl_is_integer : Array (Option Value)} {oc_is_integer kV_is_integer dc_is_integer pm_is_integer cd_is_integer ct_is_integer : Value}
    (a_is_integer : PySem.W.nsIn K mainGlobals "is_integer" = some (some (.ref f_is_integer))) (l_is_integer : K.lookup f_is_integer = some ⟨oc_is_integer, od_is_integer, .func (PySem.W.fnOf "is_integer" "is_integer" (defArgs sIsInteger) (defBody sIsInteger) (defScope sIsInteger) .none kV_is_integer dc_is_integer pm_is_integer an_is_integer cd_is_integer ct_is_integer), sl_is_integer⟩)
    (c_is_integer : PySem.W.codeIn K cd_is_integer "is_integer" = true) (k_is_integer : PySem.W.keepIn K (.ref f_is_integer) = true)
    {f_is_between : Addr} {od_is_between an_is_between : Option Addr} {sl_is_between : Array (Option Value)} {oc_is_between kV_is_between dc_is_between pm_is_between cd_is_between ct_is_between : Value}
    (a_is_between : PySem.W.nsIn K mainGlobals "is_between" = some (some (.ref f_is_between))) (l_is_between : K.lookup f_is_between = some ⟨oc_is_between, od_is_between, .func (PySem.W.fnOf "is_between" "is_between" (defArgs sIsBetween) (defBody sIsBetween) (defScope sIsBetween) .none kV_is_between dc_is_between pm_is_between an_is_between cd_is_between ct_is_between), sl_is_between⟩)
    (c_is_between : PySem.W.codeIn K cd_is_between "is_between" = true) (k_is_between : PySem.W.keepIn K (.ref f_is_between) = true)
    {f_is_live : Addr} {od_is_live an_is_live : Option Addr} {sl_is_live : Array (Option Value)} {oc_is_live kV_is_live dc_is_live pm_is_live cd_is_live ct_is_live : Value}
    (a_is_live : PySem.W.nsIn K mainGlobals "is_live" = some (some (.ref f_is_live))) (l_is_live : K.lookup f_is_live = some ⟨oc_is_live, od_is_live, .func (PySem.W.fnOf "is_live" "is_live" (defArgs sIsLive) (defBody sIsLive) (defScope sIsLive) .none kV_is_live dc_is_live pm_is_live an_is_live cd_is_live ct_is_live), sl_is_live⟩)
    (c_is_live : PySem.W.codeIn K cd_is_live "is_live" = true) (k_is_live : PySem.W.keepIn K (.ref f_is_live) = true)
    {f_need_live : Addr} {od_need_live an_need_live : Option Addr} {sl_need_live : Array (Option Value)} {oc_need_live kV_need_live dc_need_live pm_need_live cd_need_live ct_need_live : Value}
    (a_need_live : PySem.W.nsIn K mainGlobals "need_live" = some (some (.ref f_need_live))) (l_need_live : K.lookup f_need_live = some ⟨oc_need_live, od_need_live, .func (PySem.W.fnOf "need_live" "need_live" (defArgs sNeedLive) (defBody sNeedLive) (defScope sNeedLive) .none kV_need_live dc_need_live pm_need_live an_need_live cd_need_live ct_need_live), sl_need_live⟩)
    (c_need_live : PySem.W.codeIn K cd_need_live "need_live" = true) (k_need_live : PySem.W.keepIn K (.ref f_need_live) = true)
    {f_need_reference : Addr} {od_need_reference an_need_reference : Option Addr} {sl_need_reference : Array (Option Value)} {oc_need_reference kV_need_reference dc_need_reference pm_need_reference cd_need_reference ct_need_reference : Value}
    (a_need_reference : PySem.W.nsIn K mainGlobals "need_reference" = some (some (.ref f_need_reference))) (l_need_reference : K.lookup f_need_reference = some ⟨oc_need_reference, od_need_reference, .func (PySem.W.fnOf "need_reference" "need_reference" (defArgs sNeedReference) (defBody sNeedReference) (defScope sNeedReference) .none kV_need_reference dc_need_reference pm_need_reference an_need_reference cd_need_reference ct_need_reference), sl_need_reference⟩)
    (c_need_reference : PySem.W.codeIn K cd_need_reference "need_reference" = true) (k_need_reference : PySem.W.keepIn K (.ref f_need_reference) = true)
    {f_Releasing_init : Addr} {od_Releasing_init an_Releasing_init : Option Addr} {sl_Releasing_init : Array (Option Value)} {oc_Releasing_init kV_Releasing_init dc_Releasing_init pm_Releasing_init cd_Releasing_init ct_Releasing_init : Value}
    (a_Releasing_init : PySem.W.findIn K (.ref C) "__init__" = some (some (.ref f_Releasing_init))) (i_Releasing_init : PySem.W.isFn K (.ref f_Releasing_init) = true) (l_Releasing_init : K.lookup f_Releasing_init = some ⟨oc_Releasing_init, od_Releasing_init, .func (PySem.W.fnOf "__init__" "Releasing.__init__" (defArgs sReleasingInit) (defBody sReleasingInit) (defScope sReleasingInit) .none kV_Releasing_init dc_Releasing_init pm_Releasing_init an_Releasing_init cd_Releasing_init ct_Releasing_init), sl_Releasing_init⟩)
    (c_Releasing_init : PySem.W.codeIn K cd_Releasing_init "Releasing.__init__" = true) (k_Releasing_init : PySem.W.keepIn K (.ref f_Releasing_init) = true)
    {f_Releasing_result : Addr} {od_Releasing_result an_Releasing_result : Option Addr} {sl_Releasing_result : Array (Option Value)} {oc_Releasing_result kV_Releasing_result dc_Releasing_result pm_Releasing_result cd_Releasing_result ct_Releasing_result : Value}
    (a_Releasing_result : PySem.W.findIn K (.ref C) "result" = some (some (.ref f_Releasing_result))) (i_Releasing_result : PySem.W.isFn K (.ref f_Releasing_result) = true) (l_Releasing_result : K.lookup f_Releasing_result = some ⟨oc_Releasing_result, od_Releasing_result, .func (PySem.W.fnOf "result" "Releasing.result" (defArgs sReleasingResult) (defBody sReleasingResult) (defScope sReleasingResult) .none kV_Releasing_result dc_Releasing_result pm_Releasing_result an_Releasing_result cd_Releasing_result ct_Releasing_result), sl_Releasing_result⟩)
    (c_Releasing_result : PySem.W.codeIn K cd_Releasing_result "Releasing.result" = true) (k_Releasing_result : PySem.W.keepIn K (.ref f_Releasing_result) = true)
    {f_run_drop : Addr} {od_run_drop an_run_drop : Option Addr} {sl_run_drop : Array (Option Value)} {oc_run_drop kV_run_drop dc_run_drop pm_run_drop cd_run_drop ct_run_drop : Value}
    (a_run_drop : PySem.W.nsIn K mainGlobals "run_drop" = some (some (.ref f_run_drop))) (l_run_drop : K.lookup f_run_drop = some ⟨oc_run_drop, od_run_drop, .func (PySem.W.fnOf "run_drop" "run_drop" (defArgs sRunDrop) (defBody sRunDrop) (defScope sRunDrop) .none kV_run_drop dc_run_drop pm_run_drop an_run_drop cd_run_drop ct_run_drop), sl_run_drop⟩)
    (c_run_drop : PySem.W.codeIn K cd_run_drop "run_drop" = true) (k_run_drop : PySem.W.keepIn K (.ref f_run_drop) = true)
    {f_drop : Addr} {od_drop an_drop : Option Addr} {sl_drop : Array (Option Value)} {oc_drop kV_drop dc_drop pm_drop cd_drop ct_drop : Value}
    (a_drop : PySem.W.nsIn K mainGlobals "drop" = some (some (.ref f_drop))) (l_drop : K.lookup f_drop = some ⟨oc_drop, od_drop, .func (PySem.W.fnOf "drop" "drop" (defArgs sDrop) (defBody sDrop) (defScope sDrop) .none kV_drop dc_drop pm_drop an_drop cd_drop ct_drop), sl_drop⟩)
    (c_drop : PySem.W.codeIn K cd_drop "drop" = true) (k_drop : PySem.W.keepIn K (.ref f_drop) = true)
    {f_freed : Addr} {od_freed an_freed : Option Addr} {sl_freed : Array (Option Value)} {oc_freed kV_freed dc_freed pm_freed cd_freed ct_freed : Value}
    (a_freed : PySem.W.nsIn K mainGlobals "freed" = some (some (.ref f_freed))) (l_freed : K.lookup f_freed = some ⟨oc_freed, od_freed, .func (PySem.W.fnOf "freed" "freed" (defArgs sFreed) (defBody sFreed) (defScope sFreed) .none kV_freed dc_freed pm_freed an_freed cd_freed ct_freed), sl_freed⟩)
    (c_freed : PySem.W.codeIn K cd_freed "freed" = true) (k_freed : PySem.W.keepIn K (.ref f_freed) = true)
    {f_kept : Addr} {od_kept an_kept : Option Addr} {sl_kept : Array (Option Value)} {oc_kept kV_kept dc_kept pm_kept cd_kept ct_kept : Value}
    (a_kept : PySem.W.nsIn K mainGlobals "kept" = some (some (.ref f_kept))) (l_kept : K.lookup f_kept = some ⟨oc_kept, od_kept, .func (PySem.W.fnOf "kept" "kept" (defArgs sKept) (defBody sKept) (defScope sKept) .none kV_kept dc_kept pm_kept an_kept cd_kept ct_kept), sl_kept⟩)
    (c_kept : PySem.W.codeIn K cd_kept "kept" = true) (k_kept : PySem.W.keepIn K (.ref f_kept) = true)
    {f_law_odd : Addr} {od_law_odd an_law_odd : Option Addr} {sl_law_odd : Array (Option Value)} {oc_law_odd kV_law_odd dc_law_odd pm_law_odd cd_law_odd ct_law_odd : Value}
    (a_law_odd : PySem.W.nsIn K mainGlobals "_law_odd" = some (some (.ref f_law_odd))) (l_law_odd : K.lookup f_law_odd = some ⟨oc_law_odd, od_law_odd, .func (PySem.W.fnOf "_law_odd" "_law_odd" (defArgs sQOdd) (defBody sQOdd) (defScope sQOdd) .none kV_law_odd dc_law_odd pm_law_odd an_law_odd cd_law_odd ct_law_odd), sl_law_odd⟩)
    (c_law_odd : PySem.W.codeIn K cd_law_odd "_law_odd" = true) (k_law_odd : PySem.W.keepIn K (.ref f_law_odd) = true)
    {f_law_gone : Addr} {od_law_gone an_law_gone : Option Addr} {sl_law_gone : Array (Option Value)} {oc_law_gone kV_law_gone dc_law_gone pm_law_gone cd_law_gone ct_law_gone : Value}
    (a_law_gone : PySem.W.nsIn K mainGlobals "_law_gone" = some (some (.ref f_law_gone))) (l_law_gone : K.lookup f_law_gone = some ⟨oc_law_gone, od_law_gone, .func (PySem.W.fnOf "_law_gone" "_law_gone" (defArgs sQGone) (defBody sQGone) (defScope sQGone) .none kV_law_gone dc_law_gone pm_law_gone an_law_gone cd_law_gone ct_law_gone), sl_law_gone⟩)
    (c_law_gone : PySem.W.codeIn K cd_law_gone "_law_gone" = true) (k_law_gone : PySem.W.keepIn K (.ref f_law_gone) = true)
    {f_law_right : Addr} {od_law_right an_law_right : Option Addr} {sl_law_right : Array (Option Value)} {oc_law_right kV_law_right dc_law_right pm_law_right cd_law_right ct_law_right : Value}
    (a_law_right : PySem.W.nsIn K mainGlobals "_law_right" = some (some (.ref f_law_right))) (l_law_right : K.lookup f_law_right = some ⟨oc_law_right, od_law_right, .func (PySem.W.fnOf "_law_right" "_law_right" (defArgs sQRight) (defBody sQRight) (defScope sQRight) .none kV_law_right dc_law_right pm_law_right an_law_right cd_law_right ct_law_right), sl_law_right⟩)
    (c_law_right : PySem.W.codeIn K cd_law_right "_law_right" = true) (k_law_right : PySem.W.keepIn K (.ref f_law_right) = true)
    {f_law_error : Addr} {od_law_error an_law_error : Option Addr} {sl_law_error : Array (Option Value)} {oc_law_error kV_law_error dc_law_error pm_law_error cd_law_error ct_law_error : Value}
    (a_law_error : PySem.W.nsIn K mainGlobals "_law_error" = some (some (.ref f_law_error))) (l_law_error : K.lookup f_law_error = some ⟨oc_law_error, od_law_error, .func (PySem.W.fnOf "_law_error" "_law_error" (defArgs sQError) (defBody sQError) (defScope sQError) .none kV_law_error dc_law_error pm_law_error an_law_error cd_law_error ct_law_error), sl_law_error⟩)
    (c_law_error : PySem.W.codeIn K cd_law_error "_law_error" = true) (k_law_error : PySem.W.keepIn K (.ref f_law_error) = true)
    {f_law_refused : Addr} {od_law_refused an_law_refused : Option Addr} {sl_law_refused : Array (Option Value)} {oc_law_refused kV_law_refused dc_law_refused pm_law_refused cd_law_refused ct_law_refused : Value}
    (a_law_refused : PySem.W.nsIn K mainGlobals "_law_refused" = some (some (.ref f_law_refused))) (l_law_refused : K.lookup f_law_refused = some ⟨oc_law_refused, od_law_refused, .func (PySem.W.fnOf "_law_refused" "_law_refused" (defArgs sQRefused) (defBody sQRefused) (defScope sQRefused) .none kV_law_refused dc_law_refused pm_law_refused an_law_refused cd_law_refused ct_law_refused), sl_law_refused⟩)
    (c_law_refused : PySem.W.codeIn K cd_law_refused "_law_refused" = true) (k_law_refused : PySem.W.keepIn K (.ref f_law_refused) = true)
    {f_law : Addr} {od_law an_law : Option Addr} {sl_law : Array (Option Value)} {oc_law kV_law dc_law pm_law cd_law ct_law : Value}
    (a_law : PySem.W.nsIn K mainGlobals "law" = some (some (.ref f_law))) (l_law : K.lookup f_law = some ⟨oc_law, od_law, .func (PySem.W.fnOf "law" "law" (defArgs sLaw) (defBody sLaw) (defScope sLaw) .none kV_law dc_law pm_law an_law cd_law ct_law), sl_law⟩)
    (c_law : PySem.W.codeIn K cd_law "law" = true) (k_law : PySem.W.keepIn K (.ref f_law) = true)
    {t_ANY_LIMIT : Tok} (w_ANY_LIMIT : PySem.W.nsIn K mainGlobals "ANY_LIMIT" = some (some (.int 1 t_ANY_LIMIT)))
    (z_len : PySem.W.nsIn K mainGlobals "len" = some none)
    (z_LookupError : PySem.W.nsIn K mainGlobals "LookupError" = some none)
    (z_ValueError : PySem.W.nsIn K mainGlobals "ValueError" = some none)
    (z_set : PySem.W.nsIn K mainGlobals "set" = some none)
    (z_zip : PySem.W.nsIn K mainGlobals "zip" = some none)
    (z_str : PySem.W.nsIn K mainGlobals "str" = some none)
    (z_abs : PySem.W.nsIn K mainGlobals "abs" = some none)
    (z_int : PySem.W.nsIn K mainGlobals "int" = some none)
    (z_bool : PySem.W.nsIn K mainGlobals "bool" = some none)
    (z_list : PySem.W.nsIn K mainGlobals "list" = some none)
    (z_tuple : PySem.W.nsIn K mainGlobals "tuple" = some none)
    (z_min : PySem.W.nsIn K mainGlobals "min" = some none)
    (z_max : PySem.W.nsIn K mainGlobals "max" = some none)
    (z_sum : PySem.W.nsIn K mainGlobals "sum" = some none)
    (z_any : PySem.W.nsIn K mainGlobals "any" = some none)
    (z_all : PySem.W.nsIn K mainGlobals "all" = some none)
    (z_repr : PySem.W.nsIn K mainGlobals "repr" = some none)
    (z_sorted : PySem.W.nsIn K mainGlobals "sorted" = some none)
    (z_isinstance : PySem.W.nsIn K mainGlobals "isinstance" = some none)
    (z_range : PySem.W.nsIn K mainGlobals "range" = some none)
    (z_enumerate : PySem.W.nsIn K mainGlobals "enumerate" = some none)
    {C_MissingError : Addr} (c_MissingError : PySem.W.nsIn K mainGlobals "MissingError" = some (some (.ref C_MissingError)))
    {C_NoNode : Addr} (c_NoNode : PySem.W.nsIn K mainGlobals "NoNode" = some (some (.ref C_NoNode)))
    {C_NoPosition : Addr} (c_NoPosition : PySem.W.nsIn K mainGlobals "NoPosition" = some (some (.ref C_NoPosition)))
    {C_NoReference : Addr} (c_NoReference : PySem.W.nsIn K mainGlobals "NoReference" = some (some (.ref C_NoReference)))
    {C_NoSlot : Addr} (c_NoSlot : PySem.W.nsIn K mainGlobals "NoSlot" = some (some (.ref C_NoSlot)))
    {C_NotFreed : Addr} (c_NotFreed : PySem.W.nsIn K mainGlobals "NotFreed" = some (some (.ref C_NotFreed)))
    {C_UndoError : Addr} (c_UndoError : PySem.W.nsIn K mainGlobals "UndoError" = some (some (.ref C_UndoError)))
    (xi_NoNode : PySem.W.excInitIn K C_NoNode bmLE "LookupError.__new__" = true) (xo_NoNode : PySem.W.excOver K C_NoNode bmLE = true) (xd_NoNode : PySem.W.hasDictIn K C_NoNode = true) (xs_NoNode : PySem.W.findIn K (.ref C_NoNode) "__setattr__" = some (some (.builtin "object.__setattr__")))
    (xe_NoNode : PySem.W.subIn K (.ref C_NoNode) (.type "BaseException") = some true) (xt_NoNode : PySem.W.typeIn K (.ref C_NoNode) = some (.type "type")) (xk_NoNode : PySem.W.keepIn K (.ref C_NoNode) = true) (xn_NoNode : PySem.W.takerIn K C_NoNode "node" = some none)
    (xg_NoNode : PySem.W.findIn K (.ref C_NoNode) "__getattribute__" = some (some (.builtin "BaseException.__getattribute__"))) (xG_NoNode : PySem.W.findIn K (.ref C_NoNode) "__getattr__" = some none) (xf_NoNode : PySem.W.findIn K (.ref C_NoNode) "node" = some none)
    (xc_NoNode : PySem.W.findIn K (.ref C_NoNode) "__class__" = some (some (.builtin "object.__class__"))) (xh_NoNode : PySem.W.specialIn K (.builtin "object.__class__") "__get__" = some (some (.builtin "getset_descriptor.__get__"))) (xT_NoNode : PySem.W.takesIn K (.builtin "object.__class__") = some true) (xm_NoNode : PySem.W.mroIn K C_NoNode (.type "object") = some true)
    {f_iNoNode : Addr} {od_iNoNode an_iNoNode : Option Addr} {sl_iNoNode : Array (Option Value)} {oc_iNoNode kV_iNoNode dc_iNoNode pm_iNoNode cd_iNoNode ct_iNoNode : Value}
    (a_iNoNode : PySem.W.findIn K (.ref C_NoNode) "__init__" = some (some (.ref f_iNoNode))) (t_iNoNode : PySem.W.typeIn K (.ref f_iNoNode) = some (.type "function"))
    (l_iNoNode : K.lookup f_iNoNode = some ⟨oc_iNoNode, od_iNoNode, .func (PySem.W.fnOf "__init__" "NoNode.__init__" (defArgs sNoNodeInit) (defBody sNoNodeInit) (defScope sNoNodeInit) .none kV_iNoNode dc_iNoNode pm_iNoNode an_iNoNode cd_iNoNode ct_iNoNode), sl_iNoNode⟩)
    (c_iNoNode : PySem.W.codeIn K cd_iNoNode "NoNode.__init__" = true) (k_iNoNode : PySem.W.keepIn K (.ref f_iNoNode) = true)
    (xi_NoReference : PySem.W.excInitIn K C_NoReference bmLE "LookupError.__new__" = true) (xo_NoReference : PySem.W.excOver K C_NoReference bmLE = true) (xd_NoReference : PySem.W.hasDictIn K C_NoReference = true) (xs_NoReference : PySem.W.findIn K (.ref C_NoReference) "__setattr__" = some (some (.builtin "object.__setattr__")))
    (xe_NoReference : PySem.W.subIn K (.ref C_NoReference) (.type "BaseException") = some true) (xt_NoReference : PySem.W.typeIn K (.ref C_NoReference) = some (.type "type")) (xk_NoReference : PySem.W.keepIn K (.ref C_NoReference) = true) (xn_NoReference : PySem.W.takerIn K C_NoReference "node" = some none)
    (xg_NoReference : PySem.W.findIn K (.ref C_NoReference) "__getattribute__" = some (some (.builtin "BaseException.__getattribute__"))) (xG_NoReference : PySem.W.findIn K (.ref C_NoReference) "__getattr__" = some none) (xf_NoReference : PySem.W.findIn K (.ref C_NoReference) "node" = some none)
    (xc_NoReference : PySem.W.findIn K (.ref C_NoReference) "__class__" = some (some (.builtin "object.__class__"))) (xh_NoReference : PySem.W.specialIn K (.builtin "object.__class__") "__get__" = some (some (.builtin "getset_descriptor.__get__"))) (xT_NoReference : PySem.W.takesIn K (.builtin "object.__class__") = some true) (xm_NoReference : PySem.W.mroIn K C_NoReference (.type "object") = some true)
    {f_iNoReference : Addr} {od_iNoReference an_iNoReference : Option Addr} {sl_iNoReference : Array (Option Value)} {oc_iNoReference kV_iNoReference dc_iNoReference pm_iNoReference cd_iNoReference ct_iNoReference : Value}
    (a_iNoReference : PySem.W.findIn K (.ref C_NoReference) "__init__" = some (some (.ref f_iNoReference))) (t_iNoReference : PySem.W.typeIn K (.ref f_iNoReference) = some (.type "function"))
    (l_iNoReference : K.lookup f_iNoReference = some ⟨oc_iNoReference, od_iNoReference, .func (PySem.W.fnOf "__init__" "NoReference.__init__" (defArgs sNoReferenceInit) (defBody sNoReferenceInit) (defScope sNoReferenceInit) .none kV_iNoReference dc_iNoReference pm_iNoReference an_iNoReference cd_iNoReference ct_iNoReference), sl_iNoReference⟩)
    (c_iNoReference : PySem.W.codeIn K cd_iNoReference "NoReference.__init__" = true) (k_iNoReference : PySem.W.keepIn K (.ref f_iNoReference) = true)
    (q1NN : PySem.W.kitOne K (.ref C_NoNode) (.ref C_NoNode) = some true) (q2NN : PySem.W.kitOne K (.ref C_NoNode) (.ref C_NoReference) = some false)
    (q3NN : PySem.W.kitAny K (.ref C_NoNode) [.ref C_NoPosition, .ref C_NoSlot, .ref C_NotFreed, .ref C_UndoError] = some false) (q4NN : PySem.W.kitOne K (.ref C_NoNode) (.type "LookupError") = some true) (q5NN : PySem.W.exmOne K (.ref C_NoNode) (.ref C_MissingError) = some true)
    (q1NR : PySem.W.kitOne K (.ref C_NoReference) (.ref C_NoNode) = some false) (q2NR : PySem.W.kitOne K (.ref C_NoReference) (.ref C_NoReference) = some true)
    (q3NR : PySem.W.kitAny K (.ref C_NoReference) [.ref C_NoPosition, .ref C_NoSlot, .ref C_NotFreed, .ref C_UndoError] = some false) (q4NR : PySem.W.kitOne K (.ref C_NoReference) (.type "LookupError") = some true) (q5NR : PySem.W.exmOne K (.ref C_NoReference) (.ref C_MissingError) = some true)
    {cA1 PR1 : Addr} (eR1 : cd_law_refused = .ref cA1) (hTb1 : h.get? PR1 = some { cls := .none, data := .fields #[] }) (nTb1 : K.lookup PR1 = none) (cdR1 : PySem.W.codeHdIn K cA1 PR1 = true)
    {cA2 PR2 : Addr} (eR2 : cd_law = .ref cA2) (hTb2 : h.get? PR2 = some { cls := .none, data := .fields #[] }) (nTb2 : K.lookup PR2 = none) (cdR2 : PySem.W.codeHdIn K cA2 PR2 = true) (nPP : PR1 ≠ PR2) :
    ∃ (fd : FuncData) (cs : List (Addr × Addr)) (sp : Sp), (∀ p ∈ cs, h.get? p.2 = some { cls := .none, data := .fields #[] }) ∧ (∀ p ∈ cs, K.lookup p.2 = none) ∧ (∀ p ∈ cs, PySem.W.CodeHd h p.1 p.2) ∧ (∀ (s : Shared) (u : Value), BindsTo s fd ⟨[u], []⟩ [("_law_script", u)]) ∧
        (∀ (H : Hp) (a : Addr) (ns : List Int), ns.length ≤ 63 → OnlyT (cs.map (·.2)) H → (∀ p ∈ cs, H p.2 = some (.tbl #[])) → SqL K H a (ns.map V.int) → sp [.ref a] H (fun v _ => v = .bl true) E0) ∧
        ∀ base : Heap, K.In base → base.Ns mainGlobals mg → (∀ p ∈ cs, LamX.TabB base mg p.1 p.2) → FnG l.prog w K mg base 13 fa fd ["_law_script"] sp := by
  have e := hfa.symm.trans (PySem.W.mg_of X G a_law)
  cases e
  have T : Txt mg := ⟨PySem.W.mg_none_of X G z_len, PySem.W.mg_none_of X G z_LookupError, PySem.W.mg_none_of X G z_ValueError, PySem.W.mg_none_of X G z_set, PySem.W.mg_none_of X G z_zip, PySem.W.mg_none_of X G z_str, PySem.W.mg_none_of X G z_abs, PySem.W.mg_none_of X G z_int, PySem.W.mg_none_of X G z_bool, PySem.W.mg_none_of X G z_list, PySem.W.mg_none_of X G z_tuple, PySem.W.mg_none_of X G z_min, PySem.W.mg_none_of X G z_max, PySem.W.mg_none_of X G z_sum, PySem.W.mg_none_of X G z_any, PySem.W.mg_none_of X G z_all, PySem.W.mg_none_of X G z_repr, PySem.W.mg_none_of X G z_sorted, PySem.W.mg_none_of X G z_isinstance, PySem.W.mg_none_of X G z_range, PySem.W.mg_none_of X G z_enumerate⟩
  have F_law_draw := fun_mk (st := sQDraw) l_law_draw c_law_draw k_law_draw
  have F_law_pen := fun_mk (st := sQPen) l_law_pen c_law_pen k_law_pen
  have F_law_order := fun_mk (st := sQOrder) l_law_order c_law_order k_law_order
  have F_law_size := fun_mk (st := sQSize) l_law_size c_law_size k_law_size
  have F_live_nodes := fun_mk (st := sLiveNodes) l_live_nodes c_live_nodes k_live_nodes
  have F_law_links := fun_mk (st := sQLinks) l_law_links c_law_links k_law_links
  have F_law_heap := fun_mk (st := sQHeap) l_law_heap c_law_heap k_law_heap
  have F_Releasing_destroy := fun_mk (st := sReleasingDestroy) l_Releasing_destroy c_Releasing_destroy k_Releasing_destroy
  have F_Releasing_release := fun_mk (st := sReleasingRelease) l_Releasing_release c_Releasing_release k_Releasing_release
  have F_Releasing_release_all := fun_mk (st := sReleasingReleaseAll) l_Releasing_release_all c_Releasing_release_all k_Releasing_release_all
  have F_Releasing_drop := fun_mk (st := sReleasingDrop) l_Releasing_drop c_Releasing_drop k_Releasing_drop
  have F_slot_uses := fun_mk (st := sSlotUses) l_slot_uses c_slot_uses k_slot_uses
  have F_counts := fun_mk (st := sCounts) l_counts c_counts k_counts
  have F_is_integer := fun_mk (st := sIsInteger) l_is_integer c_is_integer k_is_integer
  have F_is_between := fun_mk (st := sIsBetween) l_is_between c_is_between k_is_between
  have F_is_live := fun_mk (st := sIsLive) l_is_live c_is_live k_is_live
  have F_need_live := fun_mk (st := sNeedLive) l_need_live c_need_live k_need_live
  have F_need_reference := fun_mk (st := sNeedReference) l_need_reference c_need_reference k_need_reference
  have F_Releasing_init := fun_mk (st := sReleasingInit) l_Releasing_init c_Releasing_init k_Releasing_init
  have F_Releasing_result := fun_mk (st := sReleasingResult) l_Releasing_result c_Releasing_result k_Releasing_result
  have F_run_drop := fun_mk (st := sRunDrop) l_run_drop c_run_drop k_run_drop
  have F_drop := fun_mk (st := sDrop) l_drop c_drop k_drop
  have F_freed := fun_mk (st := sFreed) l_freed c_freed k_freed
  have F_kept := fun_mk (st := sKept) l_kept c_kept k_kept
  have F_law_odd := fun_mk (st := sQOdd) l_law_odd c_law_odd k_law_odd
  have F_law_gone := fun_mk (st := sQGone) l_law_gone c_law_gone k_law_gone
  have F_law_right := fun_mk (st := sQRight) l_law_right c_law_right k_law_right
  have F_law_error := fun_mk (st := sQError) l_law_error c_law_error k_law_error
  have F_law_refused := fun_mk (st := sQRefused) l_law_refused c_law_refused k_law_refused
  have F_law := fun_mk (st := sLaw) l_law c_law k_law
  have cR : Cls K C := ⟨pg, hd, po, sa⟩
  have hC : ClR K C := ⟨cR, n_slots, n_outside, n_references, n_limit, n_emptied, n_shelf, n_events⟩
  have eNN : ExB K C_NoNode bmLE "LookupError.__new__" := ⟨xi_NoNode, xo_NoNode, xd_NoNode, xs_NoNode, xe_NoNode, xt_NoNode, xk_NoNode⟩
  have F_iNoNode := fun_mk (st := sNoNodeInit) l_iNoNode c_iNoNode k_iNoNode
  have eNR : ExB K C_NoReference bmLE "LookupError.__new__" := ⟨xi_NoReference, xo_NoReference, xd_NoReference, xs_NoReference, xe_NoReference, xt_NoReference, xk_NoReference⟩
  have F_iNoReference := fun_mk (st := sNoReferenceInit) l_iNoReference c_iNoReference k_iNoReference
  have nNN : ErC K C_MissingError C_NoNode C_NoPosition C_NoReference C_NoSlot C_NotFreed C_UndoError C_NoNode false := ⟨⟨xg_NoNode, xG_NoNode, xe_NoNode, xd_NoNode⟩, ⟨xg_NoNode, xG_NoNode, xe_NoNode, xd_NoNode, xc_NoNode, xh_NoNode, xT_NoNode, xm_NoNode⟩, xf_NoNode, q1NN, q2NN, q3NN, q4NN, q5NN⟩
  have nNR : ErC K C_MissingError C_NoNode C_NoPosition C_NoReference C_NoSlot C_NotFreed C_UndoError C_NoReference true := ⟨⟨xg_NoReference, xG_NoReference, xe_NoReference, xd_NoReference⟩, ⟨xg_NoReference, xG_NoReference, xe_NoReference, xd_NoReference, xc_NoReference, xh_NoReference, xT_NoReference, xm_NoReference⟩, xf_NoReference, q1NR, q2NR, q3NR, q4NR, q5NR⟩
  have DE : LamD K mg "_law_error" "_law_ask" sQError f_law_error _ cd_law_error ["_law_ask", "_law_caught", "e"] := ⟨funC_mk (st := sQError) l_law_error c_law_error k_law_error, PySem.W.mg_of X G a_law_error, F_law_error.binds (ps := ["_law_ask"]) (fun _ _ _ _ _ _ us hl => match us, hl with | [_], _ => rfl), scQError, rfl, Or.inl rfl⟩
  subst eR1 eR2
  have FC1 := funC_mk (st := sQRefused) l_law_refused c_law_refused k_law_refused
  have FC2 := funC_mk (st := sLaw) l_law c_law k_law
  have inC : ∀ p ∈ [(cA1, PR1), (cA2, PR2)], p = (cA1, PR1) ∨ p = (cA2, PR2) := fun p hp => by simpa using hp
  refine ⟨PySem.W.fnOf "law" "law" (defArgs sLaw) (defBody sLaw) (defScope sLaw) .none kV_law dc_law pm_law an_law (.ref cA2) ct_law, [(cA1, PR1), (cA2, PR2)], spLaw K PR1 PR2, fun p hp => (inC p hp).elim (fun e => by rw [e]; exact hTb1) (fun e => by rw [e]; exact hTb2), fun p hp => (inC p hp).elim (fun e => by rw [e]; exact nTb1) (fun e => by rw [e]; exact nTb2), fun p hp => (inC p hp).elim (fun e => by rw [e]; exact PySem.W.codeHd_of_K X cdR1) (fun e => by rw [e]; exact PySem.W.codeHd_of_K X cdR2), fun s v => .of_eq rfl,
    fun H a ns _ _ hH hS => ⟨a, ns, rfl, hS, fun p hp => by
      rcases (show p = (PR1, lamQ1) ∨ p = (PR2, lamQ2) by simpa [TT] using hp) with e | e
      · rw [e]
        exact LamX.TabS.nil (hH (cA1, PR1) List.mem_cons_self)
      · rw [e]
        exact LamX.TabS.nil (hH (cA2, PR2) (List.mem_cons_of_mem _ List.mem_cons_self)), fun _ => rfl⟩, fun base _ _ TBs => ?_⟩
  have TB1 := TBs _ List.mem_cons_self
  have TB2 := TBs _ (List.mem_cons_of_mem _ List.mem_cons_self)
  have g_ANY_LIMIT := PySem.W.mg_of X G w_ANY_LIMIT
  have kk_freed := k_freed
  have kk_kept := k_kept
  have b_law_draw := F_law_draw.binds (ps := ["_law_pen_here", "_law_bound"]) fun _ _ _ _ _ _ us hl => match us, hl with | [_, _], _ => rfl
  have l_law_draw : Lo l.prog w K mg base "_law_draw" 1 ["_law_pen_here", "_law_bound"] (spDraw) := ⟨f_law_draw, _, ok_draw F_law_draw T, PySem.W.mg_of X G a_law_draw, k_law_draw, b_law_draw⟩
  have b_law_pen := F_law_pen.binds (ps := ["_law_script"]) fun _ _ _ _ _ _ us hl => match us, hl with | [_], _ => rfl
  have l_law_pen : Lo l.prog w K mg base "_law_pen" 1 ["_law_script"] (spPen K) := ⟨f_law_pen, _, ok_pen F_law_pen T, PySem.W.mg_of X G a_law_pen, k_law_pen, b_law_pen⟩
  have b_law_order := F_law_order.binds (ps := ["_law_pen_here", "_law_size_here"]) fun _ _ _ _ _ _ us hl => match us, hl with | [_, _], _ => rfl
  have l_law_order : Lo l.prog w K mg base "_law_order" 2 ["_law_pen_here", "_law_size_here"] (spOrder) := ⟨f_law_order, _, ok_order F_law_order T l_law_draw, PySem.W.mg_of X G a_law_order, k_law_order, b_law_order⟩
  have b_law_size := F_law_size.binds (ps := ["_law_pen_here", "_law_most"]) fun _ _ _ _ _ _ us hl => match us, hl with | [_, _], _ => rfl
  have l_law_size : Lo l.prog w K mg base "_law_size" 2 ["_law_pen_here", "_law_most"] (spSize) := ⟨f_law_size, _, ok_size F_law_size T l_law_draw, PySem.W.mg_of X G a_law_size, k_law_size, b_law_size⟩
  have b_live_nodes := F_live_nodes.binds (ps := ["heap"]) fun _ _ _ _ _ _ us hl => match us, hl with | [_], _ => rfl
  have l_live_nodes : Lo l.prog w K mg base "live_nodes" 1 ["heap"] (spLive K) := ⟨f_live_nodes, _, ok_live F_live_nodes T, PySem.W.mg_of X G a_live_nodes, k_live_nodes, b_live_nodes⟩
  have b_law_links := F_law_links.binds (ps := ["_law_pen_here", "_law_size_here"]) fun _ _ _ _ _ _ us hl => match us, hl with | [_, _], _ => rfl
  have l_law_links : Lo l.prog w K mg base "_law_links" 2 ["_law_pen_here", "_law_size_here"] (spLinks K) := ⟨f_law_links, _, ok_links F_law_links T l_law_draw, PySem.W.mg_of X G a_law_links, k_law_links, b_law_links⟩
  have b_law_heap := F_law_heap.binds (ps := ["_law_pen_here", "_law_most"]) fun _ _ _ _ _ _ us hl => match us, hl with | [_, _], _ => rfl
  have l_law_heap : Lo l.prog w K mg base "_law_heap" 3 ["_law_pen_here", "_law_most"] (spHeap K) := ⟨f_law_heap, _, ok_heap F_law_heap T l_law_draw l_law_order l_law_size l_law_links, PySem.W.mg_of X G a_law_heap, k_law_heap, b_law_heap⟩
  have b_Releasing_destroy := F_Releasing_destroy.binds (ps := ["self", "node", "depth"]) fun _ _ _ _ _ _ us hl => match us, hl with | [_, _, _], _ => rfl
  have m_destroy : Lm l.prog w K mg base C "_destroy" 1 ["self", "node", "depth"] (spDestroy K C) := ⟨f_Releasing_destroy, _, ok_destroy F_Releasing_destroy T, ⟨a_Releasing_destroy, i_Releasing_destroy, k_Releasing_destroy⟩, b_Releasing_destroy⟩
  have b_Releasing_release := F_Releasing_release.binds (ps := ["self", "holder", "slot", "node", "depth"]) fun _ _ _ _ _ _ us hl => match us, hl with | [_, _, _, _, _], _ => rfl
  have m_release : Lm l.prog w K mg base C "_release" 2 ["self", "holder", "slot", "node", "depth"] (spRelease K C) := ⟨f_Releasing_release, _, ok_release F_Releasing_release T m_destroy cR, ⟨a_Releasing_release, i_Releasing_release, k_Releasing_release⟩, b_Releasing_release⟩
  have b_Releasing_release_all := F_Releasing_release_all.binds (ps := ["self"]) fun _ _ _ _ _ _ us hl => match us, hl with | [_], _ => rfl
  have m_release_all : Lm l.prog w K mg base C "_release_all" 3 ["self"] (spReleaseAll K C) := ⟨f_Releasing_release_all, _, ok_releaseAll F_Releasing_release_all T m_release cR, ⟨a_Releasing_release_all, i_Releasing_release_all, k_Releasing_release_all⟩, b_Releasing_release_all⟩
  have b_Releasing_drop := F_Releasing_drop.binds (ps := ["self", "node"]) fun _ _ _ _ _ _ us hl => match us, hl with | [_, _], _ => rfl
  have m_drop : Lm l.prog w K mg base C "drop" 4 ["self", "node"] (spMDrop K C) := ⟨f_Releasing_drop, _, ok_mdrop F_Releasing_drop T m_release_all m_destroy cR, ⟨a_Releasing_drop, i_Releasing_drop, k_Releasing_drop⟩, b_Releasing_drop⟩
  have b_slot_uses := F_slot_uses.binds (ps := ["slots"]) fun _ _ _ _ _ _ us hl => match us, hl with | [_], _ => rfl
  have l_slot_uses : Lo l.prog w K mg base "slot_uses" 1 ["slots"] (spUses K) := ⟨f_slot_uses, _, ok_uses F_slot_uses T, PySem.W.mg_of X G a_slot_uses, k_slot_uses, b_slot_uses⟩
  have b_counts := F_counts.binds (ps := ["heap"]) fun _ _ _ _ _ _ us hl => match us, hl with | [_], _ => rfl
  have l_counts : Lo l.prog w K mg base "counts" 2 ["heap"] (spCounts K) := ⟨f_counts, _, ok_counts F_counts T l_slot_uses, PySem.W.mg_of X G a_counts, k_counts, b_counts⟩
  have b_is_integer := F_is_integer.binds (ps := ["value"]) fun _ _ _ _ _ _ us hl => match us, hl with | [_], _ => rfl
  have l_is_integer : Lo l.prog w K mg base "is_integer" 1 ["value"] (spIsInt) := ⟨f_is_integer, _, ok_isInt F_is_integer T, PySem.W.mg_of X G a_is_integer, k_is_integer, b_is_integer⟩
  have b_is_between := F_is_between.binds (ps := ["value", "low", "high"]) fun _ _ _ _ _ _ us hl => match us, hl with | [_, _, _], _ => rfl
  have l_is_between : Lo l.prog w K mg base "is_between" 2 ["value", "low", "high"] (spBetween) := ⟨f_is_between, _, ok_between F_is_between T l_is_integer, PySem.W.mg_of X G a_is_between, k_is_between, b_is_between⟩
  have b_is_live := F_is_live.binds (ps := ["heap", "value"]) fun _ _ _ _ _ _ us hl => match us, hl with | [_, _], _ => rfl
  have l_is_live : Lo l.prog w K mg base "is_live" 3 ["heap", "value"] (spIsLive K) := ⟨f_is_live, _, ok_isLive F_is_live T l_is_between, PySem.W.mg_of X G a_is_live, k_is_live, b_is_live⟩
  have b_need_live := F_need_live.binds (ps := ["heap", "node"]) fun _ _ _ _ _ _ us hl => match us, hl with | [_, _], _ => rfl
  have l_need_live : Lo l.prog w K mg base "need_live" 4 ["heap", "node"] (spNeedLive K) := ⟨f_need_live, _, ok_needLive F_need_live T l_is_live, PySem.W.mg_of X G a_need_live, k_need_live, b_need_live⟩
  have b_need_reference := F_need_reference.binds (ps := ["heap", "node"]) fun _ _ _ _ _ _ us hl => match us, hl with | [_, _], _ => rfl
  have l_need_reference : Lo l.prog w K mg base "need_reference" 5 ["heap", "node"] (spNeedRef K) := ⟨f_need_reference, _, ok_needRef F_need_reference T l_need_live, PySem.W.mg_of X G a_need_reference, k_need_reference, b_need_reference⟩
  have b_Releasing_init := F_Releasing_init.binds (ps := ["self", "heap", "limit"]) fun _ _ _ _ _ _ us hl => match us, hl with | [_, _, _], _ => rfl
  have n_Releasing : Ln l.prog w K mg base C "Releasing" 3 ["self", "heap", "limit"] (spMInit K C) := ⟨f_Releasing_init, _, ok_minit F_Releasing_init T l_counts, ⟨mk, a_Releasing_init, i_Releasing_init, kc⟩, PySem.W.mg_of X G aC, b_Releasing_init⟩
  have b_Releasing_result := F_Releasing_result.binds (ps := ["self"]) fun _ _ _ _ _ _ us hl => match us, hl with | [_], _ => rfl
  have m_result : Lm l.prog w K mg base C "result" 1 ["self"] (spResult K C) := ⟨f_Releasing_result, _, ok_result F_Releasing_result T, ⟨a_Releasing_result, i_Releasing_result, k_Releasing_result⟩, b_Releasing_result⟩
  have b_run_drop := F_run_drop.binds (ps := ["heap", "node", "limit"]) fun _ _ _ _ _ _ us hl => match us, hl with | [_, _, _], _ => rfl
  have l_run_drop : Lo l.prog w K mg base "run_drop" 6 ["heap", "node", "limit"] (spRun K C) := ⟨f_run_drop, _, ok_run F_run_drop T hC cR l_need_reference n_Releasing m_drop, PySem.W.mg_of X G a_run_drop, k_run_drop, b_run_drop⟩
  have x_drop : Lkx l.prog w K mg base "drop" 7 ["heap", "node", "limit"] ["limit"] (gApp 2 1) (spDrop K) := ⟨f_drop, _, gApp 2 1, ok_drop F_drop T hC cR l_run_drop m_result, PySem.W.mg_of X G a_drop, k_drop, ⟨fun s us ws _ hl => by have h := gApp_to (n := 2) (m := 1) hl (by decide); obtain ⟨_, _, rfl⟩ := len2 h.1; obtain ⟨_, rfl⟩ := len1 h.2; exact .of_eq rfl, gApp_rel⟩⟩
  have b_freed := F_freed.binds (ps := ["heap", "node"]) fun _ _ _ _ _ _ us hl => match us, hl with | [_, _], _ => rfl
  have l_freed : Lo l.prog w K mg base "freed" 8 ["heap", "node"] (spFreed K) := ⟨f_freed, _, ok_freed F_freed T g_ANY_LIMIT x_drop, PySem.W.mg_of X G a_freed, k_freed, b_freed⟩
  have k_freed : Lkw l.prog w K mg base "freed" 8 ["heap", "node"] ["node", "heap"] (gRev 2) (spFreed K) := ⟨f_freed, _, gRev 2, ok_freed F_freed T g_ANY_LIMIT x_drop, PySem.W.mg_of X G a_freed, k_freed, ⟨fun s ws _ hl => by have h := gRev_to (n := 2) hl (by decide); obtain ⟨_, _, rfl⟩ := len2 h; exact .of_eq rfl, gRev_rel⟩⟩
  have b_kept := F_kept.binds (ps := ["heap", "node"]) fun _ _ _ _ _ _ us hl => match us, hl with | [_, _], _ => rfl
  have l_kept : Lo l.prog w K mg base "kept" 8 ["heap", "node"] (spKept K) := ⟨f_kept, _, ok_kept F_kept T g_ANY_LIMIT x_drop l_live_nodes, PySem.W.mg_of X G a_kept, k_kept, b_kept⟩
  have k_kept : Lkw l.prog w K mg base "kept" 8 ["heap", "node"] ["node", "heap"] (gRev 2) (spKept K) := ⟨f_kept, _, gRev 2, ok_kept F_kept T g_ANY_LIMIT x_drop l_live_nodes, PySem.W.mg_of X G a_kept, k_kept, ⟨fun s ws _ hl => by have h := gRev_to (n := 2) hl (by decide); obtain ⟨_, _, rfl⟩ := len2 h; exact .of_eq rfl, gRev_rel⟩⟩
  have b_law_odd := F_law_odd.binds (ps := ["_law_pen_here", "_law_home"]) fun _ _ _ _ _ _ us hl => match us, hl with | [_, _], _ => rfl
  have l_law_odd : Lo l.prog w K mg base "_law_odd" 2 ["_law_pen_here", "_law_home"] (spOdd K) := ⟨f_law_odd, _, ok_odd F_law_odd T l_law_draw, PySem.W.mg_of X G a_law_odd, k_law_odd, b_law_odd⟩
  have b_law_gone := F_law_gone.binds (ps := ["_law_home", "_law_spot"]) fun _ _ _ _ _ _ us hl => match us, hl with | [_, _], _ => rfl
  have l_law_gone : Lo l.prog w K mg base "_law_gone" 1 ["_law_home", "_law_spot"] (spGone K) := ⟨f_law_gone, _, ok_gone F_law_gone T, PySem.W.mg_of X G a_law_gone, k_law_gone, b_law_gone⟩
  have b_law_right := F_law_right.binds (ps := ["_law_home", "_law_spot"]) fun _ _ _ _ _ _ us hl => match us, hl with | [_, _], _ => rfl
  have l_law_right : Lk l.prog w K mg base "_law_right" 9 ["_law_home", "_law_spot"] (spRight K) := ⟨f_law_right, _, ok_right F_law_right T l_law_gone l_freed k_freed l_kept k_kept, PySem.W.mg_of X G a_law_right, k_law_right, b_law_right⟩
  have b_iNoNode := F_iNoNode.binds (ps := ["self", "node"]) fun _ _ _ _ _ _ us hl => match us, hl with | [_, _], _ => rfl
  have n_NoNode : LxB l.prog w K mg base "NoNode" C_NoNode 1 ["self", "node"] (spI1 C_NoNode "node") bmLE "LookupError.__new__" := ⟨⟨_, _, exF_LE⟩, eNN, ⟨f_iNoNode, _, ok_iNN F_iNoNode eNN xn_NoNode, a_iNoNode, t_iNoNode, b_iNoNode⟩, PySem.W.mg_of X G c_NoNode⟩
  have b_iNoReference := F_iNoReference.binds (ps := ["self", "node"]) fun _ _ _ _ _ _ us hl => match us, hl with | [_, _], _ => rfl
  have n_NoReference : LxB l.prog w K mg base "NoReference" C_NoReference 1 ["self", "node"] (spI1 C_NoReference "node") bmLE "LookupError.__new__" := ⟨⟨_, _, exF_LE⟩, eNR, ⟨f_iNoReference, _, ok_iNR F_iNoReference eNR xn_NoReference, a_iNoReference, t_iNoReference, b_iNoReference⟩, PySem.W.mg_of X G c_NoReference⟩
  have l_is_integerD : Lo l.prog w K mg base "is_integer" 1 ["value"] (spIsIntD K) := ⟨f_is_integer, _, ok_isIntD F_is_integer T, PySem.W.mg_of X G a_is_integer, k_is_integer, b_is_integer⟩
  have l_is_betweenD : Lo l.prog w K mg base "is_between" 2 ["value", "low", "high"] (spBtw K) := ⟨f_is_between, _, ok_btw F_is_between T l_is_integerD, PySem.W.mg_of X G a_is_between, k_is_between, b_is_between⟩
  have l_is_liveD : Lo l.prog w K mg base "is_live" 3 ["heap", "value"] (spIsLiveD K) := ⟨f_is_live, _, ok_isLiveD F_is_live T l_is_betweenD, PySem.W.mg_of X G a_is_live, k_is_live, b_is_live⟩
  have e_need_live : LoX l.prog w K mg base "need_live" 4 ["heap", "node"] (spNeedLX K C_NoNode) := ⟨f_need_live, _, ok_needLX F_need_live T l_is_liveD n_NoNode, PySem.W.mg_of X G a_need_live, k_need_live, b_need_live⟩
  have e_need_reference : LoX l.prog w K mg base "need_reference" 5 ["heap", "node"] (spNeedRX K C_NoNode C_NoReference C_NoSlot) := ⟨f_need_reference, _, ok_needRX F_need_reference T e_need_live n_NoReference, PySem.W.mg_of X G a_need_reference, k_need_reference, b_need_reference⟩
  have e_run_drop : LoX l.prog w K mg base "run_drop" 6 ["heap", "node", "limit"] (spDropR K C_NoNode C_NoReference C_NoSlot) := ⟨f_run_drop, _, ok_runR F_run_drop T hC cR e_need_reference n_Releasing m_drop, PySem.W.mg_of X G a_run_drop, k_run_drop, b_run_drop⟩
  have e_drop : LkxX l.prog w K mg base "drop" 7 ["heap", "node", "limit"] ["limit"] (gApp 2 1) (spDropR K C_NoNode C_NoReference C_NoSlot) := ⟨f_drop, _, gApp 2 1, ok_dropR F_drop T cR e_run_drop m_result, PySem.W.mg_of X G a_drop, k_drop, ⟨fun s us ws _ hl => by have h := gApp_to (n := 2) (m := 1) hl (by decide); obtain ⟨_, _, rfl⟩ := len2 h.1; obtain ⟨_, rfl⟩ := len1 h.2; exact .of_eq rfl, gApp_rel⟩⟩
  have e_freed : LoX l.prog w K mg base "freed" 8 ["heap", "node"] (spNeedRX K C_NoNode C_NoReference C_NoSlot) := ⟨f_freed, _, ok_freedR F_freed T g_ANY_LIMIT e_drop l_live_nodes, PySem.W.mg_of X G a_freed, kk_freed, b_freed⟩
  have e_kept : LoX l.prog w K mg base "kept" 8 ["heap", "node"] (spNeedRX K C_NoNode C_NoReference C_NoSlot) := ⟨f_kept, _, ok_keptR F_kept T g_ANY_LIMIT e_drop l_live_nodes, PySem.W.mg_of X G a_kept, kk_kept, b_kept⟩
  have b_law_refused := F_law_refused.binds (ps := ["_law_pen_here", "_law_home"]) fun _ _ _ _ _ _ us hl => match us, hl with | [_, _], _ => rfl
  have l_law_refused : Lk l.prog w K mg base "_law_refused" 12 ["_law_pen_here", "_law_home"] (spRefused K PR1 PR2) := ⟨f_law_refused, _, ok_refused FC1 T TB1 nPP DE (PySem.W.mg_of X G c_MissingError) (PySem.W.mg_of X G c_NoNode) (PySem.W.mg_of X G c_NoPosition) (PySem.W.mg_of X G c_NoReference) (PySem.W.mg_of X G c_NoSlot) (PySem.W.mg_of X G c_NotFreed) (PySem.W.mg_of X G c_UndoError) nNN nNR l_law_odd l_law_draw e_freed e_kept, PySem.W.mg_of X G a_law_refused, k_law_refused, b_law_refused⟩
  exact ok_law FC2 T TB2 nPP DE (PySem.W.mg_of X G c_MissingError) (PySem.W.mg_of X G c_NoNode) (PySem.W.mg_of X G c_NoPosition) (PySem.W.mg_of X G c_NoReference) (PySem.W.mg_of X G c_NoSlot) (PySem.W.mg_of X G c_NotFreed) (PySem.W.mg_of X G c_UndoError) nNN nNR l_law_pen l_law_heap l_law_draw l_law_odd l_law_right l_law_refused e_freed e_kept
end SF
open PySem PySem.W PyProof.Rows in
set_option maxRecDepth 100000 in
set_option maxHeartbeats 0 in
theorem PySem.Challenge.cw_slotfall_k18_nodes_freed_and_kept_holds : PySem.Challenge.rw_slotfall_k18_nodes_freed_and_kept.Holds := by
  w_on; o_law; k_head; (case hw => w_witness2)
  k_fill
  refine SF.walkGT (l := PySem.Challenge.rw_slotfall_k18_nodes_freed_and_kept) (n := 63) (k := 13) (x := "_law_script") rfl (by decide) rfl ⟨rfl, by decide, by decide⟩ (fun w h Y => PySem.W.km_in_of Y) ?F
  case F =>
    intro w mg fa h Y KX G hmg
    refine' SF.all_mk KX G hmg ?aC ?pg ?hd ?po ?sa ?mk ?kc ?n_slots ?n_outside ?n_references ?n_limit ?n_emptied ?n_shelf ?n_events ?a_law_draw ?l_law_draw ?c_law_draw ?k_law_draw ?a_law_pen ?l_law_pen ?c_law_pen ?k_law_pen ?a_law_order ?l_law_order ?c_law_order ?k_law_order ?a_law_size ?l_law_size ?c_law_size ?k_law_size ?a_live_nodes ?l_live_nodes ?c_live_nodes ?k_live_nodes ?a_law_links ?l_law_links ?c_law_links ?k_law_links ?a_law_heap ?l_law_heap ?c_law_heap ?k_law_heap ?a_Releasing_destroy ?i_Releasing_destroy ?l_Releasing_destroy ?c_Releasing_destroy ?k_Releasing_destroy ?a_Releasing_release ?i_Releasing_release ?l_Releasing_release ?c_Releasing_release ?k_Releasing_release ?a_Releasing_release_all ?i_Releasing_release_all ?l_Releasing_release_all ?c_Releasing_release_all ?k_Releasing_release_all ?a_Releasing_drop ?i_Releasing_drop ?l_Releasing_drop ?c_Releasing_drop ?k_Releasing_drop ?a_slot_uses ?l_slot_uses ?c_slot_uses ?k_slot_uses ?a_counts ?l_counts ?c_counts ?k_counts ?a_is_integer ?l_is_integer ?c_is_integer ?k_is_integer ?a_is_between ?l_is_between ?c_is_between ?k_is_between ?a_is_live ?l_is_live ?c_is_live ?k_is_live ?a_need_live ?l_need_live ?c_need_live ?k_need_live ?a_need_reference ?l_need_reference ?c_need_reference ?k_need_reference ?a_Releasing_init ?i_Releasing_init ?l_Releasing_init ?c_Releasing_init ?k_Releasing_init ?a_Releasing_result ?i_Releasing_result ?l_Releasing_result ?c_Releasing_result ?k_Releasing_result ?a_run_drop ?l_run_drop ?c_run_drop ?k_run_drop ?a_drop ?l_drop ?c_drop ?k_drop ?a_freed ?l_freed ?c_freed ?k_freed ?a_kept ?l_kept ?c_kept ?k_kept ?a_law_odd ?l_law_odd ?c_law_odd ?k_law_odd ?a_law_gone ?l_law_gone ?c_law_gone ?k_law_gone ?a_law_right ?l_law_right ?c_law_right ?k_law_right ?a_law_error ?l_law_error ?c_law_error ?k_law_error ?a_law_refused ?l_law_refused ?c_law_refused ?k_law_refused ?a_law ?l_law ?c_law ?k_law ?w_ANY_LIMIT ?z_len ?z_LookupError ?z_ValueError ?z_set ?z_zip ?z_str ?z_abs ?z_int ?z_bool ?z_list ?z_tuple ?z_min ?z_max ?z_sum ?z_any ?z_all ?z_repr ?z_sorted ?z_isinstance ?z_range ?z_enumerate ?c_MissingError ?c_NoNode ?c_NoPosition ?c_NoReference ?c_NoSlot ?c_NotFreed ?c_UndoError ?xi_NoNode ?xo_NoNode ?xd_NoNode ?xs_NoNode ?xe_NoNode ?xt_NoNode ?xk_NoNode ?xn_NoNode ?xg_NoNode ?xG_NoNode ?xf_NoNode ?xc_NoNode ?xh_NoNode ?xT_NoNode ?xm_NoNode ?a_iNoNode ?t_iNoNode ?l_iNoNode ?c_iNoNode ?k_iNoNode ?xi_NoReference ?xo_NoReference ?xd_NoReference ?xs_NoReference ?xe_NoReference ?xt_NoReference ?xk_NoReference ?xn_NoReference ?xg_NoReference ?xG_NoReference ?xf_NoReference ?xc_NoReference ?xh_NoReference ?xT_NoReference ?xm_NoReference ?a_iNoReference ?t_iNoReference ?l_iNoReference ?c_iNoReference ?k_iNoReference ?q1NN ?q2NN ?q3NN ?q4NN ?q5NN ?q1NR ?q2NR ?q3NR ?q4NR ?q5NR ?eR1 ?hTb1 ?nTb1 ?cdR1 ?eR2 ?hTb2 ?nTb2 ?cdR2 ?nPP
    (case aC => k_is)
    (case pg => k_is)
    (case hd => k_is)
    (case po => k_is)
    (case sa => k_is)
    (case mk => k_is)
    (case kc => k_is)
    (case n_slots => k_is)
    (case n_outside => k_is)
    (case n_references => k_is)
    (case n_limit => k_is)
    (case n_emptied => k_is)
    (case n_shelf => k_is)
    (case n_events => k_is)
    (case a_law_draw => k_is)
    (case l_law_draw => k_is)
    (case c_law_draw => k_is)
    (case k_law_draw => k_is)
    (case a_law_pen => k_is)
    (case l_law_pen => k_is)
    (case c_law_pen => k_is)
    (case k_law_pen => k_is)
    (case a_law_order => k_is)
    (case l_law_order => k_is)
    (case c_law_order => k_is)
    (case k_law_order => k_is)
    (case a_law_size => k_is)
    (case l_law_size => k_is)
    (case c_law_size => k_is)
    (case k_law_size => k_is)
    (case a_live_nodes => k_is)
    (case l_live_nodes => k_is)
    (case c_live_nodes => k_is)
    (case k_live_nodes => k_is)
    (case a_law_links => k_is)
    (case l_law_links => k_is)
    (case c_law_links => k_is)
    (case k_law_links => k_is)
    (case a_law_heap => k_is)
    (case l_law_heap => k_is)
    (case c_law_heap => k_is)
    (case k_law_heap => k_is)
    (case a_Releasing_destroy => k_is)
    (case i_Releasing_destroy => k_is)
    (case l_Releasing_destroy => k_is)
    (case c_Releasing_destroy => k_is)
    (case k_Releasing_destroy => k_is)
    (case a_Releasing_release => k_is)
    (case i_Releasing_release => k_is)
    (case l_Releasing_release => k_is)
    (case c_Releasing_release => k_is)
    (case k_Releasing_release => k_is)
    (case a_Releasing_release_all => k_is)
    (case i_Releasing_release_all => k_is)
    (case l_Releasing_release_all => k_is)
    (case c_Releasing_release_all => k_is)
    (case k_Releasing_release_all => k_is)
    (case a_Releasing_drop => k_is)
    (case i_Releasing_drop => k_is)
    (case l_Releasing_drop => k_is)
    (case c_Releasing_drop => k_is)
    (case k_Releasing_drop => k_is)
    (case a_slot_uses => k_is)
    (case l_slot_uses => k_is)
    (case c_slot_uses => k_is)
    (case k_slot_uses => k_is)
    (case a_counts => k_is)
    (case l_counts => k_is)
    (case c_counts => k_is)
    (case k_counts => k_is)
    (case a_is_integer => k_is)
    (case l_is_integer => k_is)
    (case c_is_integer => k_is)
    (case k_is_integer => k_is)
    (case a_is_between => k_is)
    (case l_is_between => k_is)
    (case c_is_between => k_is)
    (case k_is_between => k_is)
    (case a_is_live => k_is)
    (case l_is_live => k_is)
    (case c_is_live => k_is)
    (case k_is_live => k_is)
    (case a_need_live => k_is)
    (case l_need_live => k_is)
    (case c_need_live => k_is)
    (case k_need_live => k_is)
    (case a_need_reference => k_is)
    (case l_need_reference => k_is)
    (case c_need_reference => k_is)
    (case k_need_reference => k_is)
    (case a_Releasing_init => k_is)
    (case i_Releasing_init => k_is)
    (case l_Releasing_init => k_is)
    (case c_Releasing_init => k_is)
    (case k_Releasing_init => k_is)
    (case a_Releasing_result => k_is)
    (case i_Releasing_result => k_is)
    (case l_Releasing_result => k_is)
    (case c_Releasing_result => k_is)
    (case k_Releasing_result => k_is)
    (case a_run_drop => k_is)
    (case l_run_drop => k_is)
    (case c_run_drop => k_is)
    (case k_run_drop => k_is)
    (case a_drop => k_is)
    (case l_drop => k_is)
    (case c_drop => k_is)
    (case k_drop => k_is)
    (case a_freed => k_is)
    (case l_freed => k_is)
    (case c_freed => k_is)
    (case k_freed => k_is)
    (case a_kept => k_is)
    (case l_kept => k_is)
    (case c_kept => k_is)
    (case k_kept => k_is)
    (case a_law_odd => k_is)
    (case l_law_odd => k_is)
    (case c_law_odd => k_is)
    (case k_law_odd => k_is)
    (case a_law_gone => k_is)
    (case l_law_gone => k_is)
    (case c_law_gone => k_is)
    (case k_law_gone => k_is)
    (case a_law_right => k_is)
    (case l_law_right => k_is)
    (case c_law_right => k_is)
    (case k_law_right => k_is)
    (case a_law_error => k_is)
    (case l_law_error => k_is)
    (case c_law_error => k_is)
    (case k_law_error => k_is)
    (case a_law_refused => k_is)
    (case l_law_refused => k_is)
    (case c_law_refused => k_is)
    (case k_law_refused => k_is)
    (case a_law => k_is)
    (case l_law => k_is)
    (case c_law => k_is)
    (case k_law => k_is)
    (case w_ANY_LIMIT => k_is)
    (case z_len => k_is)
    (case z_LookupError => k_is)
    (case z_ValueError => k_is)
    (case z_set => k_is)
    (case z_zip => k_is)
    (case z_str => k_is)
    (case z_abs => k_is)
    (case z_int => k_is)
    (case z_bool => k_is)
    (case z_list => k_is)
    (case z_tuple => k_is)
    (case z_min => k_is)
    (case z_max => k_is)
    (case z_sum => k_is)
    (case z_any => k_is)
    (case z_all => k_is)
    (case z_repr => k_is)
    (case z_sorted => k_is)
    (case z_isinstance => k_is)
    (case z_range => k_is)
    (case z_enumerate => k_is)
    (case c_MissingError => k_is)
    (case c_NoNode => k_is)
    (case c_NoPosition => k_is)
    (case c_NoReference => k_is)
    (case c_NoSlot => k_is)
    (case c_NotFreed => k_is)
    (case c_UndoError => k_is)
    (case xi_NoNode => rfl)
    (case xo_NoNode => rfl)
    (case xd_NoNode => k_is)
    (case xs_NoNode => k_is)
    (case xe_NoNode => k_is)
    (case xt_NoNode => k_is)
    (case xk_NoNode => k_is)
    (case xn_NoNode => k_is)
    (case xg_NoNode => k_is)
    (case xG_NoNode => k_is)
    (case xf_NoNode => k_is)
    (case xc_NoNode => k_is)
    (case xh_NoNode => k_is)
    (case xT_NoNode => k_is)
    (case xm_NoNode => k_is)
    (case a_iNoNode => k_is)
    (case t_iNoNode => k_is)
    (case l_iNoNode => k_is)
    (case c_iNoNode => k_is)
    (case k_iNoNode => k_is)
    (case xi_NoReference => rfl)
    (case xo_NoReference => rfl)
    (case xd_NoReference => k_is)
    (case xs_NoReference => k_is)
    (case xe_NoReference => k_is)
    (case xt_NoReference => k_is)
    (case xk_NoReference => k_is)
    (case xn_NoReference => k_is)
    (case xg_NoReference => k_is)
    (case xG_NoReference => k_is)
    (case xf_NoReference => k_is)
    (case xc_NoReference => k_is)
    (case xh_NoReference => k_is)
    (case xT_NoReference => k_is)
    (case xm_NoReference => k_is)
    (case a_iNoReference => k_is)
    (case t_iNoReference => k_is)
    (case l_iNoReference => k_is)
    (case c_iNoReference => k_is)
    (case k_iNoReference => k_is)
    (case q1NN => rfl)
    (case q2NN => rfl)
    (case q3NN => rfl)
    (case q4NN => rfl)
    (case q5NN => rfl)
    (case q1NR => rfl)
    (case q2NR => rfl)
    (case q3NR => rfl)
    (case q4NR => rfl)
    (case q5NR => rfl)
    (case eR1 => rfl)
    (case hTb1 => exact PySem.W.km_tabs_of Y _ List.mem_cons_self)
    (case nTb1 => rfl)
    (case cdR1 => rfl)
    (case eR2 => rfl)
    (case hTb2 => exact PySem.W.km_tabs_of Y _ (List.mem_cons_of_mem _ List.mem_cons_self))
    (case nTb2 => rfl)
    (case cdR2 => rfl)
    (case nPP => decide)

