import PyProof.Rows.All
import Wide.All
import OpenK.AllK
import Wide.FinOn
import HandS.ForMost
import HandS.Conv
import HandS.More
import HandS.Wide
import HandS.Style
import HandS.Flow
import HandS.EndBits
import HandS.Walk
import HandS.Steps
import KE.GoesEnum
import KE.GoesMore
import PyProof.ReprRoads
import PyProof.ReprLen
import HandS.DictComp
import HandS.SortInts
import HandS.TupAny
import HandS.SortKw
import KE.KMinBuiltin
import HandS.IsInst
import HandS.TryOnly
import KE.KMathG
import HandS.Gcd
import PySem.Challenge.RW_slotfall_k15_whole_limit_changes_only_th
set_option Elab.async false
set_option linter.all false
set_option maxRecDepth 100000
set_option maxHeartbeats 4000000
set_option autoImplicit false
namespace SF
open PySem PySem.Spec PyProof.Rows L2

/-! ### promises that may lean on an empty list of guards -/
structure FnG (P : Program) (w : World) (K : PySem.W.Frag) (mg : Str → Option Value) (base : Heap) (k : Nat) (f : Addr) (fd : FuncData) (ps : List Str) (sp : Sp) : Prop where
  len : ∀ vs H Q E, sp vs H Q E → vs.length = ps.length
  run : ∀ (A : Around) (outer : List Env) (s : Shared) (H : Hp) (args : Args) (us : List Value) (vs : List V) (Q : VK) (E : XK),
    A.guards = some [] → Room k A → Env0 P w K mg base A outer s H → BindsTo s fd args (ps.zip us) → Vals vs us → sp vs H Q E →
    codeAny (model P w) A (.call (.ref f) args) (CR CX0 outer P w H s Q E) s

section
variable {P : Program} {w : World} {K : PySem.W.Frag} {mg : Str → Option Value} {base : Heap}
theorem FnG.of {k : Nat} {f : Addr} {fd : FuncData} {ps : List Str} {sp : Sp} (F : FnOk P w K mg base CX0 k f fd ps sp) : FnG P w K mg base k f fd ps sp :=
  ⟨F.len, fun A o s H a us vs Q E _ hr => F.run A o s H a us vs Q E hr⟩
theorem fnG_of {k : Nat} {f : Addr} {name qual : Str} {params : Arguments} {body : List Stmt} {scope : Scope} {kV doc pm cdv ct oc : Value} {an od : Option Addr}
    {osl : Array (Option Value)} {N ps : List Str} {sp : Sp}
    (lk : K.lookup f = some ⟨oc, od, .func (PySem.W.fnOf name qual params body scope .none kV doc pm an cdv ct), osl⟩)
    (hcd : PySem.W.codeIn K cdv qual = true) (S : FnScope N ps scope)
    (len : ∀ vs H Q E, sp vs H Q E → vs.length = ps.length)
    (hbody : ∀ (A : Around) (outer : List Env) (s : Shared) (H : Hp) (vs : List V) (Q : VK) (E : XK),
      (A.deeper (envOfC qual scope s.heap.objs.size f cdv)).guards = some [] →
      Room k (A.deeper (envOfC qual scope s.heap.objs.size f cdv)) → sp vs H Q E →
      ∃ t, PSs (cxOf CX0 P w K mg base N qual scope f cdv A outer s H E) body t ∧ t { nx := fun _ H' => Q .non H', rt := Q } (start N vs) H) :
    FnG P w K mg base (k + 1) f (PySem.W.fnOf name qual params body scope .none kV doc pm an cdv ct) ps sp := by
  constructor
  · exact len
  intro A outer s H args us vs Q E hgd hr e0 hb r hsp
  have hl := len _ _ _ _ hsp
  have inK : K.In s.heap := e0.mod.kin.keeps fun b o e => (e0.bs b o e).1
  have lim : s.heap.NoLimit := e0.mod.nolimit.keeps fun b o e => (e0.bs b o e).1
  have kinds : ∀ y ∈ ps.zip us, scope.names.lookup y.1 = some .local ∨
      (scope.names.lookup y.1 = some .cell ∧ ((cellsFrom (s.heap.objs.size + 1) scope.names []).lookup y.1).isSome = true) := by
    rintro ⟨n, v⟩ hy
    rcases S.par n (List.of_mem_zip hy).1 with q | q
    · exact Or.inl q
    · exact Or.inr ⟨q, PySem.W.cellsFrom_some _ _ _ (.inl q)⟩
  have code := PySem.W.codeRec_of inK hcd
  refine codeAny_call_function hr.depth (inK _ _ lk) rfl S.co S.gen rfl code (hb _ _ _ _ ?_)
  refine wpAny_newFunctionEnv_cells S.kind kinds fun env he s1 x => ?_
  subst he
  refine ⟨lim.keeps x.toInCall.keep, codeAny_func ?_⟩
  obtain ⟨t, ht, hq⟩ := hbody A outer s H vs Q E hgd (hr.deeper _) hsp
  have I := inv_start (CX := CX0) (E := E) (N := N) S hr.hd e0 hl r x
  refine wpAny_mono (ht.run [] s1 (start N vs) H _ I hq) (fun fl s' hs => ?_) fun e s' hs => hs
  cases fl with
  | ret u =>
    obtain ⟨v, σ', H', J, rv, q⟩ := hs
    exact ⟨v, H', J.os, J.bare, J.base, J.hok, rv, q⟩
  | next =>
    obtain ⟨σ', H', J, q⟩ := hs
    exact ⟨V.non, H', J.os, J.bare, J.base, J.hok, rfl, q⟩
  | brk =>
    obtain ⟨_, _, _, q⟩ := hs
    exact q.elim
  | cont =>
    obtain ⟨_, _, _, q⟩ := hs
    exact q.elim
theorem FnG.body {x qual : Str} {st : Stmt} {f : Addr} {fd : FuncData} {N ps : List Str} {k : Nat} {sp : Sp} (F : Fun K x qual st f fd) (S : FnScope N ps (defScope st))
    (len : ∀ vs H Q E, sp vs H Q E → vs.length = ps.length)
    (hbody : ∀ (cdv : Value) (A : Around) (outer : List Env) (s : Shared) (H : Hp) (vs : List V) (Q : VK) (E : XK),
      (A.deeper (envOfC qual (defScope st) s.heap.objs.size f cdv)).guards = some [] → Room k (A.deeper (envOfC qual (defScope st) s.heap.objs.size f cdv)) → sp vs H Q E →
      ∃ t, PSs (cxOf CX0 P w K mg base N qual (defScope st) f cdv A outer s H E).nox (defBody st) t ∧ t { nx := fun _ H' => Q .non H', rt := Q } (start N vs) H) :
    FnG P w K mg base (k + 1) f fd ps sp := by
  obtain ⟨oc, od, kV, doc, pm, an, cdv, ct, osl, rfl, lk, hcd⟩ := F.ex
  refine fnG_of lk hcd S len fun A outer s H vs Q E hgd hr hsp => ?_
  obtain ⟨t, h, q⟩ := hbody cdv A outer s H vs Q E hgd hr hsp
  exact ⟨t, h.nox, q⟩
end

/-! ### links to a callee: its promise, its place, its binding -/
structure Lk (P : Program) (w : World) (K : PySem.W.Frag) (mg : Str → Option Value) (base : Heap) (x : Str) (k : Nat) (ps : List Str) (sp : Sp) : Prop where
  ex : ∃ (f : Addr) (fd : FuncData), FnG P w K mg base k f fd ps sp ∧ mg x = some (.ref f) ∧ PySem.W.keepIn K (.ref f) = true ∧ Binds K fd ps []
/-- a callee that asks nothing of the guards -/
structure Lo (P : Program) (w : World) (K : PySem.W.Frag) (mg : Str → Option Value) (base : Heap) (x : Str) (k : Nat) (ps : List Str) (sp : Sp) : Prop where
  ex : ∃ (f : Addr) (fd : FuncData), FnOk P w K mg base CX0 k f fd ps sp ∧ mg x = some (.ref f) ∧ PySem.W.keepIn K (.ref f) = true ∧ Binds K fd ps []
theorem Lo.lk {P : Program} {w : World} {K : PySem.W.Frag} {mg : Str → Option Value} {base : Heap} {x : Str} {k : Nat} {ps : List Str} {sp : Sp} (L : Lo P w K mg base x k ps sp) : Lk P w K mg base x k ps sp := by
  obtain ⟨f, fd, a, b, c, d⟩ := L.ex
  exact ⟨f, fd, .of a, b, c, d⟩
section
variable {X : Cx} {k : Nat} {ps : List Str} {sp : Sp} {x : Str} {p pos : Pos} {e : Expr} {es : List Expr} {t tk : TA} {kws : List Keyword}
/-- what the callee's run is -/
theorem runG {pins : List (Addr × Obj)} {σ : L2.St} {H : Hp} {s : Shared} {Q : VK} {f : Addr} {fd : FuncData} {us : List Value} {kw : List (Str × Value)} {vs : List V} {ws : List Value}
    (F : FnG X.prog X.w X.K X.mg X.base k f fd ps sp) (hgd : X.A.guards = some []) (hr : Room k X.A) (hb : BindsTo s fd ⟨us, kw⟩ (ps.zip ws)) (I : Inv X pins σ H s) (r : Vals vs ws) (h : sp vs H Q E0) :
    wpAny (model X.prog X.w) X.A (call (.ref f) us kw) (EP X pins σ Q) X.xe s := by
  refine wpAny_call (codeAny_mono (F.run X.A X.stack s H ⟨us, kw⟩ ws vs Q E0 hgd hr I.env0 hb r h) fun r s' hq => ?_)
  match r, hq with
  | .ok (.ret u), hq => exact I.after hq
  | .ok .next, hq => exact hq.elim
  | .ok .brk, hq => exact hq.elim
  | .ok .cont, hq => exact hq.elim
  | .error e, hq => exact False.elim hq
theorem run0 {pins : List (Addr × Obj)} {σ : L2.St} {H : Hp} {s : Shared} {Q : VK} {f : Addr} {fd : FuncData} {us : List Value} {kw : List (Str × Value)} {vs : List V} {ws : List Value}
    (F : FnOk X.prog X.w X.K X.mg X.base CX0 k f fd ps sp) (hr : Room k X.A) (hb : BindsTo s fd ⟨us, kw⟩ (ps.zip ws)) (I : Inv X pins σ H s) (r : Vals vs ws) (h : sp vs H Q E0) :
    wpAny (model X.prog X.w) X.A (call (.ref f) us kw) (EP X pins σ Q) X.xe s := by
  refine wpAny_call (codeAny_mono (F.run X.A X.stack s H ⟨us, kw⟩ ws vs Q E0 hr I.env0 hb r h) fun r s' hq => ?_)
  match r, hq with
  | .ok (.ret u), hq => exact I.after hq
  | .ok .next, hq => exact hq.elim
  | .ok .brk, hq => exact hq.elim
  | .ok .cont, hq => exact hq.elim
  | .error e, hq => exact False.elim hq
/-- x(e, ..) -/
theorem pe_lo (L : Lo X.prog X.w X.K X.mg X.base x k ps sp) (hr : Room k X.A) (hg : Gl X x) (ha : PA X (e :: es) t)
    (hdb : (x == ("__debug__" : Str)) = false := by decide) (he : starEach (e :: es) X.env = (false, eval e X.env) :: starEach es X.env := by rfl) (hpl : (backTo pos (starEach es X.env)).any (·.1) = false := by rfl) :
    PE X (.Call (.Name x p) (e :: es) [] pos) (tCall sp [] E0 t) := by
  obtain ⟨f, fd, F, hm, hk, hb⟩ := L.ex
  exact pe_call F hr hg hm hk hb .nil pass0 ha hdb he hpl
theorem pe_lk (L : Lk X.prog X.w X.K X.mg X.base x k ps sp) (hgd : X.A.guards = some []) (hr : Room k X.A) (hg : Gl X x) (ha : PA X (e :: es) t)
    (hdb : (x == ("__debug__" : Str)) = false := by decide) (he : starEach (e :: es) X.env = (false, eval e X.env) :: starEach es X.env := by rfl) (hpl : (backTo pos (starEach es X.env)).any (·.1) = false := by rfl) :
    PE X (.Call (.Name x p) (e :: es) [] pos) (tCall sp [] E0 t) := by
  obtain ⟨f, fd, F, hm, hk, hb⟩ := L.ex
  constructor
  intro pins s σ H Q I h
  refine wpAny_Call_Name_kw (ld_glob I hg hm ?_ hdb)
  refine PySem.W.callWith_K (h₀ := X.base) I.ok.mod.kin hk (thn (ha.run pos pins s σ H _ I h) ?_) he hpl
  rintro us s1 ⟨vs, H1, I1, r, q⟩
  have q' : sp vs H1 Q E0 := by simpa using q
  have hl : us.length = ps.length := r.length ▸ F.len _ _ _ _ q'
  have hb1 := hb s1 us I1.kIn (by simpa using hl)
  simp only [List.append_nil] at hb1
  exact ⟨I1.kIn, runG F hgd hr hb1 I1 r q'⟩
/-- the promise at the keywords' values in the parameters' order: gV -/
def tCallKw (sp : Sp) (gV : List V → List V) (tk : TA) : TE := fun σ H Q => tk σ H fun zs H1 => sp (gV zs) H1 Q E0
structure KB (K : PySem.W.Frag) (fd : FuncData) (ps ks : List Str) (g : List Value → List Value) (gV : List V → List V) : Prop where
  to : ∀ (s : Shared) (ws : List Value), K.In s.heap → (g ws).length = ps.length → BindsTo s fd ⟨[], ks.zip ws⟩ (ps.zip (g ws))
  rel : ∀ {zs : List V} {ws : List Value}, Vals zs ws → Vals (gV zs) (g ws)
/-- x(k = v, ..) -/
theorem pe_kw0 {f : Addr} {fd : FuncData} {ks : List Str} {g : List Value → List Value} {gV : List V → List V} (F : FnOk X.prog X.w X.K X.mg X.base CX0 k f fd ps sp) (hr : Room k X.A) (hg : Gl X x) (hm : X.mg x = some (.ref f)) (hk : PySem.W.keepIn X.K (.ref f) = true)
    (hb : KB X.K fd ps ks g gV) (hkw : PK X kws tk)
    (hall : (backToKw pos (keywordEach kws X.env)).all (·.1.isSome) = true := by rfl) (hks : (backToKw pos (keywordEach kws X.env)).filterMap (·.1) = ks := by rfl)
    (hdb : (x == ("__debug__" : Str)) = false := by decide)
    (hpl : ((backTo pos (starEach [] X.env)).any (·.1) || (backToKw pos (keywordEach kws X.env)).any (·.1.isNone)) = false := by rfl) :
    PE X (.Call (.Name x p) [] kws pos) (tCallKw sp gV tk) := by
  constructor
  intro pins s σ H Q I h
  refine wpAny_Call_Name_kw (ld_glob I hg hm ?_ hdb)
  refine PySem.W.callWith_KW0 (h₀ := X.base) I.ok.mod.kin hk hall ?_ hpl
  refine thn (hkw.run pos pins s σ H _ I h) ?_
  rintro ws s2 ⟨zs, H2, I2, rz, q2⟩
  refine ⟨I2.kIn, ?_⟩
  rw [hks]
  have r2 := hb.rel rz
  have hl : (g ws).length = ps.length := r2.length ▸ F.len _ _ _ _ q2
  exact run0 F hr (hb.to s2 ws I2.kIn hl) I2 r2 q2
end

/-! ### repr of data -/
section
variable {X : Cx}
def rRepr (K : PySem.W.Frag) : List V → Hp → VK → Prop := fun xs H Q => ∃ a d, xs = [.ref a] ∧ Dp K H (.ref a) d ∧ d.showable = true ∧ d.hasDict = false ∧ d.depth ≤ 60 ∧ d.shown.length ≤ sizeLine ∧ Q (.str d.shown) H
theorem call_repr (hgd : X.A.guards = some []) (hu : X.A.units + 64 < cLine) : CallR X (.builtin "repr") (rRepr X.K) := by
  intro pins s σ H xs us Q I r h
  obtain ⟨a, d, rfl, hd, h1, h2, h3, h4, q⟩ := h
  rw [Vals.ref1 r]
  obtain ⟨as, hr⟩ := Dp.reads I d _ (.ref a) hd rfl
  refine repr_of_reads' hr h1 (PyData.noDict_hsm h2) hgd (by omega) (fun _ _ e => e) (fun h' u tk hk => ?_) h4
  exact ⟨.str d.shown, H, I.kept hk, ⟨u, rfl⟩, q⟩
end


/-! ### enumerate(tuple) -/
theorem meets_enum_newT (l : Addr) (items : Array Value) :
    Meets (Builtin.«enumerate.__new__» ⟨[.type "enumerate", .ref l], []⟩) (fun _ R s => s.heap.IsTuple l items ∧
      R (.ok (.ret (.ref (s.heap.push { cls := .type "tuple_iterator", data := .fields #[.ref l, .int 0 0] }).objs.size)))
        { s with heap := (s.heap.push { cls := .type "tuple_iterator", data := .fields #[.ref l, .int 0 0] }).push { cls := .type "enumerate", data := .fields #[.none, .bool false, .ref s.heap.objs.size, rawInt 0, .none, .none] } }) :=
  .of_wp fun prog w A R s h => by
    obtain ⟨hp, g, d, tk, os⟩ := s
    obtain ⟨hl, h⟩ := h
    have hsub := sub_enumerate
    have hT : Heap.IsTuple (Shared.heap ⟨hp, g, d, tk, os⟩) l items := hl
    obtain ⟨⟨c, dct, dt, sl⟩, ho, hc, n, hd⟩ := id hl
    replace hc : c = .type "tuple" := hc
    replace hd : dt = .seq items n := hd
    subst hc hd
    wp_walk using AutoSeq1.wpAny_loadPart' ho
    refine wpAny_stack_any fun st => wpAny_pure ?_
    split
    · rename_i c _ _ _ _ _
      cases (c == Value.type "enumerate")
      · wp_walk using AutoSeq1.wpAny_loadPart' ho, wpAny_pyIter_tuple hT
        exact ⟨_, rfl, h⟩
      · wp_walk using AutoSeq1.wpAny_loadPart' ho, wpAny_pyIter_tuple hT
        exact ⟨_, rfl, h⟩
    · wp_walk using AutoSeq1.wpAny_loadPart' ho, wpAny_pyIter_tuple hT
      exact ⟨_, rfl, h⟩
theorem call_enum_tup {prog : Program} {w : World} {A : Around} {E : Value → Shared → Prop} {s : Shared} {l : Addr} {items : Array Value} {Q : Value → Shared → Prop} (hL : s.heap.IsTuple l items)
    (h : ∀ h', IsEnum h' (s.heap.objs.size + 1) s.heap.objs.size 0 .none → h'.IsTupleIter s.heap.objs.size l 0 → h'.objs.size = s.heap.objs.size + 2 →
      (∀ b o, s.heap.get? b = some o → h'.get? b = some o) → Q (.ref (s.heap.objs.size + 1)) { s with heap := h' }) :
    wpAny (model prog w) A (call (.type "enumerate") [.ref l]) Q E s := by
  refine callType_new F.called_enumerate (by decide) (F.typeCall_enumerate_1 _) (F.newCall_enumerate_1 _) (fun obj => F.args_object_init_2 obj _) F.entry_enumerate_new (meets_enum_newT l items) ⟨hL, ?_⟩
  have hz : (s.heap.push { cls := .type "tuple_iterator", data := .fields #[.ref l, .int 0 0] }).objs.size = s.heap.objs.size + 1 := Heap.size_push ..
  show _ ∧ _
  rw [hz]
  have he := Heap.get?_push_size (s.heap.push { cls := .type "tuple_iterator", data := .fields #[.ref l, .int 0 0] })
      (o := { cls := .type "enumerate", data := .fields #[.none, .bool false, .ref s.heap.objs.size, rawInt 0, .none, .none] }) rfl
  rw [hz] at he
  refine ⟨⟨_, he, rfl⟩, h _ he ⟨_, Heap.get?_push_of_some _ (Heap.get?_push_size _ rfl), rfl, rfl⟩ (by rw [Heap.size_push, hz]) ?_⟩
  exact fun b o x => Heap.get?_push_of_some _ (Heap.get?_push_of_some _ x)
def IteT (K : PySem.W.Frag) (a : Addr) : It where
  go := fun i H => ∃ (xs : List V) (x : V), SqT K H a xs ∧ xs[i]? = some x
  yld := fun i H v H' => ∃ T x, v = .ref T ∧ H T = none ∧ H' = upd H T (.tup [.int (i : Nat), x]) ∧ ∀ xs, SqT K H a xs → xs[i]? = some x
  stop := fun i H => ∃ xs : List V, SqT K H a xs ∧ xs.length ≤ i
theorem turn_enumT {P : Program} {w : World} {K : PySem.W.Frag} {elts : List Expr} {kk : Nat} {tpos : Pos} (a e it : Addr) :
    Turn P w K (.Tuple elts kk tpos) (IteT K a) [e, it] e (fun i h => (∃ old, IsEnum h e it ((i : Nat) : Int) old) ∧ h.IsTupleIter it a i ∧ e ≠ it) where
  mem := List.mem_cons_self
  obj := by
    rintro i h ⟨⟨old, he⟩, ⟨o, ho, hc, hd⟩, _⟩ b hb
    have cs : b = e ∨ b = it := by simpa using hb
    rcases cs with rfl | rfl
    · exact ⟨_, he, fun v q => nomatch q⟩
    · exact ⟨o, ho, fun v q => by rw [hd] at q; cases q⟩
  keep := by
    rintro i h h' ⟨⟨old, he⟩, hi, hne⟩ k
    exact ⟨⟨old, k e (by simp) _ he⟩, hi.at fun o q => k it (by simp) o q, hne⟩
  item := by
    intro X hP hw hK hc i pins s σ H E I hf st hg
    subst hP hw hK
    obtain ⟨⟨old, he⟩, hit, hne⟩ := st
    obtain ⟨xs, x, hq, hx⟩ := hg
    obtain ⟨its, rv, p, hz⟩ := I.tuple hq
    obtain ⟨u, hu, ru⟩ := rv.get hx
    have hel : e < s.heap.objs.size := Heap.lt_size he
    have hil : it < s.heap.objs.size := by
      obtain ⟨_, q, _⟩ := hit
      exact Heap.lt_size q
    have hha : X.A.in1.handled = none := I.ok.hd hc
    have pa : s.heap.IsTuple a its.toArray := p
    have nai : a ≠ it := by
      rintro rfl
      obtain ⟨o, q1, q2, q3⟩ := hit
      obtain ⟨o', q1', q2', n', q3'⟩ := pa
      rw [q1] at q1'
      cases q1'
      rw [q3] at q3'
      cases q3'
    have nae : a ≠ e := by
      rintro rfl
      obtain ⟨o', q1', q2', n', q3'⟩ := pa
      rw [show s.heap.get? a = _ from he] at q1'
      cases q1'
      cases q3'
    refine wpAny_pyNext_enum_itemD (n := its.toArray.size) (Draws.tuple hha it a nai its.toArray) he ⟨hit, pa⟩ (by have := List.getElem?_eq_some_iff.mp hu; obtain ⟨q, _⟩ := this; simpa using q) hne (by simp [hne, Ne.symm nae]) fun y h' tk hy ho hst hT hsz hk => ?_
    have ey : y = u := by
      have hy' : its.toArray[i]? = some y := hy
      have : its[i]? = some y := by simpa using hy'
      rw [hu] at this
      exact (Option.some.inj this).symm
    subst ey
    refine ⟨_, rfl, wpAny_letOwnedTupleGo_enum (s := { s with heap := h', toks := tk + 1 }) ho fun h'' he' sb => ?_⟩
    have hT2 : h''.get? s.heap.objs.size = some { cls := .type "tuple", data := .seq #[.int i tk, y] } := (sb.2 _ (Nat.ne_of_gt hel)).trans hT
    have new : ObjOk X.prog X.w (upd H s.heap.objs.size (.tup [.int (i : Nat), x])) h'' s.heap.objs.size (.tup [.int (i : Nat), x]) :=
      ⟨by show 2 ≤ sizeLine; decide, [.int i tk, y], .cons ⟨_, rfl⟩ (.cons ru .nil), ⟨_, hT2, rfl, _, rfl⟩⟩
    have I1 : Inv X pins σ (upd H s.heap.objs.size (.tup [.int (i : Nat), x])) { s with heap := h'', toks := tk + 1 } :=
      I.turnedNew (ch := [e, it]) (fun b ob hb q => (sb.2 b (fun z => hb (by simp [z]))).trans (hk b ob (fun z => hb (by simp [z])) (fun z => hb (by simp [z])) q)) hf (Nat.le_refl _) new
    refine ⟨.ref s.heap.objs.size, _, I1, rfl, ⟨_, x, rfl, I.hok.fresh (Nat.le_refl _), rfl, fun ys hy => by rw [I.tuple_inj hy hq]; exact hx⟩, ⟨⟨y, ?_⟩, hst.1.at fun o q => (sb.2 it (Ne.symm hne)).trans q, hne⟩, fun b hb => ?_⟩
    · have e1 : ((i + 1 : Nat) : Int) = (i : Int) + 1 := by omega
      rw [e1]
      exact he'
    · have cs : b = e ∨ b = it := by simpa using hb
      have hb' : b < s.heap.objs.size := by
        rcases cs with rfl | rfl
        · exact hel
        · exact hil
      rw [upd_ne (Nat.ne_of_lt hb')]
      exact (hf b hb).1
  done := by
    intro X hP hw hK hc i pins s σ H E I hf st hg
    subst hP hw hK
    obtain ⟨⟨old, he⟩, hit, hne⟩ := st
    obtain ⟨xs, hq, hx⟩ := hg
    obtain ⟨its, rv, p, hz⟩ := I.tuple hq
    obtain ⟨f0, f1, f2, f3, f4, f5⟩ := hf it (by simp)
    have pa : s.heap.IsTuple a its.toArray := p
    have hha : X.A.in1.handled = none := I.ok.hd hc
    have nai : a ≠ it := by
      rintro rfl
      obtain ⟨o, q1, q2, q3⟩ := hit
      obtain ⟨o', q1', q2', n', q3'⟩ := pa
      rw [q1] at q1'
      cases q1'
      rw [q3] at q3'
      cases q3'
    -- an iterator behind the end stands like one at the end: the next of it is told apart
    unfold pyNext
    have hT : s.TypeIs (.ref e) "enumerate" := ⟨_, he, rfl⟩
    refine wpAny_bind (wpAny_attempt (wpAny_callSpecial?_slot (name := Str.ofString "__next__") hT F.slot_enumerate_next
      (wpAny_call_entry F.slot_enumerate_next hT F.entry_enumerate_next ?_ (F.args_enumerate_next_1 _))))
    show wpAny _ _ (field (.ref e) 2 >>= _) _ _ _
    refine wpAny_bind (wpAny_field he rfl (x := .ref it) rfl ?_)
    refine wpAny_bind (wpAny_nextOf_tuple_end hha hit pa (by simp; have := rv.length; omega) fun h' x he' hx' => ?_)
    obtain ⟨o, ho, hc⟩ := hx'
    refine wpAny_bind (wpAny_isInstance (T := "StopIteration") (b := true) ⟨o, ho, hc⟩ isSubtype_stop ?_)
    exact wpAny_pure ⟨rfl, I.turned (t' := s.toks) (fun b o hb q => he' b o hb q) f0 f1 f3 f4 f5⟩
  self := fun A i s Q E st h => let ⟨⟨_, he⟩, _⟩ := st; wpAny_pyIter_enum he h
def iEnumT (K : PySem.W.Frag) (ta : TA) : TI := fun σ H R => ta σ H fun vs H1 => ∃ a xs, vs = [.ref a] ∧ SqT K H1 a xs ∧ R (IteT K a) H1
theorem pi_enumT {X : Cx} {e : Expr} {ta : TA} {p pos tpos : Pos} {elts : List Expr} {kk : Nat} (hg : Gl X "enumerate") (hm : X.mg "enumerate" = none) (ha : PA X [e] ta)
    (hs : starEach [e] X.env = [(false, eval e X.env)] := by rfl) : PI X (.Tuple elts kk tpos) (.Call (.Name "enumerate" p) [e] [] pos) (iEnumT X.K ta) := by
  constructor
  intro pins s σ H R I h
  refine Call_ (ld_blt I hg hm boot_enumerate (PyProof.Rows.callWith_type1 (thn (ha.run pos pins s σ H _ I h) ?_) hs rfl))
  rintro us s1 ⟨vs, H1, I1, r1, a, xs, ex, hq, q⟩
  subst ex
  rw [Vals.ref1 r1]
  obtain ⟨its, rv, p', hz⟩ := I1.tuple hq
  refine call_enum_tup p' fun h' he hit hsz hk => wpAny_pyIter_enum he ?_
  have I2 : Inv X pins σ H1 { s1 with heap := h' } := I1.kept (t' := s1.toks) hk
  refine ⟨s1.heap.objs.size + 1, [s1.heap.objs.size + 1, s1.heap.objs.size], _, _, H1, rfl, I2, turn_enumT a (s1.heap.objs.size + 1) s1.heap.objs.size, ⟨⟨.none, he⟩, hit, Nat.succ_ne_self _⟩, fun b hb => ?_, q⟩
  have cs : b = s1.heap.objs.size + 1 ∨ b = s1.heap.objs.size := by simpa using hb
  have hle : s1.heap.objs.size ≤ b := by
    rcases cs with z | z
    · rw [z]
      exact Nat.le_succ _
    · rw [z]
      exact Nat.le_refl _
  exact I1.fpOk hle (I1.hok.fresh hle)
theorem walk_enumT {K : PySem.W.Frag} {a : Addr} {xs : List V} : Walk (IteT K a) xs.length (fun H => SqT K H a xs) (YPair (fun i => some (.int (i : Nat))) (fun i => xs[i]?)) := by
  refine ⟨fun i _ hi q => ⟨xs, xs[i], q, by simp [hi]⟩, fun _ q => ⟨xs, q, Nat.le_refl _⟩, ?_⟩
  rintro i H v H' _ q ⟨T, x, h1, h2, h3, h4⟩
  exact ⟨T, .int (i : Nat), x, h1, h2, h3, rfl, h4 xs q⟩

/-! ### tuple.count of flat items -/
section
variable {X : Cx}
def rCountT (K : PySem.W.Frag) : V → List V → Hp → VK → Prop := fun x vs H Q => ∃ (a : Addr) (ys : List V) (y : V), x = V.ref a ∧ vs = [y] ∧ SqT K H a ys ∧ flatV y = true ∧ ys.all flatV = true ∧ Q (.int ((ys.countP fun z => eqV z y : Nat) : Int)) H
theorem countP_vals {y : V} : ∀ {xs : List V} {us : List Value}, Vals xs us → xs.all flatV = true → us.countP (eqU y) = xs.countP fun z => eqV z y
  | _, _, .nil, _ => rfl
  | x :: xs, u :: us, .cons r t, f => by
    rw [List.all_cons, Bool.and_eq_true] at f
    rw [List.countP_cons, List.countP_cons, countP_vals t f.2, eqU_of r f.1]
theorem mt_countT : MtR X "tuple.count" (rCountT X.K) := by
  intro pins s σ H x xs v us Q I rx rxs h
  obtain ⟨a, ys, y, rfl, rfl, hs, fy, fys, q⟩ := h
  cases rx
  cases rxs with
  | cons ry rt =>
    rename_i uy ut
    cases rt
    obtain ⟨its, rv, ⟨o, ho, hc, n, hd⟩, hlen⟩ := I.tuple hs
    obtain ⟨cls, dd, data, sl⟩ := o
    replace hc : cls = _ := hc
    replace hd : data = _ := hd
    subst hc hd
    refine call_meets PySem.F.slot_tuple_count ⟨_, ho, rfl⟩ PySem.F.entry_tuple_count (PySem.F.args_tuple_count_2 _ _)
      (SeqAt.tuple_countAt a its.toArray n dd sl uy (eqU y)) ⟨ho, fun u' hu' => mem_eqAt ry fy rv fys u' (by simpa using hu'), ?_⟩
    have e1 : its.toArray.toList.countP (eqU y) = ys.countP fun z => eqV z y := by
      rw [List.toList_toArray]
      exact countP_vals rv fys
    rw [e1]
    exact ⟨.int ((ys.countP fun z => eqV z y : Nat) : Int), H, I.tok _, ⟨_, rfl⟩, q⟩
end


/-- the law's own run from an abstract heap that knows the script alone, where the promise may lean on the empty list of guards -/
theorem lawG {P : Program} {w : World} {K : PySem.W.Frag} {mg mb : Str → Option Value} {k : Nat} {fa a : Addr} {fd : FuncData} {x : Str} {sp : Sp} {s₁ : Shared} {vs : List Value} {ns : List Int}
    (KX : K.In s₁.heap) (hns : s₁.heap.Ns mainGlobals mg) (hb : s₁.heap.Ns builtinsNs mb) (hbb : ∀ x : Str, x ≠ "__name__" → mb x = bootBuiltins x) (hlim : s₁.heap.NoLimit) (hg : s₁.gens = #[])
    (ha : s₁.heap.get? a = some { cls := .type "list", data := .seq vs.toArray }) (hi : IntsAre vs ns) (hl : ns.length ≤ sizeLine) (hr : Room k callerA)
    (F : ∀ base : Heap, K.In base → base.Ns mainGlobals mg → FnG P w K mg base k fa fd [x] sp) (hbind : ∀ (s : Shared) (u : Value), BindsTo s fd ⟨[u], []⟩ [(x, u)])
    (hsp : ∀ H : Hp, Only H → SqL K H a (ns.map V.int) → sp [.ref a] H (fun v _ => v = .bl true) E0) :
    codeAny (model P w) callerA (.call (.ref fa) ⟨[.ref a], []⟩)
      (fun r s' => r = .ok (.ret (.bool true)) ∧ OldK s₁.heap s'.heap ∧ s'.os = s₁.os ∧ AllBare s'.gens) s₁ := by
  have rv := vals_ints hi
  have lenV := hi.length
  have core : ∀ H : Hp, Only H → SqL K H a (ns.map V.int) → HOk P w H s₁.heap → (∀ b, H b ≠ none → b = a) → (H a ≠ none → K.lookup a = none) →
      codeAny (model P w) callerA (.call (.ref fa) ⟨[.ref a], []⟩)
        (fun r s' => r = .ok (.ret (.bool true)) ∧ OldK s₁.heap s'.heap ∧ s'.os = s₁.os ∧ AllBare s'.gens) s₁ := by
    intro H hO hS hok hA hK
    have dicts : ∀ {b : Addr} {o : Obj} {es : Array DictEntry} {ep : Nat}, s₁.heap.get? b = some o → o.data = .dict es ep → H b = none := by
      intro b o es ep e d
      match q : H b with
      | none => rfl
      | some u =>
        have eb : b = a := hA b (by rw [q]; simp)
        rw [eb, ha] at e
        rw [← Option.some.inj e] at d
        cases (show Data.seq vs.toArray _ = Data.dict es ep from d)
    have ns' : ∀ {b : Addr} {m : Str → Option Value}, s₁.heap.Ns b m → (hidT s₁.heap H).Ns b m := by
      rintro b m ⟨o, es, ep, e, d, r⟩
      exact ⟨o, es, ep, hidT_get e (dicts e d), d, r⟩
    have inK : K.In (hidT s₁.heap H) := by
      intro b o e
      refine hidT_get (KX b o e) ?_
      match q : H b with
      | none => rfl
      | some u =>
        have eb : b = a := hA b (by rw [q]; simp)
        rw [eb, hK (by rw [← eb, q]; simp)] at e
        cases e
    have md : Mod K mg (hidT s₁.heap H) := by
      obtain ⟨mc, h1, h2⟩ := hlim
      exact ⟨inK, ns' hns, ⟨mb, ns' hb, hbb⟩, ⟨mc, ns' h1, h2⟩⟩
    have e0 : Env0 P w K mg (hidT s₁.heap H) callerA [] s₁ H := by
      refine ⟨rfl, md, fun b o e => of_hidT e, ?_, trivial, ?_, hok, .of_eq hg⟩
      · exact Nat.le_of_eq (hidT_size _ _)
      · exact fun b hb => absurd (show b ∈ ([] : List Addr) from hb) (by simp)
    have run := (F _ inK (ns' hns)).run callerA [] s₁ H ⟨[.ref a], []⟩ [.ref a] [.ref a] _ _ rfl hr e0 (hbind s₁ (.ref a)) (.cons rfl .nil) (hsp H hO hS)
    refine codeAny_mono run fun r s' h => ?_
    match r, h with
    | .error e, h => exact False.elim h
    | .ok .next, h => exact False.elim h
    | .ok .brk, h => exact False.elim h
    | .ok .cont, h => exact False.elim h
    | .ok (.ret u), h =>
      obtain ⟨v, H', os, bare, un, hok', r', q⟩ := h
      replace q : v = .bl true := q
      subst q
      obtain rfl : u = Value.bool true := r'
      refine ⟨rfl, OldK.of_keep ?_, os, bare⟩
      intro b o e
      match q : H b with
      | none => exact un.keep b o e q (fun z => absurd (show b ∈ ([] : List Addr) from z) (by simp)) (by simp)
      | some u =>
        rcases hO b with z | ⟨ob, xs, z⟩
        · rw [q] at z
          cases z
        · obtain ⟨e1, _⟩ := hok b _ z
          obtain ⟨e2, _⟩ := hok' b _ (un.frzs b ob _ z)
          rw [e] at e1
          rw [Option.some.inj e1]
          exact e2
  match hk : K.lookup a with
  | some o =>
    have e := KX a o hk
    rw [ha] at e
    have eo := Option.some.inj e
    subst eo
    refine core (fun _ => none) (fun _ => .inl rfl) (.inr ⟨_, vs.toArray, _, hk, rfl, rfl, rfl, ?_, by simpa using rv⟩) (fun b u z => ?_) (fun b z => absurd rfl z) fun z => absurd rfl z
    · rw [List.size_toArray, lenV]
      exact hl
    · cases (show (none : Option HO) = some u from z)
  | none =>
    let Hs : Hp := fun b => if b = a then some (.frz { cls := .type "list", data := .seq vs.toArray } (.lst (ns.map V.int))) else none
    have hs1 : Hs a = some (.frz { cls := .type "list", data := .seq vs.toArray } (.lst (ns.map V.int))) := if_pos rfl
    have hs2 : ∀ b, b ≠ a → Hs b = none := fun b hb => if_neg hb
    have hs3 : ∀ b, Hs b ≠ none → b = a := fun b z => Classical.byContradiction fun hb => z (hs2 b hb)
    refine core Hs (fun b => ?_) (.inl (.inr ⟨{ cls := .type "list", data := .seq vs.toArray }, hs1⟩)) (fun b u z => ?_) hs3 fun _ => hk
    · by_cases hb : b = a
      · exact .inr ⟨_, _, hb ▸ hs1⟩
      · exact .inl (hs2 b hb)
    · have eb : b = a := hs3 b (by rw [z]; simp)
      rw [eb, hs1] at z
      rw [← Option.some.inj z, eb]
      exact ⟨ha, by rw [List.length_map]; exact hl, vs, _, rv, ha⟩
/-- the goal that k_head leaves, from such a promise of the law -/
theorem walkG {l : PySem.W.OpenLaw} {n k : Nat} {q : Program} {loose : List Str} {XP : (Str → Option Value) → Heap → Prop} {YP : World → Heap → Prop} {d : DefRec} {K : Params → PySem.W.Frag} {sp : PySem.W.Frag → Sp} {x : Str}
    (hn : l.most = some n) (hn2 : n ≤ sizeLine) (hdf : d.params.defaults = []) (hr : Room k callerA)
    (hY : ∀ (w : World) (h : Heap), YP w h → (K w.params).In h)
    (F : ∀ (w : World) (mg : Str → Option Value) (fa : Addr) (h : Heap), (K w.params).In h → h.Ns mainGlobals mg → mg d.name = some (.ref fa) →
      ∃ fd : FuncData, (∀ (s : Shared) (u : Value), BindsTo s fd ⟨[u], []⟩ [(x, u)]) ∧
        ∀ base : Heap, (K w.params).In base → base.Ns mainGlobals mg → FnG l.prog w (K w.params) mg base k fa fd [x] (sp (K w.params)))
    (hsp : ∀ (K : PySem.W.Frag) (H : Hp) (a : Addr) (ns : List Int), ns.length ≤ n → (∀ z ∈ ns, Builtin.Int.intBits z ≤ 1048576) → Only H → SqL K H a (ns.map V.int) → sp K [.ref a] H (fun v _ => v = .bl true) E0) :
    PySem.W.WalkO q loose XP YP l.row.toRowW d [] (fun f vs => PySem.call f vs) := by
  refine Att.attach_callB hn hdf ?_
  intro w s₀ s₁ mg mb fa o pm cd doc a vs ns G Y ho hd hcd hmg hobj hints hlen hbits hg
  have KX := hY w _ Y
  obtain ⟨fd, hb, hF⟩ := F w mg fa _ KX G.T.g hmg
  exact lawG KX G.T.g G.T.b G.T.builtins G.T.nolimit hg hobj hints (Nat.le_trans hlen hn2) hr hF hb fun H hO hS => hsp (K w.params) H a ns hlen hbits hO hS


/-! ### tuples whose very object is known: they have no dict, so their methods may be called -/
def tyF (T : String) (x : V) (H : Hp) : Prop := ∃ p o u, x = .ref p ∧ H p = some (.frz o u) ∧ o.cls = .type T ∧ o.dict = none
def FT (H : Hp) (a : Addr) (xs : List V) : Prop := ∃ o, H a = some (.frz o (.tup xs)) ∧ o.cls = .type "tuple" ∧ o.dict = none
theorem FT.seq {K : PySem.W.Frag} {H : Hp} {a : Addr} {xs : List V} (h : FT H a xs) : SqT K H a xs := by
  obtain ⟨o, h, _⟩ := h
  exact .inl (.inr ⟨o, h⟩)
theorem FT.ty {H : Hp} {a : Addr} {xs : List V} (h : FT H a xs) : tyF "tuple" (.ref a) H := by
  obtain ⟨o, h, c, d⟩ := h
  exact ⟨a, o, _, rfl, h, c, d⟩
def tBMF (T : String) (r : V → List V → Hp → VK → Prop) (to : TE) (t : TA) : TE := fun σ H Q => to σ H fun x H1 => tyF T x H1 ∧ t σ H1 fun xs H2 => r x xs H2 Q
section
variable {X : Cx} {o e : Expr} {es : List Expr} {to : TE} {t : TA} {name : Str} {apos cpos pos : Pos} {T id : String} {r : V → List V → Hp → VK → Prop}
theorem pe_bmF (pa : PlainAttrs T) (slot : Slot T name id) (hty : typeOf (.builtin id) = pure (.type "method_descriptor")) (hm : MtR X id r) (ho : PE X o to) (ha : PA X (e :: es) t)
    (hbase : attributeBase o name X.env (eval o X.env) = eval o X.env := by rfl)
    (hfew : ((backTo cpos (starEach (e :: es) X.env)).all (fun x => !x.1) && (backToKw cpos (keywordEach [] X.env)).all (fun x => x.1.isSome)
      && decide ((e :: es).length + ([] : List Keyword).length + (if ([] : List Keyword).isEmpty then 0 else 1) < 30)) = true := by rfl)
    (hline : (apos.endLine == cpos.line) = true := by rfl) (hs : starEach (e :: es) X.env = (false, eval e X.env) :: starEach es X.env := by rfl) (hplain : (backTo cpos (starEach es X.env)).any (·.1) = false := by rfl) :
    PE X (.Call (.Attribute o name apos) (e :: es) [] cpos) (tBMF T r to t) := by
  constructor
  intro pins s σ H Q I h
  refine wpAny_Call_method_late hbase hfew hline rfl (thn (ho.run pins s σ H _ I h) ?_)
  rintro v s1 ⟨x, H1, I1, r1, ⟨p, ob, u, rfl, hp, hc, hd⟩, q1⟩
  cases r1
  have hob := (I1.hok p _ hp).1
  refine ⟨T, id, pa, slot, hty, ⟨ob, hob, hc⟩, ?_, ?_⟩
  · intro a ea
    cases ea
    exact ⟨ob, hob, hd⟩
  have hA := ha.run cpos pins s1 σ H1 _ I1 q1
  rw [hs] at hA ⊢
  refine Calls.callWith_builtin ?_ (Calls.evalArgs_plain (thn hA fun us s2 ⟨vs, H2, I2, r2, q2⟩ => hm pins s2 σ H2 (.ref p) vs (.ref p) us Q I2 (show RelV (.ref p) (.ref p) from rfl) r2 q2))
  show (false || (backTo cpos (starEach es X.env)).any (·.1)) = false
  rw [hplain, Bool.false_or]
theorem call_tupF : CallR X (.type "tuple") (fun xs H Q => ∃ p ys, xs = [.ref p] ∧ SqL X.K H p ys ∧ ∀ l o, H l = none → o.cls = .type "tuple" → o.dict = none → Q (.ref l) (upd H l (.frz o (.tup ys)))) := by
  intro pins s σ H xs us Q I r h
  obtain ⟨p, ys, rfl, hq, q⟩ := h
  rw [Vals.ref1 r]
  obtain ⟨its, r', pl, hz⟩ := I.list hq
  have hlen := r'.length
  refine call_tuple_list pl.isList (fun h' kp => ?_) (by simp only [List.size_toArray] <;> omega)
  have I1 : Inv X pins σ H { s with heap := h' } := I.kept (t' := s.toks) kp
  let ob : Obj := { cls := .type "tuple", data := .seq its.toArray }
  have I2 : Inv X pins σ (upd H h'.objs.size (.frz ob (.tup ys))) { s with heap := h'.push ob } :=
    I1.laid (t' := s.toks) (fun b o e => Heap.get?_push_of_some _ e) (Nat.le_refl _) ⟨Heap.get?_push_size _ rfl, hz, its, r', IsTup.new _ _⟩
  exact ⟨.ref h'.objs.size, _, I2, rfl, q _ ob (I1.hok.fresh (Nat.le_refl _)) rfl rfl⟩
def tTupF (t : TA) : TE := fun σ H Q => t σ H fun xs H1 => xs.length ≤ sizeLine ∧ ∀ p o, H1 p = none → o.cls = .type "tuple" → o.dict = none → Q (.ref p) (upd H1 p (.frz o (.tup xs)))
theorem pe_tupF {x1} (h : PA X es t) : PE X (.Tuple es x1 pos) (tTupF t) := by
  constructor
  intro pins s σ H Q I hq
  refine wpAny_Tuple_spliced (thn (h.run pos pins s σ H _ I hq) ?_)
  rintro us s1 ⟨xs, H1, I1, r, z, q⟩
  refine ⟨by rw [← r.length]; exact z, ?_⟩
  have hf : H1 s1.heap.objs.size = none := I1.hok.fresh (Nat.le_refl _)
  refine ⟨.ref s1.heap.objs.size, upd H1 s1.heap.objs.size (.frz { cls := .type "tuple", data := .seq us.toArray } (.tup xs)), I1.laid (t' := s1.toks) (fun b u e => Heap.get?_push_of_some _ e) (Nat.le_refl _) ?_, rfl, q _ _ hf rfl rfl⟩
  exact ⟨Heap.get?_push_size _ rfl, z, us, r, ⟨_, Heap.get?_push_size _ rfl, rfl, _, rfl⟩⟩
end

/-! ### what an update of the list at a place leaves, for the reading of o[i] op= e -/
def rGetL (K : PySem.W.Frag) : V → V → Hp → VK → Prop := fun o i H Q => ∃ p xs k v, o = .ref p ∧ i = .int k ∧ SqL K H p xs ∧ atI xs k = some v ∧ Q v H

/-! ### steps of a reading -/
abbrev SS := L2.St
section
variable {K : PySem.W.Frag} {σ : SS} {H H' : Hp} {Q : VK} {QB : Bool → Hp → Prop} {QA : List V → Hp → Prop} {QS : SS → Hp → Prop} {x y v : V} {ta tb te : TE} {tt tu : TT} {t : TA} {xs : List V} {p : Addr} {i j : Int} {n : Nat}
theorem x_var (h : σ[n]? = some (some v)) (q : Q v H) : tVar n σ H Q := ⟨v, h, q⟩
theorem x_c (q : Q v H) : tC v σ H Q := q
theorem x_op {r : R2} (q : ta σ H fun x H1 => tb σ H1 fun y H2 => r x y H2 Q) : tOp r ta tb σ H Q := q
theorem x_un {r : V → Hp → VK → Prop} (q : ta σ H fun x H1 => r x H1 Q) : tUn r ta σ H Q := q
theorem x_I0 {g : Int → Int → V} (q : Q (g i j) H) : rI0 g (.int i) (.int j) H Q := ⟨i, j, rfl, rfl, q⟩
theorem x_I {C : Int → Int → Prop} {g : Int → Int → V} (c : C i j) (q : Q (g i j) H) : rI C g (.int i) (.int j) H Q := ⟨i, j, rfl, rfl, c, q⟩
theorem x_U {g : Int → V} (q : Q (g i) H) : rU g (.int i) H Q := ⟨i, rfl, q⟩
theorem x_eq (s : scal x y = true) (q : Q (.bl (decide (x = y))) H) : rEq x y H Q := ⟨s, q⟩
theorem x_ne (s : scal x y = true) (q : Q (.bl (!decide (x = y))) H) : rNe x y H Q := ⟨s, q⟩
theorem x_isN (q : Q (.bl (decide (x = .non))) H) : rIsN x .non H Q := ⟨rfl, q⟩
theorem x_notN (q : Q (.bl (!decide (x = .non))) H) : rNotN x .non H Q := ⟨rfl, q⟩
theorem x_ixL (h : SqL K H p xs) (a : atI xs i = some v) (q : Q v H) : rIxL K (.ref p) (.int i) H Q := ⟨p, xs, i, v, rfl, rfl, h, a, q⟩
theorem x_ixT (h : SqT K H p xs) (a : atI xs i = some v) (q : Q v H) : rIxT K (.ref p) (.int i) H Q := ⟨p, xs, i, v, rfl, rfl, h, a, q⟩
theorem x_nil (q : QA [] H) : tNil σ H QA := q
theorem x_cons {tr : TA} (q : ta σ H fun x H1 => tr σ H1 fun xs H2 => QA (x :: xs) H2) : tCons ta tr σ H QA := q
theorem x_lst (q : t σ H fun xs H1 => xs.length ≤ sizeLine ∧ ∀ p, H1 p = none → Q (.ref p) (upd H1 p (.lst xs))) : tLst t σ H Q := q
theorem x_tup (q : t σ H fun xs H1 => xs.length ≤ sizeLine ∧ ∀ p, H1 p = none → Q (.ref p) (upd H1 p (.tup xs))) : tTup t σ H Q := q
theorem x_tupF (q : t σ H fun xs H1 => xs.length ≤ sizeLine ∧ ∀ p o, H1 p = none → o.cls = .type "tuple" → o.dict = none → Q (.ref p) (upd H1 p (.frz o (.tup xs)))) : tTupF t σ H Q := q
theorem x_CB {r : List V → Hp → VK → Prop} (q : t σ H fun vs H1 => r vs H1 Q) : tCB r t σ H Q := q
theorem x_call {sp : Sp} {E : XK} (q : t σ H fun vs H1 => sp (vs ++ []) H1 Q E) : tCall sp [] E t σ H Q := q
theorem x_test (q : te σ H fun x H' => ∃ k, x = .bl k ∧ QB k H') : tTest te σ H QB := q
theorem x_bl {b : Bool} {R : Bool → Prop} (q : R b) : ∃ k, V.bl b = .bl k ∧ R k := ⟨b, rfl, q⟩
theorem x_B (q : te σ H fun x H1 => ∃ c, x = .bl c ∧ QB c H1) : tB te σ H QB := q
theorem x_andV (q : ta σ H fun x H1 => ∃ c, x = .bl c ∧ if c = true then tb σ H1 Q else Q (.bl false) H1) : tAndV ta tb σ H Q := q
theorem x_orV (q : ta σ H fun x H1 => ∃ c, x = .bl c ∧ if c = true then Q (.bl true) H1 else tb σ H1 Q) : tOrV ta tb σ H Q := q
theorem x_notV (q : ta σ H fun x H1 => ∃ c, x = .bl c ∧ Q (.bl (!c)) H1) : tNotV ta σ H Q := q
theorem x_and (q : tt σ H fun c H1 => if c = true then tu σ H1 QB else QB false H1) : tAnd tt tu σ H QB := q
theorem x_or (q : tt σ H fun c H1 => if c = true then QB true H1 else tu σ H1 QB) : tOr tt tu σ H QB := q
theorem x_not (q : tt σ H fun c H1 => QB (!c) H1) : tNot tt σ H QB := q
theorem x_if (q : tt σ H fun c H1 => if c = true then ta σ H1 Q else tb σ H1 Q) : tIf tt ta tb σ H Q := q
theorem x_sl {r : V → Option Int → Option Int → Hp → VK → Prop} {tl th : TO} (q : te σ H fun x H1 => tl σ H1 fun l H2 => th σ H2 fun u H3 => r x l u H3 Q) : tSl r te tl th σ H Q := q
theorem x_no {QO : Option Int → Hp → Prop} (q : QO none H) : tNoPart σ H QO := q
theorem x_part {QO : Option Int → Hp → Prop} (q : te σ H fun x H1 => ∃ i, x = .int i ∧ QO (some i) H1) : tPart te σ H QO := q
theorem x_int {R : Int → Prop} (q : R i) : ∃ k, V.int i = .int k ∧ R k := ⟨i, rfl, q⟩
theorem x_slL {lo hi : Option Int} (h : SqL K H p xs) (q : ∀ a, H a = none → Q (.ref a) (upd H a (.lst (cutV xs lo hi)))) : rSlL K (.ref p) lo hi H Q := ⟨p, xs, rfl, h, q⟩
/- statements: the ends written out -/
variable {nx bk ct : SS → Hp → Prop} {rt : VK} {s1 s2 : TS} {g : TG}
theorem x_seq (q : s1 ⟨s2 ⟨nx, rt, bk, ct⟩, rt, bk, ct⟩ σ H) : tSeq s1 s2 ⟨nx, rt, bk, ct⟩ σ H := q
theorem x_next (q : nx σ H) : tNext ⟨nx, rt, bk, ct⟩ σ H := q
theorem x_brk (q : bk σ H) : tBreak ⟨nx, rt, bk, ct⟩ σ H := q
theorem x_cont (q : ct σ H) : tCont ⟨nx, rt, bk, ct⟩ σ H := q
theorem x_drop (q : te σ H fun _ H1 => nx σ H1) : tDrop te ⟨nx, rt, bk, ct⟩ σ H := q
theorem x_ret (q : te σ H rt) : tRet te ⟨nx, rt, bk, ct⟩ σ H := q
theorem x_retN (q : rt .non H) : tRetN ⟨nx, rt, bk, ct⟩ σ H := q
theorem x_asg (q : te σ H fun x H1 => g x σ H1 nx) : tAsg te g ⟨nx, rt, bk, ct⟩ σ H := q
theorem x_name (q : QS (σ.set n (some v)) H) : gName n v σ H QS := q
theorem x_gtup {m : Nat} {u : TGs} (h : SqT K H p xs) (l : xs.length = m) (q : u xs σ H QS) : gTup K m u (.ref p) σ H QS := ⟨p, xs, rfl, h, l, q⟩
theorem x_gnil (q : QS σ H) : gNil [] σ H QS := ⟨rfl, q⟩
theorem x_gcons {u : TGs} (q : g v σ H fun σ' H' => u xs σ' H' QS) : gCons g u (v :: xs) σ H QS := ⟨v, xs, rfl, q⟩
theorem x_gsub {to ti : TE} {s : TSet} (q : to σ H fun o H1 => ti σ H1 fun i H2 => s o i v H2 fun H3 => QS σ H3) : gSub to ti s v σ H QS := q
theorem x_setL {QH : Hp → Prop} {k : Nat} (h : H p = some (.lst xs)) (a : ixN xs.length i = some k) (q : QH (upd H p (.lst (xs.set k v)))) : rSetL (.ref p) (.int i) v H QH := ⟨p, xs, i, k, rfl, rfl, h, a, q⟩
theorem x_par {k m : Nat} (q : t σ H fun vs H1 => ∃ v w, vs = [v, w] ∧ nx ((σ.set k (some v)).set m (some w)) H1) : tPar k m t ⟨nx, rt, bk, ct⟩ σ H := q
theorem x_two {R : V → V → Prop} (q : R x y) : ∃ v w, [x, y] = [v, w] ∧ R v w := ⟨x, y, rfl, q⟩
theorem x_ifS {c : TT} (q : c σ H fun b H1 => if b = true then s1 ⟨nx, rt, bk, ct⟩ σ H1 else s2 ⟨nx, rt, bk, ct⟩ σ H1) : tIfS c s1 s2 ⟨nx, rt, bk, ct⟩ σ H := q
theorem x_aug {ti : TIp} (h : σ[n]? = some (some x)) (q : te σ H fun y H1 => ti x y H1 fun z H2 => nx (σ.set n (some z)) H2) : tAug n te ti ⟨nx, rt, bk, ct⟩ σ H := ⟨x, h, q⟩
theorem x_ipI {f : Int → Int → Int} (q : Q (.int (f i j)) H) : ipI f (.int i) (.int j) H Q := ⟨i, j, rfl, rfl, q⟩
theorem x_augS {to ti : TE} {tget : V → V → Hp → VK → Prop} {tip : TIp} {tset : TSet} (q : to σ H fun o H1 => ti σ H1 fun i H2 => tget o i H2 fun x H3 => te σ H3 fun y H4 => tip x y H4 fun z H5 => tset o i z H5 fun H6 => nx σ H6) : tAugS to ti te tget tip tset ⟨nx, rt, bk, ct⟩ σ H := q
/- built-ins -/
theorem x_lenS {R : List V → Prop} (h : SqL K H p xs) (q : R xs) : ∃ p' ys, [V.ref p] = [.ref p'] ∧ (SqL K H p' ys ∨ SqT K H p' ys) ∧ R ys := ⟨p, xs, rfl, .inl h, q⟩
theorem x_lenT {R : List V → Prop} (h : SqT K H p xs) (q : R xs) : ∃ p' ys, [V.ref p] = [.ref p'] ∧ (SqL K H p' ys ∨ SqT K H p' ys) ∧ R ys := ⟨p, xs, rfl, .inr h, q⟩
theorem x_abs {R : Int → Prop} (q : R i) : ∃ k, [V.int i] = [.int k] ∧ R k := ⟨i, rfl, q⟩
theorem x_toI {R : Int → Prop} {R' : Bool → Prop} (q : R i) : (∃ k, [V.int i] = [.int k] ∧ R k) ∨ ∃ k, [V.int i] = [.bl k] ∧ R' k := .inl ⟨i, rfl, q⟩
theorem x_toIb {R : Int → Prop} {R' : Bool → Prop} {b : Bool} (q : R' b) : (∃ k, [V.bl b] = [.int k] ∧ R k) ∨ ∃ k, [V.bl b] = [.bl k] ∧ R' k := .inr ⟨b, rfl, q⟩
theorem x_min2 {R : Int → Int → Prop} (q : R i j) : ∃ a b, [V.int i, V.int j] = [.int a, .int b] ∧ R a b := ⟨i, j, rfl, q⟩
theorem x_tupS {Q1 Q2 : Addr → List V → Prop} (h : SqL K H p xs) (q : Q1 p xs) : ∃ p' ys, [V.ref p] = [.ref p'] ∧ ((SqL K H p' ys ∧ Q1 p' ys) ∨ (SqT K H p' ys ∧ Q2 p' ys)) := ⟨p, xs, rfl, .inl ⟨h, q⟩⟩
theorem x_tupF1 {R : List V → Prop} (h : SqL K H p xs) (q : R xs) : ∃ p' ys, [V.ref p] = [.ref p'] ∧ SqL K H p' ys ∧ R ys := ⟨p, xs, rfl, h, q⟩
theorem x_insert {R : Addr → List V → Int → V → Prop} (h : H p = some (.lst xs)) (l : xs.length < sizeLine) (h0 : 0 ≤ i) (h1 : i < 2 ^ 63) (q : R p xs i v) :
    ∃ (l : Addr) (ys : List V) (k : Int) (y : V), V.ref p = .ref l ∧ [V.int i, v] = [.int k, y] ∧ H l = some (.lst ys) ∧ ys.length < sizeLine ∧ 0 ≤ k ∧ k < 2 ^ 63 ∧ R l ys k y := ⟨p, xs, i, v, rfl, rfl, h, l, h0, h1, q⟩
theorem x_bm {r : V → List V → Hp → VK → Prop} {T : String} (q : ta σ H fun x H1 => tyV K T x H1 ∧ t σ H1 fun xs H2 => r x xs H2 Q) : tBM K T r ta t σ H Q := q
theorem x_bm0 {r : V → List V → Hp → VK → Prop} {T : String} (q : ta σ H fun x H1 => tyV K T x H1 ∧ r x [] H1 Q) : tBM0 K T r ta σ H Q := q
theorem x_bmF {r : V → List V → Hp → VK → Prop} {T : String} (q : ta σ H fun x H1 => tyF T x H1 ∧ t σ H1 fun xs H2 => r x xs H2 Q) : tBMF T r ta t σ H Q := q
theorem ty_list (h : SqL K H p xs) : tyV K "list" (.ref p) H := .inl ⟨rfl, xs, h⟩
theorem x_append {Q : VK} (h : H p = some (.lst xs)) (l : xs.length < sizeLine) (q : Q .non (upd H p (.lst (xs ++ [v])))) : rAppend (.ref p) [v] H Q := ⟨p, xs, v, rfl, rfl, h, l, q⟩
theorem x_reverse {Q : VK} (h : H p = some (.lst xs)) (q : Q .non (upd H p (.lst xs.reverse))) : rReverse (.ref p) [] H Q := ⟨p, xs, rfl, rfl, h, q⟩
theorem x_lrg {Q : VK} {te : SS → Hp → (Int → Int → Hp → Prop) → Prop} (q : te σ H fun a b H1 => RgOk a b ∧ ∀ q, H1 q = none → Q (.ref q) (upd H1 q (.lst (rgV a b)))) : tLstRg te σ H Q := q
theorem x_rg1 {QR : Int → Int → Hp → Prop} (q : ta σ H fun x H1 => ∃ n, x = .int n ∧ QR 0 n H1) : tRg1 ta σ H QR := q
end
section
variable {K : PySem.W.Frag} {H : Hp} {Q : VK} {n : Nat}
theorem x_new {R : Addr → Prop} (z : n ≤ sizeLine) (q : ∀ p, H p = none → R p) : n ≤ sizeLine ∧ ∀ p, H p = none → R p := ⟨z, q⟩
theorem x_newF {R : Addr → Obj → Prop} (z : n ≤ sizeLine) (q : ∀ p (o : Obj), H p = none → o.cls = .type "tuple" → o.dict = none → R p o) : n ≤ sizeLine ∧ ∀ p (o : Obj), H p = none → o.cls = .type "tuple" → o.dict = none → R p o := ⟨z, q⟩
theorem x_iteT {A B : Prop} (q : A) : if true = true then A else B := iteT q
theorem x_iteF {A B : Prop} (q : B) : if false = true then A else B := iteF q
theorem dp_ints {a : Addr} : ∀ cs : List Int, DpAll K H (cs.map V.int) (cs.map PyData.int)
  | [] => .nil
  | z :: r => .cons (.int z) (dp_ints (a := a) r)
theorem lay_ints : ∀ cs : List Int, PyData.canLayAll0 (cs.map PyData.int) = true
  | [] => by simp only [List.map_nil, PyData.canLayAll0]
  | z :: r => by simp only [List.map_cons, PyData.canLayAll0, PyData.canLay0, lay_ints r, Bool.and_self]
theorem deep_ints : ∀ cs : List Int, PyData.depthAll (cs.map PyData.int) = 0
  | [] => by simp only [List.map_nil, PyData.depthAll]
  | z :: r => by simp [List.map_cons, PyData.depthAll, PyData.depth, deep_ints r]
theorem shaped_ints (cs : List Int) : SeqAt.shaped (.list (cs.map PyData.int)) = true := by
  unfold SeqAt.shaped
  simp [PyData.canLay0, PyData.depth, lay_ints, deep_ints]
theorem x_neNil {a b : Addr} {cs : List Int} (h : SqL K H a (cs.map V.int)) (hb : SqL K H b []) (q : Q (.bl (!cs.isEmpty)) H) : rNeD K (.ref a) (.ref b) H Q := by
  refine ⟨.list (cs.map PyData.int), .list [], .lst h (dp_ints (a := a) cs), .lst hb .nil, shaped_ints cs, shaped_ints [], ?_⟩
  have e : PyData.eqv (.list (cs.map PyData.int)) (.list []) = cs.isEmpty := by
    cases cs <;> simp [PyData.eqv, PyData.eqvAll]
  rw [e]
  exact q
end
theorem natAbs_lt {i : Int} {n : Nat} (h : -(n : Int) < i) (h2 : i < n) : i.natAbs < n := by omega
/- looking up -/
theorem boot'_len : bootBuiltins "len" = some (.builtin "len") := by decide +kernel
theorem boot'_abs : bootBuiltins "abs" = some (.builtin "abs") := by decide +kernel
theorem boot'_int : bootBuiltins "int" = some (.type "int") := by decide +kernel
theorem boot'_bool : bootBuiltins "bool" = some (.type "bool") := by decide +kernel
theorem boot'_list : bootBuiltins "list" = some (.type "list") := by decide +kernel
theorem boot'_tuple : bootBuiltins "tuple" = some (.type "tuple") := by decide +kernel
theorem boot'_str : bootBuiltins "str" = some (.type "str") := by decide +kernel
theorem boot'_min : bootBuiltins "min" = some (.builtin "min") := by decide +kernel
theorem boot'_max : bootBuiltins "max" = some (.builtin "max") := by decide +kernel
theorem boot'_sum : bootBuiltins "sum" = some (.builtin "sum") := by decide +kernel
theorem boot'_any : bootBuiltins "any" = some (.builtin "any") := by decide +kernel
theorem boot'_all : bootBuiltins "all" = some (.builtin "all") := by decide +kernel
theorem boot'_repr : bootBuiltins "repr" = some (.builtin "repr") := by decide +kernel
theorem boot'_sorted : bootBuiltins "sorted" = some (.builtin "sorted") := by decide +kernel
theorem boot'_isinstance : bootBuiltins "isinstance" = some (.builtin "isinstance") := by decide +kernel
theorem boot'_range : bootBuiltins "range" = some (.type "range") := by decide +kernel
theorem boot'_enumerate : bootBuiltins "enumerate" = some (.type "enumerate") := by decide +kernel
theorem boot'_set : bootBuiltins "set" = some (.type "set") := by decide +kernel
theorem x_start {t : TS} {D : Ends} {σ σ' : SS} {H : Hp} (e : σ = σ') (q : t D σ' H) : t D σ H := e ▸ q

theorem lk_ne {H : Hp} {p q : Addr} {o u : HO} (h : H q = some u) (n : H p = none) : upd H p o q = some u := (upd_ne (ne_of_none h n)).trans h
theorem lk_ne2 {H : Hp} {p q : Addr} {o u : HO} (hne : q ≠ p) (h : H q = some u) : upd H p o q = some u := (upd_ne hne).trans h
/-- all but what stands in S is kept -/
def Kx (S : List Addr) (H H' : Hp) : Prop := ∀ b o, b ∉ S → H b = some o → H' b = some o
theorem Kx.refl (S : List Addr) (H : Hp) : Kx S H H := fun _ _ _ h => h
theorem Kx.trans {S : List Addr} {H H1 H2 : Hp} (a : Kx S H H1) (b : Kx S H1 H2) : Kx S H H2 := fun c o n h => b c o n (a c o n h)
theorem Kx.new {S : List Addr} {H H1 : Hp} {p : Addr} {o : HO} (a : Kx S H H1) (n : H1 p = none) : Kx S H (upd H1 p o) := fun b u hb h => lk_ne (a b u hb h) n
theorem Kx.fresh {S : List Addr} {H H1 : Hp} {p : Addr} (a : Kx S H H1) (hp : p ∉ S) (n : H1 p = none) : H p = none := by
  cases q : H p with
  | none => rfl
  | some o => rw [a p o hp q] at n; cases n
/-- a write at a thing that H did not know, or that S bears -/
theorem Kx.wr {S : List Addr} {H H1 : Hp} {p : Addr} {o : HO} (a : Kx S H H1) (n : H p = none ∨ p ∈ S) : Kx S H (upd H1 p o) := fun b u hb h => by
  have nb : b ≠ p := by
    rcases n with n | n
    · exact ne_of_none h n
    · exact fun e => hb (e ▸ n)
  rw [upd_ne nb]
  exact a b u hb h
theorem Kx.mono {S T : List Addr} {H H' : Hp} (a : Kx S H H') (h : ∀ b ∈ S, b ∈ T) : Kx T H H' := fun b o n e => a b o (fun z => n (h b z)) e
theorem lk_keep {S : List Addr} {H H' : Hp} {q : Addr} {u : HO} (k : Kx S H H') (hq : q ∉ S) (h : H q = some u) : H' q = some u := k q u hq h
theorem Kx.sqT {S : List Addr} {K : PySem.W.Frag} {H H' : Hp} {a : Addr} {xs : List V} (k : Kx S H H') (n : a ∉ S) (h : SqT K H a xs) : SqT K H' a xs := by
  rcases h with (h | ⟨o, h⟩) | h
  · exact .inl (.inl (k _ _ n h))
  · exact .inl (.inr ⟨o, k _ _ n h⟩)
  · exact .inr h
theorem Kx.sqL {S : List Addr} {K : PySem.W.Frag} {H H' : Hp} {a : Addr} {xs : List V} (k : Kx S H H') (n : a ∉ S) (h : SqL K H a xs) : SqL K H' a xs := by
  rcases h with (h | ⟨o, h⟩) | h
  · exact .inl (.inl (k _ _ n h))
  · exact .inl (.inr ⟨o, k _ _ n h⟩)
  · exact .inr h
theorem Kx.same {H H' : Hp} (h : Same H H') (S : List Addr) : Kx S H H' := fun b o _ e => h b o e


/-! ### loops and comprehensions: what each asks, by a word Pv of the turn -/
section
variable {K : PySem.W.Frag} {σ : SS} {H : Hp} {Q : VK} {nx bk ct : SS → Hp → Prop} {rt : VK} {g : TG} {tb : TS} {tl te : TE} {ta : TA} {tt : TT} {vs : List Nat}
/-- the asking of a for over n turns that give what Y tells while G holds -/
def AskF (n : Nat) (G : Hp → Prop) (Y : Nat → Hp → V → Hp → Prop) (g : TG) (tb : TS) (nx : SS → Hp → Prop) (rt : VK) (σ : SS) (H : Hp) : Prop :=
  ∃ Pv : Nat → SS → Hp → Prop, Pv 0 σ H ∧ (∀ i σ H, i ≤ n → Pv i σ H → G H) ∧
    (∀ i x σ H H', i < n → Pv i σ H → Y i H x H' → g x σ H' fun σ2 H2 => tb ⟨Pv (i + 1), rt, nx, Pv (i + 1)⟩ σ2 H2) ∧ ∀ σ H, Pv n σ H → nx σ H
def AskC (n : Nat) (G : Hp → Prop) (Y : Nat → Hp → V → Hp → Prop) (g : TG) (tt : TT) (te : TE) (vs : List Nat) (σ : SS) (H : Hp) (Q : VK) : Prop :=
  ∀ D, H D = none → ∃ Pv : Nat → Hp → Prop, Pv 0 (upd H D (.lst [])) ∧ (∀ i H, i ≤ n → Pv i H → G H) ∧
    (∀ i x H H', i < n → Pv i H → Y i H x H' → g x (wipe σ vs) H' fun σ2 H2 => wipe σ2 vs = wipe σ vs ∧ tt σ2 H2 fun b H3 =>
      if b = true then te σ2 H3 fun y H4 => ∃ acc, H4 D = some (.lst acc) ∧ acc.length < sizeLine ∧ Pv (i + 1) (upd H4 D (.lst (acc ++ [y]))) else Pv (i + 1) H3) ∧ ∀ H, Pv n H → Q (.ref D) H
theorem askF {J : It} {n : Nat} {G : Hp → Prop} {Y : Nat → Hp → V → Hp → Prop} (w : Walk J n G Y) (q : AskF n G Y g tb nx rt σ H) :
    ∃ W : Nat → Nat → SS → Hp → Prop, (∃ m, W 0 m σ H) ∧ ∀ i m σ H, W i m σ H → (J.stop i H ∧ nx σ H) ∨
      (J.go i H ∧ ∃ N : SS → Hp → Prop, (∀ σ' H', N σ' H' → ∃ m', m' < m ∧ W (i + 1) m' σ' H') ∧ ∀ x H', J.yld i H x H' → g x σ H' fun σ2 H2 => tb ⟨N, rt, nx, N⟩ σ2 H2) := by
  obtain ⟨Pv, h0, h1, h2, h3⟩ := q
  exact for_it (D := ⟨nx, rt, fun _ _ => False, fun _ _ => False⟩) w Pv h0 h1 h2 h3
theorem askC {J : It} {n : Nat} {G : Hp → Prop} {Y : Nat → Hp → V → Hp → Prop} (w : Walk J n G Y) (q : AskC n G Y g tt te vs σ H Q) :
    ∀ D, H D = none → ∃ W : Nat → Nat → Hp → Prop, (∃ m, W 0 m (upd H D (.lst []))) ∧ ∀ i m H, W i m H → (J.stop i H ∧ Q (.ref D) H) ∨
      (J.go i H ∧ ∃ Nx : Hp → Prop, (∀ H', Nx H' → ∃ m', m' < m ∧ W (i + 1) m' H') ∧ ∀ x H', J.yld i H x H' → g x (wipe σ vs) H' fun σ2 H2 => wipe σ2 vs = wipe σ vs ∧ tt σ2 H2 fun b H3 =>
        if b = true then te σ2 H3 fun y H4 => ∃ acc, H4 D = some (.lst acc) ∧ acc.length < sizeLine ∧ Nx (upd H4 D (.lst (acc ++ [y]))) else Nx H3) := by
  intro D hD
  obtain ⟨Pv, h0, h1, h2, h3⟩ := q D hD
  exact lc_it w Pv h0 h1 h2 h3
abbrev YA (xs : List V) := YAt xs
abbrev YE (xs : List V) := YPair (fun i => some (.int (i : Nat))) (fun i => xs[i]?)
def WF (J : It) (g : TG) (tb : TS) (nx : SS → Hp → Prop) (rt : VK) (σ : SS) (H : Hp) : Prop := ∃ W : Nat → Nat → SS → Hp → Prop, (∃ m, W 0 m σ H) ∧ ∀ i m σ H, W i m σ H → (J.stop i H ∧ nx σ H) ∨
      (J.go i H ∧ ∃ N : SS → Hp → Prop, (∀ σ' H', N σ' H' → ∃ m', m' < m ∧ W (i + 1) m' σ' H') ∧ ∀ x H', J.yld i H x H' → g x σ H' fun σ2 H2 => tb ⟨N, rt, nx, N⟩ σ2 H2)
def WC (J : It) (g : TG) (tt : TT) (te : TE) (vs : List Nat) (σ : SS) (H : Hp) (Q : VK) : Prop := ∀ D, H D = none → ∃ W : Nat → Nat → Hp → Prop, (∃ m, W 0 m (upd H D (.lst []))) ∧ ∀ i m H, W i m H → (J.stop i H ∧ Q (.ref D) H) ∨
      (J.go i H ∧ ∃ Nx : Hp → Prop, (∀ H', Nx H' → ∃ m', m' < m ∧ W (i + 1) m' H') ∧ ∀ x H', J.yld i H x H' → g x (wipe σ vs) H' fun σ2 H2 => wipe σ2 vs = wipe σ vs ∧ tt σ2 H2 fun b H3 =>
        if b = true then te σ2 H3 fun y H4 => ∃ acc, H4 D = some (.lst acc) ∧ acc.length < sizeLine ∧ Nx (upd H4 D (.lst (acc ++ [y]))) else Nx H3)
theorem x_for {wi : TI} (q : wi σ H fun J H1 => WF J g tb nx rt σ H1) : tFor wi g tb ⟨nx, rt, bk, ct⟩ σ H := q
theorem x_lc {wi : TI} (q : wi σ H fun J H1 => WC J g tt te vs σ H1 Q) : tLc wi g tt te vs σ H Q := q
theorem x_yes {QB : Bool → Hp → Prop} (q : QB true H) : tYes σ H QB := q
theorem x_iL {R : It → Hp → Prop} (q : tl σ H fun x H1 => ∃ a, x = .ref a ∧ (∃ xs, SqL K H1 a xs) ∧ R (Itl K a) H1) : iList K tl σ H R := q
theorem x_iT {R : It → Hp → Prop} (q : tl σ H fun x H1 => ∃ a, x = .ref a ∧ (∃ xs, SqT K H1 a xs) ∧ R (Itt K a) H1) : iTup K tl σ H R := q
theorem x_iR1 {R : It → Hp → Prop} (q : ta σ H fun vs H1 => ∃ j : Int, vs = [.int j] ∧ -(2 ^ 62) ≤ j ∧ j < 2 ^ 62 ∧ R (Itr 0 j.toNat) H1) : iRng1 ta σ H R := q
theorem x_iR2 {R : It → Hp → Prop} (q : ta σ H fun vs H1 => ∃ i j : Int, vs = [.int i, .int j] ∧ (-(2 ^ 62) ≤ i ∧ i < 2 ^ 62 ∧ -(2 ^ 62) ≤ j ∧ j < 2 ^ 62) ∧ R (Itr i (j - i).toNat) H1) : iRng2 ta σ H R := q
theorem x_iE {R : It → Hp → Prop} (q : ta σ H fun vs H1 => ∃ a xs, vs = [.ref a] ∧ SqL K H1 a xs ∧ R (Ite K a) H1) : iEnum K ta σ H R := q
theorem x_iET {R : It → Hp → Prop} (q : ta σ H fun vs H1 => ∃ a xs, vs = [.ref a] ∧ SqT K H1 a xs ∧ R (IteT K a) H1) : iEnumT K ta σ H R := q
/- the asking, at the end of the walked thing's value -/
variable {a : Addr} {xs : List V}
theorem y_forL (h : SqL K H a xs) (q : AskF xs.length (fun H => SqL K H a xs) (YA xs) g tb nx rt σ H) : ∃ b, V.ref a = .ref b ∧ (∃ xs, SqL K H b xs) ∧ WF (Itl K b) g tb nx rt σ H := ⟨a, rfl, ⟨xs, h⟩, askF walk_list q⟩
theorem y_forT (h : SqT K H a xs) (q : AskF xs.length (fun H => SqT K H a xs) (YA xs) g tb nx rt σ H) : ∃ b, V.ref a = .ref b ∧ (∃ xs, SqT K H b xs) ∧ WF (Itt K b) g tb nx rt σ H := ⟨a, rfl, ⟨xs, h⟩, askF walk_tup q⟩
theorem y_forR1 {j : Int} (h0 : 0 ≤ j) (h1 : j < 1000000) (q : AskF j.toNat (fun _ => True) (YFn fun i => .int (0 + i)) g tb nx rt σ H) : -(2 ^ 62) ≤ j ∧ j < 2 ^ 62 ∧ WF (Itr 0 j.toNat) g tb nx rt σ H :=
  ⟨by omega, by omega, askF walk_range q⟩
theorem y_forR2 {i j : Int} (h0 : -1000000 < i) (h1 : i < 1000000) (h2 : -1000000 < j) (h3 : j < 1000000) (q : AskF (j - i).toNat (fun _ => True) (YFn fun k => .int (i + k)) g tb nx rt σ H) : (-(2 ^ 62) ≤ i ∧ i < 2 ^ 62 ∧ -(2 ^ 62) ≤ j ∧ j < 2 ^ 62) ∧ WF (Itr i (j - i).toNat) g tb nx rt σ H :=
  ⟨⟨by omega, by omega, by omega, by omega⟩, askF walk_range q⟩
theorem y_forE (h : SqL K H a xs) (q : AskF xs.length (fun H => SqL K H a xs) (YE xs) g tb nx rt σ H) : ∃ b ys, [V.ref a] = [.ref b] ∧ SqL K H b ys ∧ WF (Ite K b) g tb nx rt σ H := ⟨a, xs, rfl, h, askF walk_enum q⟩
theorem y_forET (h : SqT K H a xs) (q : AskF xs.length (fun H => SqT K H a xs) (YE xs) g tb nx rt σ H) : ∃ b ys, [V.ref a] = [.ref b] ∧ SqT K H b ys ∧ WF (IteT K b) g tb nx rt σ H := ⟨a, xs, rfl, h, askF walk_enumT q⟩
theorem y_lcL (h : SqL K H a xs) (q : AskC xs.length (fun H => SqL K H a xs) (YA xs) g tt te vs σ H Q) : ∃ b, V.ref a = .ref b ∧ (∃ xs, SqL K H b xs) ∧ WC (Itl K b) g tt te vs σ H Q := ⟨a, rfl, ⟨xs, h⟩, askC walk_list q⟩
theorem y_lcT (h : SqT K H a xs) (q : AskC xs.length (fun H => SqT K H a xs) (YA xs) g tt te vs σ H Q) : ∃ b, V.ref a = .ref b ∧ (∃ xs, SqT K H b xs) ∧ WC (Itt K b) g tt te vs σ H Q := ⟨a, rfl, ⟨xs, h⟩, askC walk_tup q⟩
theorem y_lcR1 {j : Int} (h0 : 0 ≤ j) (h1 : j < 1000000) (q : AskC j.toNat (fun _ => True) (YFn fun i => .int (0 + i)) g tt te vs σ H Q) : -(2 ^ 62) ≤ j ∧ j < 2 ^ 62 ∧ WC (Itr 0 j.toNat) g tt te vs σ H Q :=
  ⟨by omega, by omega, askC walk_range q⟩
theorem y_lcE (h : SqL K H a xs) (q : AskC xs.length (fun H => SqL K H a xs) (YE xs) g tt te vs σ H Q) : ∃ b ys, [V.ref a] = [.ref b] ∧ SqL K H b ys ∧ WC (Ite K b) g tt te vs σ H Q := ⟨a, xs, rfl, h, askC walk_enum q⟩
theorem y_lcET (h : SqT K H a xs) (q : AskC xs.length (fun H => SqT K H a xs) (YE xs) g tt te vs σ H Q) : ∃ b ys, [V.ref a] = [.ref b] ∧ SqT K H b ys ∧ WC (IteT K b) g tt te vs σ H Q := ⟨a, xs, rfl, h, askC walk_enumT q⟩
end

/-! ### the same rules where the block's own K is told from outside -/
section
variable {X : Cx} {K : PySem.W.Frag}
theorem ix_listK (e : X.K = K := by rfl) : IxR X (rIxL K) := e ▸ ix_list
theorem ix_tupK (e : X.K = K := by rfl) : IxR X (rIxT K) := e ▸ ix_tup
theorem sl_listK (e : X.K = K := by rfl) : SlR X (rSlL K) := e ▸ sl_list
theorem call_lenK (e : X.K = K := by rfl) : CallR X (.builtin "len") (fun xs H Q => ∃ p ys, xs = [.ref p] ∧ (SqL K H p ys ∨ SqT K H p ys) ∧ Q (.int ys.length) H) := e ▸ call_len_seq
theorem call_tupFK (e : X.K = K := by rfl) : CallR X (.type "tuple") (fun xs H Q => ∃ p ys, xs = [.ref p] ∧ SqL K H p ys ∧ ∀ l o, H l = none → o.cls = .type "tuple" → o.dict = none → Q (.ref l) (upd H l (.frz o (.tup ys)))) := e ▸ call_tupF
theorem call_tuple_ofK (e : X.K = K := by rfl) : CallR X (.type "tuple") (fun xs H Q => ∃ p ys, xs = [.ref p] ∧ ((SqL K H p ys ∧ ∀ l, H l = none → Q (.ref l) (upd H l (.tup ys))) ∨ (SqT K H p ys ∧ Q (.ref p) H))) := e ▸ call_tuple_of
theorem call_list_ofK (e : X.K = K := by rfl) : CallR X (.type "list") (fun xs H Q => ∃ p ys, xs = [.ref p] ∧ (SqL K H p ys ∨ SqT K H p ys) ∧ ∀ l, H l = none → Q (.ref l) (upd H l (.lst ys))) := e ▸ call_list_of
theorem mt_countTK (e : X.K = K := by rfl) : MtR X "tuple.count" (rCountT K) := e ▸ mt_countT
theorem op_in_seqK (e : X.K = K := by rfl) : OpR X (compareOp .In) (rIn K false) := e ▸ op_in_seq
theorem op_notIn_seqK (e : X.K = K := by rfl) : OpR X (compareOp .NotIn) (rIn K true) := e ▸ op_notIn_seq
theorem pg_tupK {es : List Expr} {k : Nat} {pos : Pos} {t : TGs} {n : Nat} (e : X.K = K) (hc : X.calm = true) (h : PGs X es t)
    (hn : (assignEach es X.env).length = n := by rfl) (hst : (assignEach es X.env).findIdx? (·.1) = none := by rfl) : PG X (.Tuple es k pos) (gTup K n t) := e ▸ pg_tup hc h hn hst
end

/-! ### comprehensions whose turn gives one value f i, the heap but for what is new as it was -/
theorem cut63 (xs : List V) : cutV xs none (some 63) = xs.take 63 := by
  unfold cutV
  rw [HT.sIx_none, show HT.sIx xs.length xs.length (some 63) = min 63 xs.length from HT.sIx_nat xs.length xs.length 63]
  show List.take (min 63 xs.length - 0) (List.drop 0 xs) = _
  rw [Nat.sub_zero, List.drop_zero]
  rcases Nat.le_total 63 xs.length with h | h
  · rw [Nat.min_eq_left h]
  · rw [Nat.min_eq_right h, List.take_length, List.take_of_length_le h]


section
variable {X : Cx}
theorem get_list : PGet X (rGetL X.K) := by
  intro pins s σ H o i ov iv Q I ro ri h
  obtain ⟨p, xs, k, v, rfl, rfl, hq, he, q⟩ := h
  cases ro
  obtain ⟨t, rfl⟩ := ri
  obtain ⟨its, r, pl, hz⟩ := I.list hq
  obtain ⟨j, h1, h2, h3, h4, h5⟩ := atI_get he
  obtain ⟨w, ew, rw'⟩ := r.get h2
  have hl := r.length
  have hn := line63
  by_cases h0 : 0 ≤ k
  · have hj : k.toNat = j := by
      rw [seqIndex_of h0 h5] at h1
      exact Option.some.inj h1
    exact wpAny_getItem_list pl.isList h0 (by omega) (by rw [hj]; simpa using ew) ⟨v, H, I, rw', q⟩
  · have hj : (k + (its.toArray.size : Int)).toNat = j := by
      rw [seqIndex_neg (by omega) h4] at h1
      rw [List.size_toArray, ← hl]
      exact Option.some.inj h1
    exact wpAny_getItem_list_neg pl.isList (by omega) (by rw [List.size_toArray] <;> omega) (by omega) (by rw [hj]; simpa using ew) ⟨v, H, I, rw', q⟩
end
section
variable {K : PySem.W.Frag} {σ : SS} {H : Hp} {Q : VK} {v : V} {p : Addr} {xs : List V} {i : Int}
theorem x_getL (h : SqL K H p xs) (a : atI xs i = some v) (q : Q v H) : rGetL K (.ref p) (.int i) H Q := ⟨p, xs, i, v, rfl, rfl, h, a, q⟩
theorem x_rep {k : Int} {l : Addr} (h : H l = some (.lst xs)) (h0 : 0 ≤ k) (h1 : k < 1000000) (z : xs.length * k.toNat ≤ sizeLine) (q : ∀ p, H p = none → Q (.ref p) (upd H p (.lst (List.replicate k.toNat xs).flatten))) : rRep (.ref l) (.int k) H Q :=
  ⟨l, k, xs, rfl, rfl, h, by omega, by omega, z, q⟩
theorem x_sum {a : Addr} {ns : List Int} (h : SqL K H a (ns.map V.int)) (q : Q (.int ns.sum) H) : rSum K [.ref a] H Q := ⟨a, ns, rfl, h, q⟩
theorem x_countT {a : Addr} {ys : List V} {y : V} (h : SqT K H a ys) (f : flatV y = true) (fs : ys.all flatV = true) (q : Q (.int ((ys.countP fun z => eqV z y : Nat) : Int)) H) : rCountT K (.ref a) [y] H Q := ⟨a, ys, y, rfl, rfl, h, f, fs, q⟩
end

/-! ### data whose repr is told -/
structure Good (d : PyData) (dep w : Nat) : Prop where
  sh : d.showable = true
  nd : d.hasDict = false
  dp : d.depth ≤ dep
  sl : d.leavesShort 13 = true
  wt : d.weight ≤ w
theorem Good.mono {d : PyData} {a b w v : Nat} (g : Good d a w) (h : a ≤ b) (h2 : w ≤ v) : Good d b v := ⟨g.sh, g.nd, Nat.le_trans g.dp h, g.sl, Nat.le_trans g.wt h2⟩
theorem Good.none : Good .none 0 0 := ⟨rfl, rfl, Nat.le_refl _, rfl, Nat.le_refl _⟩
theorem Good.bool (b : Bool) : Good (.bool b) 0 0 := ⟨rfl, rfl, Nat.le_refl _, rfl, Nat.le_refl _⟩
theorem Good.int {z : Int} (h : z.natAbs < 10 ^ 9) : Good (.int z) 0 31 := by
  have hl : z.natAbs.log2 < 30 := PySem.Flt.log2_lt_of (by decide) (Nat.lt_of_lt_of_le h (by decide))
  refine ⟨?_, rfl, Nat.le_refl _, ?_, ?_⟩
  · simp only [PyData.showable, decide_eq_true_eq]
    omega
  · simp only [PyData.leavesShort, PyData.shown]
    have := int_text_length_le10 (k := 9) (by decide) h
    refine decide_eq_true ?_
    show (Str.ofString (toString z)).length ≤ 13
    rw [PySem.ofString_length]
    omega
  · simp only [PyData.weight]
    split <;> omega
theorem good_all {k w : Nat} : ∀ {ds : List PyData}, (∀ d ∈ ds, Good d k w) → PyData.showableAll ds = true ∧ PyData.hasDictAll ds = false ∧ PyData.depthAll ds ≤ k ∧ PyData.leavesShortAll 13 ds = true ∧ PyData.weightAll ds ≤ ds.length * (w + 1)
  | [], _ => ⟨rfl, rfl, Nat.zero_le _, rfl, Nat.zero_le _⟩
  | d :: ds, h => by
    obtain ⟨a1, a2, a3, a4, a5⟩ := good_all (ds := ds) fun x hx => h x (List.mem_cons_of_mem _ hx)
    have g := h d List.mem_cons_self
    refine ⟨?_, ?_, ?_, ?_, ?_⟩
    · simp only [PyData.showableAll, g.sh, a1, Bool.and_self]
    · simp only [PyData.hasDictAll, g.nd, a2, Bool.or_self]
    · simp only [PyData.depthAll]
      exact Nat.max_le.mpr ⟨g.dp, a3⟩
    · simp only [PyData.leavesShortAll, g.sl, a4, Bool.and_self]
    · simp only [PyData.weightAll, List.length_cons, Nat.add_mul]
      have := g.wt
      omega
theorem Good.list {ds : List PyData} {k w n : Nat} (h : ∀ d ∈ ds, Good d k w) (hn : ds.length ≤ n) : Good (.list ds) (k + 1) (n * (w + 1)) := by
  obtain ⟨a1, a2, a3, a4, a5⟩ := good_all h
  exact ⟨by simpa only [PyData.showable] using a1, by simpa only [PyData.hasDict] using a2, by simp only [PyData.depth]; omega, by simpa only [PyData.leavesShort] using a4, by simp only [PyData.weight]; exact Nat.le_trans a5 (Nat.mul_le_mul_right _ hn)⟩
theorem Good.tuple {ds : List PyData} {k w n : Nat} (h : ∀ d ∈ ds, Good d k w) (hn : ds.length ≤ n) : Good (.tuple ds) (k + 1) (n * (w + 1)) := by
  obtain ⟨a1, a2, a3, a4, a5⟩ := good_all h
  exact ⟨by simpa only [PyData.showable] using a1, by simpa only [PyData.hasDict] using a2, by simp only [PyData.depth]; omega, by simpa only [PyData.leavesShort] using a4, by simp only [PyData.weight]; exact Nat.le_trans a5 (Nat.mul_le_mul_right _ hn)⟩
theorem x_repr {K : PySem.W.Frag} {H : Hp} {Q : VK} {a : Addr} {d : PyData} {k w : Nat} (h : Dp K H (.ref a) d) (g : Good d k w) (hk : k ≤ 60) (hw : w ≤ 2 ^ 20) (q : Q (.str d.shown) H) : rRepr K [.ref a] H Q :=
  ⟨a, d, rfl, h, g.sh, g.nd, Nat.le_trans g.dp hk, PyData.shown_fits (by decide) (by decide) g.sl (Nat.le_trans g.wt hw), q⟩
/- what stands at an address as data is kept -/
theorem Kx.rd {S : List Addr} {H H' : Hp} {a : Addr} {u : HO} (k : Kx S H H') (n : a ∉ S) (h : Rd H a u) : Rd H' a u := by
  rcases h with h | ⟨o, h⟩
  · exact .inl (k _ _ n h)
  · exact .inr ⟨o, k _ _ n h⟩
mutual
theorem dp_keep {K : PySem.W.Frag} {H H' : Hp} (k : Kx [] H H') : ∀ (d : PyData) (v : V), Dp K H v d → Dp K H' v d
  | .none, _, h => by cases h; exact .non
  | .bool b, _, h => by cases h; exact .bl b
  | .int i, _, h => by cases h; exact .int i
  | .str x, _, h => by cases h; exact .str x
  | .list ds, _, h => by
    cases h with
    | lst h1 h2 => exact .lst (k.sqL (by simp) h1) (dp_keepAll k ds _ h2)
  | .tuple ds, _, h => by
    cases h with
    | tup h1 h2 => exact .tup (k.sqT (by simp) h1) (dp_keepAll k ds _ h2)
  | .dict _, _, h => by cases h
theorem dp_keepAll {K : PySem.W.Frag} {H H' : Hp} (k : Kx [] H H') : ∀ (ds : List PyData) (vs : List V), DpAll K H vs ds → DpAll K H' vs ds
  | [], _, h => by cases h; exact .nil
  | d :: ds, _, h => by
    cases h with
    | cons h1 h2 => exact .cons (dp_keep k d _ h1) (dp_keepAll k ds _ h2)
end

section
variable {X : Cx}
/-- sorted(d) of a dict whose keys are ints -/
def rSortedD : List V → Hp → VK → Prop := fun xs H Q => ∃ (a : Addr) (kvs : List (Key × V)) (ks : List Int), xs = [.ref a] ∧ H a = some (.dK kvs) ∧ kvs.map (·.1) = ks.map Sum.inl ∧
    ∀ (ns : List Int) (p : Addr), ns.Perm ks → ns.Pairwise (· ≤ ·) → H p = none → Q (.ref p) (upd H p (.lst (ns.map V.int)))
theorem cr_sortedDI (hcalm : X.calm = true) : CallR X (.builtin "sorted") rSortedD := by
  intro pins s σ H xs us Q I r q
  obtain ⟨a, kvs, ks, ex, hd, hks, q⟩ := q
  subst ex
  obtain ⟨u, eu, rx⟩ := vals1 r
  subst eu
  cases rx
  obtain ⟨z, lo, vs, rel, dd⟩ := dk_of I.hok hd
  obtain ⟨ep, hat⟩ := dd.dictAt
  have hkeys : vs.map (·.1) = ks.map Sum.inl := rel.keys.symm.trans hks
  have hl : vs.length = ks.length := by
    have e := congrArg List.length hkeys
    rw [List.length_map, List.length_map] at e
    exact e
  have h16 : vs.length ≤ sizeLine := by rw [← rel.length]; exact z
  refine Calls.call_function_entry PyProof.Rows.kind_sorted PyProof.Rows.plain_sorted PyProof.Rows.entry_sorted (PyProof.Rows.args_sorted1 _) ?_
  unfold Builtin.«sorted»
  refine wpAny_bind (m := checkCount "sorted" 1 1 _) (wpAny_pure ?_)
  refine wpAny_bind (PySem.W.kdu_collect (A := X.A.in1) (PySem.W.kdl_dict (knd := mixKind X.prog X.w) (kvs := vs) (ep := ep) lo) (I.ok.hd hcalm) hat h16 fun h' tk acc hk hacc => ?_)
  have hal : acc.toList.length = ks.length := by rw [Array.length_toList, hacc.1, hl]
  have hv : Vals (ks.map V.int) acc.toList := vals_of_at (by rw [List.length_map, hal]) fun j x w h1 h2 => by
    obtain ⟨k, y, e1, e2⟩ := hacc.2 j w (by rw [← Array.getElem?_toList]; exact h2)
    have e3 : (vs.map (·.1))[j]? = some k := by rw [List.getElem?_map, e1]; all_goals rfl
    rw [hkeys, List.getElem?_map] at e3
    rw [List.getElem?_map] at h1
    cases e4 : ks[j]? with
    | none => rw [e4] at e3; cases e3
    | some i =>
      rw [e4] at e3 h1
      have e5 : Sum.inl i = k := Option.some.inj e3
      subst e5
      have e6 : V.int i = x := Option.some.inj h1
      subst e6
      exact keyIs_rel (k := .inl i) e2
  have hi := hv.ints
  have I1 : Inv X pins σ H { s with heap := h', toks := tk } := I.kept hk
  have hz : acc.toList.length ≤ sizeLine := by rw [hal, ← hl]; exact h16
  refine wpAny_bind (wpAny_newList ?_ hz)
  have hoL : (h'.push (PyProof.Rows.seqObj "list" acc.toList.toArray 0)).get? h'.objs.size = some (PyProof.Rows.seqObj "list" acc.toList.toArray 0) := Heap.get?_push_size _ rfl
  show wpAny _ _ _ _ _ { s with heap := h'.push (PyProof.Rows.seqObj "list" acc.toList.toArray 0), toks := tk }
  refine wpAny_bind (wpAny_holding (wpAny_call_entry PyProof.Rows.slot_list_sort ⟨_, hoL, rfl⟩ PyProof.Rows.entry_list_sort
    (SrtO.list_sort_ord SrtO.swo_int hoL hz (fun h2 => SrtO.ints_sortable hi h2) fun out h1 h2 => ⟨_, rfl, ?_⟩) (PyProof.Rows.args_list_sort _)))
  obtain ⟨k1, k2, k3⟩ := SrtO.ints_out hi h1 h2
  obtain ⟨e', he'⟩ := PyProof.Rows.sortedHeap_at (vs := acc.toList) (out := out.toArray) hoL
  have hlen : ((out.map SrtO.iv).map V.int).length ≤ sizeLine := by
    rw [List.length_map, k2.length_eq, ← hal]
    exact hz
  refine wpAny_pure ⟨_, rfl, .ref h'.objs.size, upd H h'.objs.size (.lst ((out.map SrtO.iv).map V.int)), I1.laid (t' := tk) (fun b u e => ?_) (Nat.le_refl _)
    (show ObjOk X.prog X.w _ _ _ (.lst ((out.map SrtO.iv).map V.int)) from ⟨hlen, out, e', vals_of_ints k1, he'⟩), rfl, q _ _ k2 k3 (I1.hok.fresh (Nat.le_refl _))⟩
  have hb : b < h'.objs.size := Heap.lt_size e
  rw [PyProof.Rows.sortedHeap_old (Nat.ne_of_lt hb) (by rw [size_push']; exact Nat.lt_succ_of_lt hb)]
  exact Heap.get?_push_of_some _ e
end

section
variable {X : Cx}
theorem sw_trueD {kx vx : Expr} {gs : List Comprehension} {scope : Scope} {pos py : Pos} {y : Str} {l : Nat} {env : Env} (hk : env.scope.kind = .function) (hy : env.scope.names.lookup y = some .local) (hl : (py.line == pos.line) = true)
    (ha : (scope.names.any fun (n, k) => n == y && (k == .local || k == .cell)) = false) : swapsWith (.DictComp kx vx gs scope pos) (some (.Name y py)) l env = pure true := by
  have ky : env.kindOf y = some .local := hy
  have hb : env.blockKind = .function := by unfold Env.blockKind; rw [hk]; rfl
  unfold swapsWith
  simp only [hb, ky, ha, Expr.pos, hl]
  rfl
theorem ps_setDc {i : Nat} {y : Str} {py : Pos} {kx vx tg iter : Expr} {ifs : List Expr} {scope : Scope} {own : List (Str × Nat)} {pos spos : Pos} {wi : TI} {g : TG} {tt : TT} {tk tv : TE} (hc : X.calm = true) (hN : X.N.Nodup) (hy : X.N[i]? = some y) (hyl : X.env.scope.names.lookup y = some .local)
    (hsw : swapsWith (.DictComp kx vx [⟨tg, iter, ifs, 0⟩] scope pos) (some (.Name y py)) spos.line X.env = pure true) (hi : PI X tg iter wi) (ok : BlkOk X.N X.env.scope scope own)
    (hg : ∀ (s : Shared) (H : Hp) (C : Addr) (cl : List (Str × Addr)) (fp : List Addr), PG (X.blk s H scope (compEnvC scope cl C X.env) fp) tg g) (ht : ∀ (s : Shared) (H : Hp) (C : Addr) (cl : List (Str × Addr)) (fp : List Addr), PTs (X.blk s H scope (compEnvC scope cl C X.env) fp) ifs tt)
    (hk : ∀ (s : Shared) (H : Hp) (C : Addr) (cl : List (Str × Addr)) (fp : List Addr), PE (X.blk s H scope (compEnvC scope cl C X.env) fp) kx tk)
    (he : ∀ (s : Shared) (H : Hp) (C : Addr) (cl : List (Str × Addr)) (fp : List Addr), PE (X.blk s H scope (compEnvC scope cl C X.env) fp) vx tv) (hs : ∀ x, foldedSetIterable iter X.env x = pure x := by intro _; rfl) :
    PS X (.Assign [.Name y py] (.DictComp kx vx [⟨tg, iter, ifs, 0⟩] scope pos) spos) (tAsg (tDc wi g tt tk tv (own.map (·.2))) (gName i)) := by
  refine ⟨fun pins s σ H D I h => ?_⟩
  rw [exec_Assign_Name_used _ _ _ _ hsw]
  refine wpAny_bind (wpAny_standAt (wpAny_bind ?_))
  show wpAny _ X.A (do let _ ← comprehension (.DictComp kx vx [⟨tg, iter, ifs, 0⟩] scope pos) scope X.env (firstIterPos [⟨tg, iter, ifs, 0⟩] pos) newDict false (eval iter X.env) (some (assign (.Name y py) X.env))) _ _ s
  have h : tDc wi g tt tk tv (own.map (·.2)) σ H (fun x H1 => gName i x σ H1 D.nx) := h
  refine wpAny_bind (thn (dc_core (Qf := fun _ s' => SP X pins D .next s') hc hN I hi ok hg ht hk he hs h fun L C s' m H' I' q hn f => ?_) fun _ s' hq => wpAny_pure (wpAny_pure hq))
  show wpAny _ _ (assign (.Name y py) X.env (.ref L)) _ _ _
  refine wpAny_assign_Name (store_ok2 (v := V.ref L) I' hN hy (.inl hyl) rfl (fun s2 I2 ⟨a, sb, ha⟩ => ?_) (.inr hyl))
  obtain ⟨f0, f1, f2, f3, f4, f5⟩ := f
  have haC : C ≠ a := by
    rcases ha with z | z
    · rw [z]; exact f1
    · exact fun e => f4 y a z e.symm
  refine ⟨m, hn.sameBut sb haC, fun h3 sb3 => ?_⟩
  exact ⟨_, H', I2.turned (t' := s2.toks) (fun b o hb e => (sb3.2 b hb).trans e) f0 f1 f3 f4 f5, q⟩
end
section
variable {K : PySem.W.Frag} {σ : SS} {H : Hp} {Q : VK} {QB : Bool → Hp → Prop} {nx bk ct : SS → Hp → Prop} {rt : VK} {g : TG} {tb : TS} {tl te tk tv td ty ta : TE} {tA : TA} {tt : TT} {vs : List Nat} {v : V} {a : Addr} {xs ys : List V}
def AskD (n : Nat) (G : Hp → Prop) (Y : Nat → Hp → V → Hp → Prop) (g : TG) (tt : TT) (tk tv : TE) (vs : List Nat) (σ : SS) (H : Hp) (Q : VK) : Prop :=
  ∀ D, H D = none → ∃ Pv : Nat → Hp → Prop, Pv 0 (upd H D (.dK [])) ∧ (∀ i H, i ≤ n → Pv i H → G H) ∧
    (∀ i x H H', i < n → Pv i H → Y i H x H' → g x (wipe σ vs) H' fun σ2 H2 => wipe σ2 vs = wipe σ vs ∧ tt σ2 H2 fun b H3 =>
      if b = true then tk σ2 H3 fun y H4 => tv σ2 H4 fun z H5 => ∃ kvs k, y = kV k ∧ H5 D = some (.dK kvs) ∧ kvs.length < sizeLine ∧ Pv (i + 1) (upd H5 D (.dK (putK kvs k z))) else Pv (i + 1) H3) ∧ ∀ H, Pv n H → Q (.ref D) H
def WD (J : It) (g : TG) (tt : TT) (tk tv : TE) (vs : List Nat) (σ : SS) (H : Hp) (Q : VK) : Prop := ∀ D, H D = none → ∃ W : Nat → Nat → Hp → Prop, (∃ m, W 0 m (upd H D (.dK []))) ∧ ∀ i m H, W i m H →
  (J.stop i H ∧ Q (.ref D) H) ∨ (J.go i H ∧ ∃ Nx : Hp → Prop, (∀ H', Nx H' → ∃ m', m' < m ∧ W (i + 1) m' H') ∧ ∀ x H', J.yld i H x H' → g x (wipe σ vs) H' fun σ2 H2 => wipe σ2 vs = wipe σ vs ∧ tt σ2 H2 fun b H3 =>
    if b = true then tk σ2 H3 fun y H4 => tv σ2 H4 fun z H5 => ∃ kvs k, y = kV k ∧ H5 D = some (.dK kvs) ∧ kvs.length < sizeLine ∧ Nx (upd H5 D (.dK (putK kvs k z))) else Nx H3)
theorem askD {J : It} {n : Nat} {G : Hp → Prop} {Y : Nat → Hp → V → Hp → Prop} (w : Walk J n G Y) (q : AskD n G Y g tt tk tv vs σ H Q) : WD J g tt tk tv vs σ H Q := by
  intro D hD
  obtain ⟨Pv, h0, hG, hs, hd⟩ := q D hD
  refine ⟨fun i m H => m = n - i ∧ i ≤ n ∧ Pv i H, ⟨n, by simp, Nat.zero_le _, h0⟩, ?_⟩
  rintro i m H ⟨rfl, hi, p⟩
  have qG := hG i H hi p
  by_cases hlt : i < n
  · exact .inr ⟨w.goes i H hlt qG, Pv (i + 1), fun H' p' => ⟨n - (i + 1), by omega, rfl, hlt, p'⟩, fun x H' y => hs i x H H' hlt p (w.yields i H x H' hlt qG y)⟩
  · have e : i = n := by omega
    subst e
    exact .inl ⟨w.stops H qG, hd H p⟩
theorem x_dc {wi : TI} (q : wi σ H fun J H1 => WD J g tt tk tv vs σ H1 Q) : tDc wi g tt tk tv vs σ H Q := q
theorem y_dcL (h : SqL K H a xs) (q : AskD xs.length (fun H => SqL K H a xs) (YA xs) g tt tk tv vs σ H Q) : ∃ b, V.ref a = .ref b ∧ (∃ xs, SqL K H b xs) ∧ WD (Itl K b) g tt tk tv vs σ H Q := ⟨a, rfl, ⟨xs, h⟩, askD walk_list q⟩
/-- a while, by a word of the names and the heap, and a measure -/
theorem x_while {c : TT} (q : ∃ W : Nat → SS → Hp → Prop, (∃ m, W m σ H) ∧ ∀ m σ H, W m σ H → c σ H fun b H1 => if b = true then ∃ N : SS → Hp → Prop, (∀ σ' H', N σ' H' → ∃ m', m' < m ∧ W m' σ' H') ∧ tb ⟨N, rt, nx, N⟩ σ H1 else nx σ H1) : tWhile c tb ⟨nx, rt, bk, ct⟩ σ H := q
theorem x_turn {m : Nat} {W : Nat → SS → Hp → Prop} (q : tb ⟨fun σ' H' => ∃ m', m' < m ∧ W m' σ' H', rt, nx, fun σ' H' => ∃ m', m' < m ∧ W m' σ' H'⟩ σ H) : ∃ N : SS → Hp → Prop, (∀ σ' H', N σ' H' → ∃ m', m' < m ∧ W m' σ' H') ∧ tb ⟨N, rt, nx, N⟩ σ H := ⟨_, fun _ _ h => h, q⟩
theorem x_truthL {R : Bool → Prop} (h : SqL K H a xs) (q : R (!xs.isEmpty)) : ∃ k, TruV K (.ref a) H k ∧ R k := ⟨_, .inl ⟨xs, h, rfl⟩, q⟩
theorem x_pop {Q : VK} {y : V} (h : H a = some (.lst xs)) (e : xs[xs.length - 1]? = some y) (q : Q y (upd H a (.lst xs.dropLast))) : rPop (.ref a) [] H Q := ⟨a, xs, y, rfl, rfl, h, e, q⟩
theorem x_din (q : ty σ H fun y H1 => td σ H1 fun x H2 => ∃ a o, x = .ref a ∧ DGet H2 a y o ∧ Q (.bl o.isSome) H2) : tDIn ty td σ H Q := q
theorem x_dnotin (q : ty σ H fun y H1 => td σ H1 fun x H2 => ∃ a o, x = .ref a ∧ DGet H2 a y o ∧ Q (.bl (!o.isSome)) H2) : tDNotIn ty td σ H Q := q
theorem x_dput (q : tv σ H fun v H1 => td σ H1 fun x H2 => ty σ H2 fun y H3 => ∃ a H4, x = .ref a ∧ DPut H3 a y v H4 ∧ nx σ H4) : sDPut td ty tv ⟨nx, rt, bk, ct⟩ σ H := q
theorem x_dget (q : td σ H fun x H1 => ty σ H1 fun y H2 => ∃ a v, x = .ref a ∧ DGet H2 a y (some v) ∧ Q v H2) : tDGet td ty σ H Q := q
theorem x_dgI {kvs : List (Key × V)} {i : Int} {R : Option V → Prop} (h : H a = some (.dK kvs)) (q : R (valV kvs (.inl i))) : ∃ b o, V.ref a = .ref b ∧ DGet H b (.int i) o ∧ R o := ⟨a, _, rfl, DGet.k (k := .inl i) h, q⟩
theorem x_dpI {kvs : List (Key × V)} {i : Int} {R : Hp → Prop} (h : H a = some (.dK kvs)) (l : kvs.length < sizeLine) (q : R (upd H a (.dK (putK kvs (.inl i) v)))) : ∃ b H', V.ref a = .ref b ∧ DPut H b (.int i) v H' ∧ R H' := ⟨a, _, rfl, DPut.k (k := .inl i) h l, q⟩
theorem x_listD {kvs : List (Key × V)} {Q : VK} (h : H a = some (.dK kvs)) (q : ∀ p, H p = none → Q (.ref p) (upd H p (.lst (kvs.map fun kv => kV kv.1)))) : rListD [.ref a] H Q := ⟨a, kvs, rfl, h, q⟩
theorem x_sortedD {kvs : List (Key × V)} {ks : List Int} {Q : VK} (h : H a = some (.dK kvs)) (e : kvs.map (·.1) = ks.map Sum.inl)
    (q : ∀ (ns : List Int) (p : Addr), ns.Perm ks → ns.Pairwise (· ≤ ·) → H p = none → Q (.ref p) (upd H p (.lst (ns.map V.int)))) : rSortedD [.ref a] H Q := ⟨a, kvs, ks, rfl, h, e, q⟩
theorem x_sortedL {ks : List Int} {Q : VK} (h : SqL K H a (ks.map V.int))
    (q : ∀ (ns : List Int) (p : Addr), ns.Perm ks → ns.Pairwise (· ≤ ·) → H p = none → Q (.ref p) (upd H p (.lst (ns.map V.int)))) : rSortedI K [.ref a] H Q := ⟨a, ks, rfl, h, q⟩
theorem x_inL {x : V} (h : SqL K H a xs) (f : flatV x = true) (fs : xs.all flatV = true) (q : Q (.bl (inV x xs)) H) : rIn K false x (.ref a) H Q := ⟨a, xs, rfl, .inl h, f, fs, q⟩
theorem x_notInL {x : V} (h : SqL K H a xs) (f : flatV x = true) (fs : xs.all flatV = true) (q : Q (.bl (!inV x xs)) H) : rIn K true x (.ref a) H Q := ⟨a, xs, rfl, .inl h, f, fs, q⟩
theorem x_inT {x : V} (h : SqT K H a xs) (f : flatV x = true) (fs : xs.all flatV = true) (q : Q (.bl (inV x xs)) H) : rIn K false x (.ref a) H Q := ⟨a, xs, rfl, .inr h, f, fs, q⟩
theorem x_listL {Q : VK} (h : SqL K H a xs) (q : ∀ l, H l = none → Q (.ref l) (upd H l (.lst xs))) : ∃ p ys, [V.ref a] = [.ref p] ∧ (SqL K H p ys ∨ SqT K H p ys) ∧ ∀ l, H l = none → Q (.ref l) (upd H l (.lst ys)) := ⟨a, xs, rfl, .inl h, q⟩
theorem x_listT {Q : VK} (h : SqT K H a xs) (q : ∀ l, H l = none → Q (.ref l) (upd H l (.lst xs))) : ∃ p ys, [V.ref a] = [.ref p] ∧ (SqL K H p ys ∨ SqT K H p ys) ∧ ∀ l, H l = none → Q (.ref l) (upd H l (.lst ys)) := ⟨a, xs, rfl, .inr h, q⟩
/-- t + u: some tuple of both -/
theorem x_cat {b : Addr} {Q : VK} (h : SqT K H a xs) (h2 : SqT K H b ys) (z : xs.length + ys.length ≤ sizeLine) (q : ∀ (p : Addr) (H' : Hp), SqT K H' p (xs ++ ys) → Kx [] H H' → Q (.ref p) H') : rCatA K (.ref a) (.ref b) H Q := by
  refine ⟨a, b, xs, ys, rfl, rfl, h, h2, z, fun e => ?_, fun _ e => ?_, fun _ _ p hp => ?_⟩
  · subst e
    exact q b H h2 (Kx.refl _ _)
  · subst e
    exact q a H (by rwa [List.append_nil]) (Kx.refl _ _)
  · exact q p _ (SqT.of upd_same) ((Kx.refl _ _).new hp)
theorem in_int {n : Int} : ∀ ns : List Int, inV (.int n) (ns.map V.int) = decide (n ∈ ns)
  | [] => rfl
  | m :: r => by
    have ih := in_int (n := n) r
    unfold inV at ih ⊢
    rw [List.map_cons, List.any_cons, ih]
    by_cases e : m = n
    · subst e
      simp [eqV]
    · have e2 : ¬ n = m := fun z => e z.symm
      simp [eqV, e, e2]
theorem flat_ints : ∀ ns : List Int, (ns.map V.int).all flatV = true
  | [] => rfl
  | _ :: r => flat_ints r
theorem pt_truth' {X : Cx} {a : Expr} {t : TE} (ha : PE X a t) (he : ∀ whole, isTrue a X.env whole = (do let v ← whole; standAt a.pos; holding [v] (truthy v)) := by intro _; rfl) :
    PT X a (fun σ H QB => t σ H fun x H' => ∃ k, TruV X.K x H' k ∧ QB k H') := pt_truth ha he
end
structure Lkw (P : Program) (w : World) (K : PySem.W.Frag) (mg : Str → Option Value) (base : Heap) (x : Str) (k : Nat) (ps ks : List Str) (gV : List V → List V) (sp : Sp) : Prop where
  ex : ∃ (f : Addr) (fd : FuncData) (g : List Value → List Value), FnOk P w K mg base CX0 k f fd ps sp ∧ mg x = some (.ref f) ∧ PySem.W.keepIn K (.ref f) = true ∧ KB K fd ps ks g gV
theorem pe_lkw {X : Cx} {k : Nat} {ps ks : List Str} {sp : Sp} {x : Str} {p pos : Pos} {tk : TA} {kws : List Keyword} {gV : List V → List V} (L : Lkw X.prog X.w X.K X.mg X.base x k ps ks gV sp) (hr : Room k X.A) (hg : Gl X x) (hkw : PK X kws tk)
    (hall : (backToKw pos (keywordEach kws X.env)).all (·.1.isSome) = true := by rfl) (hks : (backToKw pos (keywordEach kws X.env)).filterMap (·.1) = ks := by rfl)
    (hdb : (x == ("__debug__" : Str)) = false := by decide)
    (hpl : ((backTo pos (starEach [] X.env)).any (·.1) || (backToKw pos (keywordEach kws X.env)).any (·.1.isNone)) = false := by rfl) :
    PE X (.Call (.Name x p) [] kws pos) (tCallKw sp gV tk) := by
  obtain ⟨f, fd, g, F, hm, hk, hb⟩ := L.ex
  exact pe_kw0 F hr hg hm hk hb hkw hall hks hdb hpl
theorem x_kw {σ : SS} {H : Hp} {Q : VK} {sp : Sp} {gV : List V → List V} {tk : TA} (q : tk σ H fun zs H1 => sp (gV zs) H1 Q E0) : tCallKw sp gV tk σ H Q := q
theorem op_catAK {X : Cx} {K : PySem.W.Frag} (e : X.K = K := by rfl) : OpR X (binaryOp .Add) (rCatA K) := e ▸ op_catA
theorem op_isN1K : True := trivial

/-! ### max(ints, default=d) -/
section
variable {prog : Program} {w : World} {A : Around} {E : Value → Shared → Prop} {R : Result → Shared → Prop} {I : Addr} {fp wr : List Addr} {G : Array GenState → Array GenState → Prop} {n : Nat} {P : Nat → Value → Prop} {St : Nat → Shared → Prop}
theorem maxkw_turns (kw : List (Str × Value)) (W : WalksS prog w A.in1 I fp wr G n P St) (bt : Nat → Nat → Bool) (hcmp : CmpOf prog w A.in1 .Gt P bt) (S : Addr) (hSf : S ∉ fp) :
    ∀ (k j : Nat) (s : Shared) (vb : Value) (c : Nat), n - (j + 1) = k → j + 1 ≤ n → St (j + 1) s → P (argBest bt j) vb → s.heap.get? S = some { cls := .type "list", dict := none, data := .seq #[vb, vb] c, slots := #[] } →
      (∀ v s', P (argBest bt (n - 1)) v → Moved (S :: wr) G s s' → R (.ok (.ret v)) s') → codeAny (model prog w) A (.builtin "max.loop" ⟨[.ref I, .none, .ref S], kw⟩) R s := by
  have nm : (toString "max" ++ toString ".loop" : String) = "max.loop" := by decide
  have w1 : S ∉ wr := fun h => hSf (W.sub _ h)
  have w2 : ∀ b ∈ wr, b ∈ S :: wr := fun b hb => List.mem_cons_of_mem _ hb
  have w3 : ∀ {b : Addr}, b ∉ S :: wr → S ≠ b := fun hb h => hb (h ▸ List.mem_cons_self)
  intro k
  induction k with
  | zero =>
    intro j s vb c hk hj hst hPb hS hR
    obtain rfl : j + 1 = n := by omega
    refine codeAny_builtin PySem.F.entry_max_loop ?_
    rw [Around.under_plainId PySem.F.plain_max_loop _]; show wpAny _ A.in1 (seqItems? (.ref S) >>= _) _ _ s
    refine wpAny_bind (wpAny_seqItems hS rfl ?_); show wpAny _ A.in1 (tryCatch (pyNext (.ref I)) _ >>= _) _ _ s
    refine wpAny_bind (wpAny_tryCatch (W.done s _ _ hst fun s' hm => ?_))
    have hS' := hm.heap S _ w1 hS
    show wpAny _ A.in1 (updateSeq S (fun _ => (#[] : Array Value)) >>= _) _ _ _
    refine wpAny_bind (wpAny_updateSeq hS' rfl (wpAny_bind (wpAny_letGo (wpAny_pure (hR vb _ hPb ?_)))))
    exact (hm.mono w2).then_heap (tk := s'.toks) (Nat.le_refl _) fun b o hb e => (Heap.get?_update_other _ _ (w3 hb)).trans e
  | succ k ih =>
    intro j s vb c hk hj hst hPb hS hR
    have hlt : j + 1 < n := by omega
    refine codeAny_builtin PySem.F.entry_max_loop ?_
    rw [Around.under_plainId PySem.F.plain_max_loop _]; show wpAny _ A.in1 (seqItems? (.ref S) >>= _) _ _ s
    refine wpAny_bind (wpAny_seqItems hS rfl ?_); show wpAny _ A.in1 (tryCatch (pyNext (.ref I)) _ >>= _) _ _ s
    refine wpAny_bind (wpAny_tryCatch (W.item (j + 1) s _ _ hlt hst fun v s' hP hst' hm => ?_))
    have hS' := hm.heap S _ w1 hS
    show wpAny _ A.in1 (tryCatch (holding [v, v] (richCompare .Gt v vb >>= _)) _ >>= _) _ _ _
    refine wpAny_bind (wpAny_tryCatch (wpAny_holding (wpAny_bind (hcmp (j + 1) (argBest bt j) v vb _ _ _ hP hPb ?_)))); refine wpAny_bind (wpAny_holding (wpAny_truthy_bool ?_))
    refine wpAny_bind (wpAny_letGo (wpAny_pure ?_))
    cases hb : bt (j + 1) (argBest bt j) with
    | true =>
      simp only [if_true]
      refine wpAny_bind (wpAny_updateSeq hS' rfl (wpAny_bind (wpAny_letGo ?_))); rw [nm]
      have far : ∀ {b : Addr}, b ∉ fp → True := fun _ => trivial
      refine wpAny_pure ⟨plainId_quiet PySem.F.plain_max_loop _, ih (j + 1) _ v _ (by omega) hlt (W.frame _ s' _ s'.toks hst' (Nat.le_refl _) fun b hbf o e => (Heap.get?_update_other _ _ (fun h : S = b => hSf (h ▸ hbf))).trans e) (by simp only [argBest, hb, if_true]; exact hP) (Heap.get?_update_self _ hS' rfl) fun v' s'' hP' hm'' => hR v' s'' hP' (Moved.trans W.gtrans ((hm.mono w2).then_heap (Nat.le_refl _) fun b o hb e => (Heap.get?_update_other _ _ (w3 hb)).trans e) hm'')⟩
    | false =>
      simp only [Bool.false_eq_true, if_false]
      refine wpAny_bind (wpAny_letGo ?_); rw [nm]
      exact wpAny_pure ⟨plainId_quiet PySem.F.plain_max_loop _, ih (j + 1) _ vb c (by omega) hlt hst' (by simp only [argBest, hb, Bool.false_eq_true, if_false]; exact hPb) hS' fun v' s'' hP' hm'' => hR v' s'' hP' (Moved.trans W.gtrans (hm.mono w2) hm'')⟩
/-- the first turn, none or one -/
theorem maxkw_first {d : Value} (W : WalksS prog w A.in1 I fp wr G n P St) (bt : Nat → Nat → Bool) (hcmp : CmpOf prog w A.in1 .Gt P bt) (S : Addr) (hSf : S ∉ fp) {s : Shared} {c : Nat} (hst : St 0 s) (hS : s.heap.get? S = some { cls := .type "list", dict := none, data := .seq #[] c, slots := #[] })
    (h0 : n = 0 → ∀ s', Moved (S :: wr) G s s' → R (.ok (.ret d)) s') (h1 : 0 < n → ∀ v s', P (argBest bt (n - 1)) v → Moved (S :: wr) G s s' → R (.ok (.ret v)) s') :
    codeAny (model prog w) A (.builtin "max.loop" ⟨[.ref I, .none, .ref S], [("default", d)]⟩) R s := by
  have nm : (toString "max" ++ toString ".loop" : String) = "max.loop" := by decide
  have w1 : S ∉ wr := fun h => hSf (W.sub _ h)
  have w2 : ∀ b ∈ wr, b ∈ S :: wr := fun b hb => List.mem_cons_of_mem _ hb
  have w3 : ∀ {b : Addr}, b ∉ S :: wr → S ≠ b := fun hb h => hb (h ▸ List.mem_cons_self)
  refine codeAny_builtin PySem.F.entry_max_loop ?_
  rw [Around.under_plainId PySem.F.plain_max_loop _]; show wpAny _ A.in1 (seqItems? (.ref S) >>= _) _ _ s
  refine wpAny_bind (wpAny_seqItems hS rfl ?_); show wpAny _ A.in1 (tryCatch (pyNext (.ref I)) _ >>= _) _ _ s
  by_cases hn : 0 < n
  · refine wpAny_bind (wpAny_tryCatch (W.item 0 s _ _ hn hst fun v s' hP hst' hm => ?_))
    have hS' := hm.heap S _ w1 hS
    show wpAny _ A.in1 (updateSeq S (fun _ => #[v, v]) >>= _) _ _ _
    refine wpAny_bind (wpAny_updateSeq hS' rfl ?_); rw [nm]
    refine wpAny_pure ⟨plainId_quiet PySem.F.plain_max_loop _, maxkw_turns _ W bt hcmp S hSf _ 0 _ v _ rfl hn (W.frame _ s' _ s'.toks hst' (Nat.le_refl _) fun b hbf o e => (Heap.get?_update_other _ _ (fun h : S = b => hSf (h ▸ hbf))).trans e) hP (Heap.get?_update_self _ hS' rfl) fun v' s'' hP' hm'' => h1 hn v' s'' hP' ?_⟩
    exact Moved.trans W.gtrans ((hm.mono w2).then_heap (Nat.le_refl _) fun b o hb e => (Heap.get?_update_other _ _ (w3 hb)).trans e) hm''
  · obtain rfl : n = 0 := by omega
    refine wpAny_bind (wpAny_tryCatch (W.done s _ _ hst fun s' hm => ?_))
    refine wpAny_bind (wpAny_rule ?_)
    exact wpAny_pure (h0 rfl s' (hm.mono w2))
theorem maxd_args (a v : Value) : argsOk "max" ⟨[a], [(Str.ofString "default", v)]⟩ := by unfold argsOk; kernel_rfl
theorem max_dflt {l : Addr} {its : List Value} {ns : List Int} {d : Value} {s : Shared} {Q : Value → Shared → Prop} (hh : A.handled = none) (hl : s.heap.IsList l its.toArray) (hi : IntsAre its ns)
    (h0 : ns = [] → ∀ h' tk, (∀ b o, s.heap.get? b = some o → h'.get? b = some o) → Q d { s with heap := h', toks := tk })
    (h1 : ∀ h' tk m t', (∀ b o, s.heap.get? b = some o → h'.get? b = some o) → m ∈ ns → (∀ a, a ∈ ns → a ≤ m) → Q (.int m t') { s with heap := h', toks := tk }) :
    wpAny (model prog w) A (call (.builtin "max") [.ref l] [(Str.ofString "default", d)]) Q E s := by
  obtain ⟨xs, e⟩ := hi.allInts.items
  have hn : numsOf (intItems xs).toList = ns := e ▸ hi.numsOf
  rw [nums_intItems] at hn
  subst hn
  rw [e] at hl
  have nm : (toString "max" ++ toString ".loop" : String) = "max.loop" := by decide
  refine kmb_tree PySem.F.kind_max PySem.F.plain_max PySem.F.entry_max (maxd_args _ _) ?_
  show wpAny _ A.in1 (Builtin.Builtins.bindParams "max" ["key", "default"] 0 ⟨[], [(Str.ofString "default", d)]⟩ >>= _) _ _ s
  refine wpAny_bind (wpAny_of_eq (show Builtin.Builtins.bindParams "max" ["key", "default"] 0 ⟨[], [(Str.ofString "default", d)]⟩ = pure [none, some d] from rfl) ?_)
  refine wpAny_bind (wpAny_pure (wpAny_bind ?_))
  refine PySem.iter_intList hl fun s2 e2 st hfp hlI => ?_
  subst e2
  refine wpAny_bind (wpAny_newObj_type ?_); rw [nm]
  have W := Walks.list (prog := prog) (w := w) (A := A.in1) hh s.heap.objs.size l hlI (intItems xs)
  have hsz : (s.heap.push { cls := .type "list_iterator", data := .fields #[.ref l, .int 0 0] }).objs.size = s.heap.objs.size + 1 := Heap.size_push ..
  have hSf : (s.heap.push { cls := .type "list_iterator", data := .fields #[.ref l, .int 0 0] }).objs.size ∉ [s.heap.objs.size, l] := fun hm => Nat.lt_irrefl _ (hfp _ hm)
  have hlen : (intItems xs).size = xs.size := by simp [intItems]
  have off : ∀ {b : Addr} {o : Obj}, s.heap.get? b = some o → b ∉ [(s.heap.push { cls := .type "list_iterator", data := .fields #[.ref l, .int 0 0] }).objs.size, s.heap.objs.size] := fun {b o} q hm => by
    have hlt : b < s.heap.objs.size := Heap.lt_size q
    rw [hsz] at hm
    rcases List.mem_cons.mp hm with z | z
    · exact absurd hlt (by rw [z]; exact Nat.not_lt.mpr (Nat.le_succ _))
    · exact absurd hlt (by rw [List.mem_singleton.mp z]; exact Nat.lt_irrefl _)
  refine wpAny_pure ⟨plainId_quiet PySem.F.plain_max_loop _, maxkw_first W.toS _ (CmpOf.ints_gt (numAt xs) (fun _ _ => intItems_at)) _ hSf (W.toS.frame 0 _ _ s.toks st (Nat.le_refl _) fun b _ o q => Heap.get?_push_of_some _ q) (Heap.get?_push_size _ rfl) (fun hz s' hm => ?_) (fun hz v s' hP hm => ?_)⟩
  · rw [Moved.eq_with hm]
    exact h0 (by rw [hlen] at hz; rw [Array.eq_empty_of_size_eq_zero hz]; rfl) s'.heap s'.toks fun b o q => hm.heap b o (off q) (Heap.get?_push_of_some _ (Heap.get?_push_of_some _ q))
  · rw [Moved.eq_with hm]
    have hne : 0 < xs.size := by rwa [hlen] at hz
    have hP : (intItems xs)[argBest (fun i j => decide (numAt xs i > numAt xs j)) (xs.size - 1)]? = some v := by simpa [intItems] using hP
    obtain ⟨t, rfl⟩ := intItems_at hP
    obtain ⟨g1, g2⟩ := argBest_gt (numAt xs) (xs.size - 1)
    refine h1 s'.heap s'.toks _ t (fun b o q => hm.heap b o (off q) (Heap.get?_push_of_some _ (Heap.get?_push_of_some _ q))) ?_ fun a ha => ?_
    · rw [numAt_eq]
      exact PySem.getD_mem (by rw [List.length_map, Array.length_toList]; omega)
    · obtain ⟨j, hj, rfl⟩ := mem_getD ha
      rw [List.length_map, Array.length_toList] at hj
      exact numAt_eq xs j ▸ g2 j (by omega)
end
section
variable {X : Cx}
def rMaxD (K : PySem.W.Frag) : List V → List V → Hp → VK → Prop := fun xs zs H Q => ∃ (a : Addr) (ns : List Int) (d : Int), xs = [.ref a] ∧ zs = [.int d] ∧ SqL K H a (ns.map V.int) ∧ (ns = [] → Q (.int d) H) ∧ ∀ m, m ∈ ns → (∀ b, b ∈ ns → b ≤ m) → Q (.int m) H
theorem cr_maxD (hc : X.calm = true) : CallRK X (.builtin "max") [Str.ofString "default"] (rMaxD X.K) := by
  intro pins s σ H xs zs us ws Q I r rz h
  obtain ⟨a, ns, d, rfl, rfl, hs, q0, q1⟩ := h
  obtain ⟨its, rv, hl, _⟩ := I.list hs
  obtain ⟨u, rfl, ru⟩ := vals1 rz
  rw [Vals.ref1 r]
  exact max_dflt (I.ok.hd hc) hl.isList rv.ints (fun e h' tk hk => ⟨.int d, H, I.kept hk, ru, q0 e⟩) fun h' tk m t' hk h1 h2 => ⟨.int m, H, I.kept hk, ⟨_, rfl⟩, q1 m h1 h2⟩
end

/-! ### own classes -/
/-- a method, by its promise (self first) -/
structure Lm (P : Program) (w : World) (K : PySem.W.Frag) (mg : Str → Option Value) (base : Heap) (C : Addr) (m : Str) (k : Nat) (ps : List Str) (sp : Sp) : Prop where
  ex : ∃ (f : Addr) (fd : FuncData), FnOk P w K mg base CX0 k f fd ps sp ∧ Meth K C m f ∧ Binds K fd ps []
/-- a class that is made, by its __init__'s promise -/
structure Ln (P : Program) (w : World) (K : PySem.W.Frag) (mg : Str → Option Value) (base : Heap) (C : Addr) (x : Str) (k : Nat) (ps : List Str) (sp : Sp) : Prop where
  ex : ∃ (f : Addr) (fd : FuncData), FnOk P w K mg base CX0 k f fd ps sp ∧ Mk K C f ∧ mg x = some (.ref C) ∧ Binds K fd ps []
section
variable {X : Cx} {k : Nat} {C : Addr} {m x : Str} {ps : List Str} {sp : Sp} {o e : Expr} {es : List Expr} {apos p pos : Pos} {ta : TE} {t : TA}
theorem pe_lm {pl : Sem Bool} (L : Lm X.prog X.w X.K X.mg X.base C m k ps sp) (c : Cls X.K C) (hr : Room k X.A) (ho : PE X o ta) (ha : PA X (e :: es) t)
    (hst : starEach (e :: es) X.env = (false, eval e X.env) :: starEach es X.env := by rfl) (hpl : (backTo pos (starEach es X.env)).any (·.1) = false := by rfl)
    (ht : eval (.Call (.Attribute o m apos) (e :: es) [] pos) X.env = (do let ov ← eval o X.env; standAt apos.atName; let (f, first) ← holding [ov] (getMethod ov m pl); callWith pos f first (backTo pos (starEach (e :: es) X.env)) (backToKw pos (keywordEach [] X.env))) := by rfl) :
    PE X (.Call (.Attribute o m apos) (e :: es) [] pos) (tMeth C m sp [] E0 ta t) := by
  obtain ⟨f, fd, F, hm, hb⟩ := L.ex
  exact pe_meth (pl := pl) ho c hm F hr hb .nil pass0 ha hst hpl ht
theorem pe_lm0 {pl : Sem Bool} (L : Lm X.prog X.w X.K X.mg X.base C m k ps sp) (c : Cls X.K C) (hr : Room k X.A) (ho : PE X o ta)
    (ht : eval (.Call (.Attribute o m apos) [] [] pos) X.env = (do let ov ← eval o X.env; standAt apos.atName; let (f, first) ← holding [ov] (getMethod ov m pl); callWith pos f first (backTo pos (starEach [] X.env)) (backToKw pos (keywordEach [] X.env))) := by rfl) :
    PE X (.Call (.Attribute o m apos) [] [] pos) (tMeth C m sp [] E0 ta tNil) := by
  obtain ⟨f, fd, F, hm, hb⟩ := L.ex
  exact pe_meth0 (pl := pl) ho c hm F hr hb .nil pass0 ht
theorem pe_ln (L : Ln X.prog X.w X.K X.mg X.base C x k ps sp) (hr : Room (k + 1) X.A) (hg : Gl X x) (ha : PA X (e :: es) t) (hdb : (x == ("__debug__" : Str)) = false := by decide)
    (he : starEach (e :: es) X.env = (false, eval e X.env) :: starEach es X.env := by rfl) (hpl : (backTo pos (starEach es X.env)).any (·.1) = false := by rfl) : PE X (.Call (.Name x p) (e :: es) [] pos) (tMake C sp [] E0 t) := by
  obtain ⟨f, fd, F, hm, hg2, hb⟩ := L.ex
  exact pe_make hm F hr hg hg2 hb .nil pass0 ha hdb he hpl
end
section
variable {K : PySem.W.Frag} {σ : SS} {H : Hp} {Q : VK} {nx bk ct : SS → Hp → Prop} {rt : VK} {C a dx : Addr} {fs : List (Str × V)} {f m : Str} {v : V} {ta te : TE} {t tk : TA} {sp : Sp}
theorem x_meth (q : ta σ H fun x H1 => ∃ a dx fs, x = .ref a ∧ H1 a = some (.ins C dx fs) ∧ fs.lookup m = none ∧ t σ H1 fun vs H2 => sp (x :: (vs ++ [])) H2 Q E0) : tMeth C m sp [] E0 ta t σ H Q := q
theorem x_insM {R : Prop} (h : H a = some (.ins C dx fs)) (l : fs.lookup m = none) (q : R) : ∃ a' dx' fs', V.ref a = .ref a' ∧ H a' = some (.ins C dx' fs') ∧ List.lookup m fs' = none ∧ R := ⟨a, dx, fs, rfl, h, l, q⟩
theorem x_fld (q : ta σ H fun x H1 => ∃ a C dx fs v, x = .ref a ∧ H1 a = some (.ins C dx fs) ∧ Cls K C ∧ NoAttr K C f ∧ fs.lookup f = some v ∧ Q v H1) : tFld K ta f σ H Q := q
theorem x_insF {R : V → Prop} (h : H a = some (.ins C dx fs)) (c : Cls K C) (n : NoAttr K C f) (l : fs.lookup f = some v) (q : R v) : ∃ a' C' dx' fs' v', V.ref a = .ref a' ∧ H a' = some (.ins C' dx' fs') ∧ Cls K C' ∧ NoAttr K C' f ∧ List.lookup f fs' = some v' ∧ R v' :=
  ⟨a, C, dx, fs, v, rfl, h, c, n, l, q⟩
theorem x_sfld (q : te σ H fun y H1 => ta σ H1 fun x H2 => ∃ a C dx fs, x = .ref a ∧ H2 a = some (.ins C dx fs) ∧ Cls K C ∧ NoAttr K C f ∧ fs.length < 1000 ∧ nx σ (upd H2 a (.ins C dx (putF f y fs)))) : sFld K ta te f ⟨nx, rt, bk, ct⟩ σ H := q
theorem x_make (q : t σ H fun vs H1 => ∀ x dx, H1 x = none → H1 dx = none → dx ≠ x → sp (.ref x :: (vs ++ [])) (upd (upd H1 dx (.own x)) x (.ins C dx [])) (fun v H2 => v = .non ∧ Q (.ref x) H2) E0) : tMake C sp [] E0 t σ H Q := q
theorem x_ckw {r : List V → List V → Hp → VK → Prop} (q : t σ H fun vs H1 => tk σ H1 fun zs H2 => r vs zs H2 Q) : tCKw r t tk σ H Q := q
theorem x_maxD {ns : List Int} {d : Int} (h : SqL K H a (ns.map V.int)) (q0 : ns = [] → Q (.int d) H) (q1 : ∀ m, m ∈ ns → (∀ b, b ∈ ns → b ≤ m) → Q (.int m) H) : rMaxD K [.ref a] [.int d] H Q := ⟨a, ns, d, rfl, rfl, h, q0, q1⟩
/-- a range with a step -/
theorem x_iR3 {R : It → Hp → Prop} (q : t σ H fun vs H1 => ∃ (i j c : Int) (n : Nat), vs = [.int i, .int j, .int c] ∧ RgC i j c n ∧ R (Itc i c n) H1) : iRng3 t σ H R := q
theorem y_forDown {g : TG} {tb : TS} {i : Int} (h0 : -1 ≤ i) (h1 : i < 1000000) (q : AskF (i + 1).toNat (fun _ => True) (YFn fun k => .int (i + (k : Nat) * (-1))) g tb nx rt σ H) :
    ∃ (i' j c : Int) (n : Nat), [V.int i, V.int (-1), V.int (-1)] = [.int i', .int j, .int c] ∧ RgC i' j c n ∧ WF (Itc i' c n) g tb nx rt σ H := by
  refine ⟨i, -1, -1, (i + 1).toNat, rfl, ?_, askF walk_rangeC q⟩
  have := RgC.neg (i := i) (j := -1) (by omega) (by omega) (by decide) (by decide)
  rwa [show (i - -1) = i + 1 by omega] at this
end
theorem iteP {c : Bool} {A B : Prop} (h : c = true) (q : A) : if c = true then A else B := by rw [if_pos h]; exact q
theorem iteN {c : Bool} {A B : Prop} (h : c = false) (q : B) : if c = true then A else B := by rw [h]; exact q
section
variable {K : PySem.W.Frag} {σ : SS} {H : Hp} {Q : VK} {x y : V} {ta tb tc : TE} {r r' : R2} {QB : Bool → Hp → Prop}
theorem x_chain (q : ta σ H fun x H1 => tb σ H1 fun y H2 => r x y H2 fun z H3 => ∃ k, z = .bl k ∧ (if k = true then tc σ H3 fun w' H4 => r' y w' H4 Q else Q (.bl false) H3)) : tChain r r' ta tb tc σ H Q := q
theorem x_isi {n : String} {t : Value} {b : Bool} (ty : TyX K H x t) (k : PySem.W.kitOne K t (.type n) = some b) (q : Q (.bl b) H) : rIsi K [x, .ty n] H Q := ⟨x, .ty n, t, .type n, b, rfl, .ty n, ty, k, q⟩
theorem x_isiII {i : Int} (q : Q (.bl true) H) : rIsi K [.int i, .ty "int"] H Q := x_isi (.base (.int i)) (kit_ty (by decide +kernel)) q
theorem x_isiIB {i : Int} (q : Q (.bl false) H) : rIsi K [.int i, .ty "bool"] H Q := x_isi (.base (.int i)) (kit_ty (by decide +kernel)) q
end
section
variable {K : PySem.W.Frag} {σ : SS} {H : Hp} {Q : VK} {QS : SS → Hp → Prop} {nx bk ct : SS → Hp → Prop} {rt : VK} {s1 s2 : TS} {ta tb : TE} {tA : TA} {a b : Addr} {xs : List V} {ds : List PyData}
theorem x_par3 {i j l : Nat} (q : tA σ H fun vs H1 => ∃ u v w, vs = [u, v, w] ∧ nx (((σ.set i (some u)).set j (some v)).set l (some w)) H1) : tPar3 i j l tA ⟨nx, rt, bk, ct⟩ σ H := q
theorem x_three {R : V → V → V → Prop} {x y z : V} (q : R x y z) : ∃ u v w, [x, y, z] = [u, v, w] ∧ R u v w := ⟨x, y, z, rfl, q⟩
theorem x_orT (q : ta σ H fun x H1 => ∃ k, TruV K x H1 k ∧ if k = true then Q x H1 else tb σ H1 Q) : tOrT K ta tb σ H Q := q
theorem x_truN {R : Bool → Prop} (q : R false) : ∃ k, TruV K .non H k ∧ R k := ⟨false, rfl, q⟩
theorem x_truT {R : Bool → Prop} (h : SqT K H a xs) (q : R (!xs.isEmpty)) : ∃ k, TruV K (.ref a) H k ∧ R k := ⟨_, .inr (.inl ⟨xs, h, rfl⟩), q⟩
theorem x_glst {m : Nat} {u : TGs} (h : SqL K H a xs) (l : xs.length = m) (q : u xs σ H QS) : gLst K m u (.ref a) σ H QS := ⟨a, xs, rfl, h, l, q⟩
/-- a part of a block that may end in more than one way: what comes behind it, once -/
theorem x_seqG (P : SS → Hp → Prop) (q : ∀ G : SS → Hp → Prop, (∀ σ H, P σ H → G σ H) → s1 ⟨G, rt, bk, ct⟩ σ H) (r : ∀ σ H, P σ H → s2 ⟨nx, rt, bk, ct⟩ σ H) : tSeq s1 s2 ⟨nx, rt, bk, ct⟩ σ H := q _ r
theorem eqv_nil (ds : List PyData) : PyData.eqv (.list ds) (.list []) = ds.isEmpty := by
  cases ds <;> rfl
theorem x_neNilD (h : SqL K H a xs) (hd : DpAll K H xs ds) (sh : SeqAt.shaped (.list ds) = true) (hb : SqL K H b []) (q : Q (.bl (!ds.isEmpty)) H) : rNeD K (.ref a) (.ref b) H Q := ⟨.list ds, .list [], .lst h hd, .lst hb .nil, sh, by decide, by rw [eqv_nil]; exact q⟩
theorem x_eqNilD (h : SqL K H a xs) (hd : DpAll K H xs ds) (sh : SeqAt.shaped (.list ds) = true) (hb : SqL K H b []) (q : Q (.bl ds.isEmpty) H) : rEqD K (.ref a) (.ref b) H Q := ⟨.list ds, .list [], .lst h hd, .lst hb .nil, sh, by decide, by rw [eqv_nil]; exact q⟩
theorem x_catL {ys : List V} (h : H a = some (.lst xs)) (h2 : H b = some (.lst ys)) (z : xs.length + ys.length ≤ sizeLine) (q : ∀ p, H p = none → Q (.ref p) (upd H p (.lst (xs ++ ys)))) : rCat (.ref a) (.ref b) H Q := ⟨a, b, xs, ys, rfl, rfl, h, h2, z, q⟩
end

/-! ### the rules that speak of X.K, with K told from outside -/
section
variable {X : Cx} {K : PySem.W.Frag}
theorem op_eqDK (hu : X.A.units + 64 < cLine) (e : X.K = K := by rfl) : OpR X (compareOp .Eq) (rEqD K) := e ▸ op_eqD hu
theorem op_neDK (hu : X.A.units + 64 < cLine) (e : X.K = K := by rfl) : OpR X (compareOp .NotEq) (rNeD K) := e ▸ op_neD hu
end
section
variable {X : Cx} {K : PySem.W.Frag} {o e : Expr} {es : List Expr} {to : TE} {t : TA} {name : Str} {apos cpos : Pos} {T id : String} {r : V → List V → Hp → VK → Prop}
theorem pe_bmK (pa : PlainAttrs T) (slot : Slot T name id) (hty : typeOf (.builtin id) = pure (.type "method_descriptor")) (hm : MtR X id r) (ho : PE X o to) (ha : PA X (e :: es) t) (eK : X.K = K := by rfl)
    (hbase : attributeBase o name X.env (eval o X.env) = eval o X.env := by rfl)
    (hfew : ((backTo cpos (starEach (e :: es) X.env)).all (fun x => !x.1) && (backToKw cpos (keywordEach [] X.env)).all (fun x => x.1.isSome)
      && decide ((e :: es).length + ([] : List Keyword).length + (if ([] : List Keyword).isEmpty then 0 else 1) < 30)) = true := by rfl)
    (hline : (apos.endLine == cpos.line) = true := by rfl) (hs : starEach (e :: es) X.env = (false, eval e X.env) :: starEach es X.env := by rfl) (hplain : (backTo cpos (starEach es X.env)).any (·.1) = false := by rfl) :
    PE X (.Call (.Attribute o name apos) (e :: es) [] cpos) (tBM K T r to t) := eK ▸ pe_bm pa slot hty hm ho ha hbase hfew hline hs hplain
theorem pe_bm0K (pa : PlainAttrs T) (slot : Slot T name id) (hty : typeOf (.builtin id) = pure (.type "method_descriptor")) (hm : MtR X id r) (ho : PE X o to) (eK : X.K = K := by rfl)
    (hbase : attributeBase o name X.env (eval o X.env) = eval o X.env := by rfl) (hline : (apos.endLine == cpos.line) = true := by rfl) : PE X (.Call (.Attribute o name apos) [] [] cpos) (tBM0 K T r to) := eK ▸ pe_bm0 pa slot hty hm ho hbase hline
end
/-! ### all that is no list is kept -/
def Kt (H H' : Hp) : Prop := ∀ b o, H b = some o → (∀ xs, o ≠ .lst xs) → H' b = some o
theorem Kt.refl (H : Hp) : Kt H H := fun _ _ h _ => h
theorem Kt.trans {H H1 H2 : Hp} (a : Kt H H1) (b : Kt H1 H2) : Kt H H2 := fun c o h n => b c o (a c o h n) n
theorem Kt.of {S : List Addr} {H H' : Hp} (k : Kx S H H') (h : ∀ q ∈ S, ∃ xs, H q = some (.lst xs)) : Kt H H' := fun b o e n => by
  refine k b o (fun z => ?_) e
  obtain ⟨xs, hq⟩ := h b z
  rw [e] at hq
  exact n xs (Option.some.inj hq)
theorem Kt.of0 {H H' : Hp} (k : Kx [] H H') : Kt H H' := fun b o e _ => k b o (by simp) e
theorem Kt.of1 {H H' : Hp} {p : Addr} (k : Kx [p] H H') {xs : List V} (h : H p = some (.lst xs)) : Kt H H' := Kt.of k fun q hq => by rw [List.mem_singleton.mp hq]; exact ⟨xs, h⟩
theorem Kt.wr {H H' : Hp} {q : Addr} {o : HO} (k : Kt H H') {xs : List V} (h : H' q = some (.lst xs)) : Kt H (upd H' q o) := fun b u e n => by
  have e2 := k b u e n
  by_cases hb : b = q
  · subst hb
    rw [h] at e2
    exact absurd (Option.some.inj e2).symm (n xs)
  · rw [upd_ne hb]
    exact e2
theorem Kt.new {H H' : Hp} {q : Addr} {o : HO} (k : Kt H H') (h : H' q = none) : Kt H (upd H' q o) := fun b u e n => lk_ne (k b u e n) h
theorem Kt.sqT {K : PySem.W.Frag} {H H' : Hp} {a : Addr} {xs : List V} (k : Kt H H') (h : SqT K H a xs) : SqT K H' a xs := by
  rcases h with (h | ⟨o, h⟩) | h
  · exact .inl (.inl (k _ _ h (by intro ys z; cases z)))
  · exact .inl (.inr ⟨o, k _ _ h (by intro ys z; cases z)⟩)
  · exact .inr h
theorem Kx.cmb {S : List Addr} {H H1 H2 : Hp} {Z : Addr} (a : Kx S H H1) (b : Kx [Z] H1 H2) (n : H Z = none) : Kx S H H2 := fun q o hq h =>
  b q o (fun z => by rw [List.mem_singleton.mp z, n] at h; cases h) (a q o hq h)
/-! ### numbers -/
def oV : Option Nat → V
  | none => .non
  | some n => .int (n : Int)
def oD : Option Nat → PyData
  | none => .none
  | some n => .int (n : Int)
theorem dp_o {K : PySem.W.Frag} {H : Hp} : ∀ o : Option Nat, Dp K H (oV o) (oD o)
  | none => .non
  | some n => .int n
theorem dp_os {K : PySem.W.Frag} {H : Hp} : ∀ l : List (Option Nat), DpAll K H (l.map oV) (l.map oD)
  | [] => .nil
  | o :: r => .cons (dp_o o) (dp_os r)
theorem good_os {l : List (Option Nat)} (h : ∀ o ∈ l, ∀ n, o = some n → n < 10 ^ 9) (hl : l.length ≤ 40) : Good (.tuple (l.map oD)) 1 (40 * 32) := by
  refine Good.tuple (k := 0) (w := 31) (n := 40) ?_ (by rw [List.length_map]; exact hl)
  intro d hd
  obtain ⟨o, ho, rfl⟩ := List.mem_map.mp hd
  cases o with
  | none => exact Good.none.mono (Nat.le_refl _) (by decide)
  | some n =>
    have := h _ ho n rfl
    exact Good.int (by omega)
abbrev natV (l : List Nat) : List V := l.map fun (n : Nat) => V.int (n : Int)
theorem natV_get {l : List Nat} {i n : Nat} (h : l[i]? = some n) : (natV l)[i]? = some (V.int (n : Int)) := by
  unfold natV
  rw [List.getElem?_map, h]
  rfl
theorem natV_at {l : List Nat} {i n : Nat} (h : l[i]? = some n) : atI (natV l) (i : Int) = some (.int (n : Int)) := atI_nat (natV_get h)
theorem natV_int (l : List Nat) : natV l = (l.map fun (n : Nat) => (n : Int)).map V.int := by
  unfold natV
  rw [List.map_map]
  rfl
theorem natV_len (l : List Nat) : (natV l).length = l.length := List.length_map ..
theorem cast_back {N : Nat} : ∀ {zs : List Int}, (∀ z ∈ zs, z ∈ (List.range N).map fun (i : Nat) => (i : Int)) → natV (zs.map Int.toNat) = zs.map V.int
  | [], _ => rfl
  | z :: r, h => by
    obtain ⟨m, _, e⟩ := List.mem_map.mp (h z List.mem_cons_self)
    have ih := cast_back (zs := r) fun y hy => h y (List.mem_cons_of_mem _ hy)
    unfold natV at ih ⊢
    rw [List.map_cons, List.map_cons, List.map_cons, ih, ← e]
    rfl
theorem perm_nat {zs : List Int} {N : Nat} (h : zs.Perm ((List.range N).map fun (i : Nat) => (i : Int))) : ∃ ns : List Nat, zs.map V.int = natV ns ∧ ns.Perm (List.range N) := by
  refine ⟨zs.map Int.toNat, (cast_back fun z hz => h.mem_iff.mp hz).symm, ?_⟩
  have e := h.map Int.toNat
  rw [List.map_map] at e
  have e2 : (List.range N).map (Int.toNat ∘ fun (i : Nat) => (i : Int)) = List.range N := by
    rw [show (Int.toNat ∘ fun (i : Nat) => (i : Int)) = id from funext fun n => Int.toNat_natCast n, List.map_id]
  rwa [e2] at e
theorem rg_nat (N : Nat) : rgV 0 (N : Int) = natV (List.range N) := by
  unfold rgV natV
  rw [show ((N : Int) - 0).toNat = N by omega]
  refine List.map_congr_left fun i _ => ?_
  show V.int (0 + (i : Int)) = V.int i
  rw [Int.zero_add]
theorem erase_nat : ∀ (zs : List Nat) (i : Nat), (natV zs).eraseIdx i = natV (zs.eraseIdx i)
  | [], _ => rfl
  | _ :: _, 0 => rfl
  | z :: r, i + 1 => congrArg (V.int (z : Int) :: ·) (erase_nat r i)
theorem at_i {zs : List Int} {w : Int} (h0 : 0 ≤ w) (h1 : w < zs.length) : ∃ z ∈ zs, zs[w.toNat]? = some z ∧ atI (zs.map V.int) w = some (.int z) := by
  obtain ⟨i, rfl⟩ : ∃ i : Nat, w = i := ⟨w.toNat, by omega⟩
  have hi : i < zs.length := by omega
  have e1 := List.getElem?_eq_getElem hi
  refine ⟨zs[i], List.getElem_mem hi, by simpa using e1, atI_nat ?_⟩
  rw [List.getElem?_map, e1]
  rfl
theorem ix_n {n j : Nat} (hj : j < n) : ixN n (j : Int) = some j := by
  unfold ixN
  rw [if_pos (by omega), if_pos (by omega), Int.toNat_natCast]
theorem erase_perm0 {z : Nat} : ∀ {zs : List Nat} {i : Nat}, zs[i]? = some z → (z :: zs.eraseIdx i).Perm zs
  | [], _, h => by cases h
  | y :: r, 0, h => by
    cases Option.some.inj h
    exact .refl _
  | y :: r, i + 1, h => (List.Perm.swap y z _).trans ((erase_perm0 (zs := r) (i := i) h).cons y)
theorem erase_perm {zs : List Nat} {i : Nat} {z : Nat} (h : zs[i]? = some z) (as : List Nat) : (as ++ [z] ++ zs.eraseIdx i).Perm (as ++ zs) := by
  rw [List.append_assoc]
  exact List.Perm.append_left as (erase_perm0 h)
section
variable {K : PySem.W.Frag} {σ : SS} {H : Hp} {Q : VK} {te : TE} {a : Addr} {xs : List V} {y : V} {i : Nat} {j : Int}
theorem x_revL (q : te σ H fun x H1 => ∃ a xs, x = .ref a ∧ SqL K H1 a xs ∧ ∀ p, H1 p = none → Q (.ref p) (upd H1 p (.lst xs.reverse))) : tRevL K te σ H Q := q
theorem x_revR {R : Addr → List V → Prop} (h : SqL K H a xs) (q : ∀ p, H p = none → R p xs) : ∃ a' ys, V.ref a = .ref a' ∧ SqL K H a' ys ∧ ∀ p, H p = none → R p ys := ⟨a, xs, rfl, h, q⟩
theorem x_popAt (h : H a = some (.lst xs)) (e : j = (i : Int)) (b : i < 1000000) (s : xs[i]? = some y) (q : Q y (upd H a (.lst (xs.eraseIdx i)))) : rPopAt (.ref a) [.int j] H Q := by
  subst e
  have hi := (List.getElem?_eq_some_iff.mp s).1
  exact ⟨a, xs, i, i, y, rfl, rfl, h, by omega, by omega, seqIndex_of (by omega) (by omega), s, q⟩
theorem dp_nats : ∀ l : List Nat, DpAll K H (natV l) (l.map fun (n : Nat) => PyData.int (n : Int))
  | [] => .nil
  | n :: r => .cons (.int n) (dp_nats r)
end
theorem shaped_int2 (p s : Int) : SeqAt.shaped (.tuple [.int p, .int s]) = true := by
  unfold SeqAt.shaped
  simp [PyData.canLay0, PyData.canLayAll0, PyData.depth, PyData.depthAll]
theorem dpAll_i {K : PySem.W.Frag} {H : Hp} : ∀ {vs : List V} {ds : List PyData}, vs.length = ds.length → (∀ (i : Nat) (d : PyData), ds[i]? = some d → ∃ v, vs[i]? = some v ∧ Dp K H v d) → DpAll K H vs ds
  | [], [], _, _ => .nil
  | [], _ :: _, h, _ => by cases h
  | _ :: _, [], h, _ => by cases h
  | v :: vs, d :: ds, h, q => by
    obtain ⟨v', e, hd⟩ := q 0 d rfl
    cases Option.some.inj e
    exact .cons hd (dpAll_i (Nat.succ.inj h) fun i d' hi => q (i + 1) d' hi)

theorem in_nat {n : Nat} (ns : List Nat) : inV (.int (n : Int)) (natV ns) = decide (n ∈ ns) := by
  rw [natV_int, in_int]
  congr 1
  rw [List.mem_map]
  refine propext ⟨?_, fun h => ⟨n, h, rfl⟩⟩
  rintro ⟨m, hm, e⟩
  rwa [← Int.ofNat.inj e]
theorem flat_nats (ns : List Nat) : (natV ns).all flatV = true := by rw [natV_int]; exact flat_ints _
theorem x_neNilN {K : PySem.W.Frag} {H : Hp} {Q : VK} {a b : Addr} {l : List Nat} (h : SqL K H a (natV l)) (hb : SqL K H b []) (q : Q (.bl (!l.isEmpty)) H) : rNeD K (.ref a) (.ref b) H Q := by
  rw [natV_int] at h
  refine x_neNil h hb ?_
  cases l with
  | nil => exact q
  | cons _ _ => exact q
theorem set_range {α : Type} {n j : Nat} {f g : Nat → α} (hj : j < n) (h1 : ∀ i, i ≠ j → g i = f i) : ((List.range n).map f).set j (g j) = (List.range n).map g := by
  refine List.ext_getElem? fun i => ?_
  by_cases e : i = j
  · subst e
    rw [List.getElem?_set_self (by rw [List.length_map, List.length_range]; exact hj), List.getElem?_map, List.getElem?_range hj]
    rfl
  · rw [List.getElem?_set_ne (Ne.symm e), List.getElem?_map, List.getElem?_map]
    cases h : (List.range n)[i]? with
    | none => rfl
    | some k =>
      obtain ⟨h2, h3⟩ := List.getElem?_eq_some_iff.mp h
      rw [List.getElem_range] at h3
      show some (f k) = some (g k)
      rw [h1 k (by omega)]

open PySem PySem.Spec PySem.Calls PyProof.Rows L2
/-! ### min(ints, default=d) -/
section
variable {prog : Program} {w : World} {A : Around} {E : Value → Shared → Prop} {R : Result → Shared → Prop} {I : Addr} {fp wr : List Addr} {G : Array GenState → Array GenState → Prop} {n : Nat} {P : Nat → Value → Prop} {St : Nat → Shared → Prop}
theorem minkw_turns (kw : List (Str × Value)) (W : WalksS prog w A.in1 I fp wr G n P St) (bt : Nat → Nat → Bool) (hcmp : CmpOf prog w A.in1 .Lt P bt) (S : Addr) (hSf : S ∉ fp) :
    ∀ (k j : Nat) (s : Shared) (vb : Value) (c : Nat), n - (j + 1) = k → j + 1 ≤ n → St (j + 1) s → P (argBest bt j) vb → s.heap.get? S = some { cls := .type "list", dict := none, data := .seq #[vb, vb] c, slots := #[] } →
      (∀ v s', P (argBest bt (n - 1)) v → Moved (S :: wr) G s s' → R (.ok (.ret v)) s') → codeAny (model prog w) A (.builtin "min.loop" ⟨[.ref I, .none, .ref S], kw⟩) R s := by
  have nm : (toString "min" ++ toString ".loop" : String) = "min.loop" := by decide
  have w1 : S ∉ wr := fun h => hSf (W.sub _ h)
  have w2 : ∀ b ∈ wr, b ∈ S :: wr := fun b hb => List.mem_cons_of_mem _ hb
  have w3 : ∀ {b : Addr}, b ∉ S :: wr → S ≠ b := fun hb h => hb (h ▸ List.mem_cons_self)
  intro k
  induction k with
  | zero =>
    intro j s vb c hk hj hst hPb hS hR
    obtain rfl : j + 1 = n := by omega
    refine codeAny_builtin PySem.F.entry_min_loop ?_
    rw [Around.under_plainId PySem.F.plain_min_loop _]; show wpAny _ A.in1 (seqItems? (.ref S) >>= _) _ _ s
    refine wpAny_bind (wpAny_seqItems hS rfl ?_); show wpAny _ A.in1 (tryCatch (pyNext (.ref I)) _ >>= _) _ _ s
    refine wpAny_bind (wpAny_tryCatch (W.done s _ _ hst fun s' hm => ?_))
    have hS' := hm.heap S _ w1 hS
    show wpAny _ A.in1 (updateSeq S (fun _ => (#[] : Array Value)) >>= _) _ _ _
    refine wpAny_bind (wpAny_updateSeq hS' rfl (wpAny_bind (wpAny_letGo (wpAny_pure (hR vb _ hPb ?_)))))
    exact (hm.mono w2).then_heap (tk := s'.toks) (Nat.le_refl _) fun b o hb e => (Heap.get?_update_other _ _ (w3 hb)).trans e
  | succ k ih =>
    intro j s vb c hk hj hst hPb hS hR
    have hlt : j + 1 < n := by omega
    refine codeAny_builtin PySem.F.entry_min_loop ?_
    rw [Around.under_plainId PySem.F.plain_min_loop _]; show wpAny _ A.in1 (seqItems? (.ref S) >>= _) _ _ s
    refine wpAny_bind (wpAny_seqItems hS rfl ?_); show wpAny _ A.in1 (tryCatch (pyNext (.ref I)) _ >>= _) _ _ s
    refine wpAny_bind (wpAny_tryCatch (W.item (j + 1) s _ _ hlt hst fun v s' hP hst' hm => ?_))
    have hS' := hm.heap S _ w1 hS
    show wpAny _ A.in1 (tryCatch (holding [v, v] (richCompare .Lt v vb >>= _)) _ >>= _) _ _ _
    refine wpAny_bind (wpAny_tryCatch (wpAny_holding (wpAny_bind (hcmp (j + 1) (argBest bt j) v vb _ _ _ hP hPb ?_)))); refine wpAny_bind (wpAny_holding (wpAny_truthy_bool ?_))
    refine wpAny_bind (wpAny_letGo (wpAny_pure ?_))
    cases hb : bt (j + 1) (argBest bt j) with
    | true =>
      simp only [if_true]
      refine wpAny_bind (wpAny_updateSeq hS' rfl (wpAny_bind (wpAny_letGo ?_))); rw [nm]
      have far : ∀ {b : Addr}, b ∉ fp → True := fun _ => trivial
      refine wpAny_pure ⟨plainId_quiet PySem.F.plain_min_loop _, ih (j + 1) _ v _ (by omega) hlt (W.frame _ s' _ s'.toks hst' (Nat.le_refl _) fun b hbf o e => (Heap.get?_update_other _ _ (fun h : S = b => hSf (h ▸ hbf))).trans e) (by simp only [argBest, hb, if_true]; exact hP) (Heap.get?_update_self _ hS' rfl) fun v' s'' hP' hm'' => hR v' s'' hP' (Moved.trans W.gtrans ((hm.mono w2).then_heap (Nat.le_refl _) fun b o hb e => (Heap.get?_update_other _ _ (w3 hb)).trans e) hm'')⟩
    | false =>
      simp only [Bool.false_eq_true, if_false]
      refine wpAny_bind (wpAny_letGo ?_); rw [nm]
      exact wpAny_pure ⟨plainId_quiet PySem.F.plain_min_loop _, ih (j + 1) _ vb c (by omega) hlt hst' (by simp only [argBest, hb, Bool.false_eq_true, if_false]; exact hPb) hS' fun v' s'' hP' hm'' => hR v' s'' hP' (Moved.trans W.gtrans (hm.mono w2) hm'')⟩
/-- the first turn, none or one -/
theorem minkw_first {d : Value} (W : WalksS prog w A.in1 I fp wr G n P St) (bt : Nat → Nat → Bool) (hcmp : CmpOf prog w A.in1 .Lt P bt) (S : Addr) (hSf : S ∉ fp) {s : Shared} {c : Nat} (hst : St 0 s) (hS : s.heap.get? S = some { cls := .type "list", dict := none, data := .seq #[] c, slots := #[] })
    (h0 : n = 0 → ∀ s', Moved (S :: wr) G s s' → R (.ok (.ret d)) s') (h1 : 0 < n → ∀ v s', P (argBest bt (n - 1)) v → Moved (S :: wr) G s s' → R (.ok (.ret v)) s') :
    codeAny (model prog w) A (.builtin "min.loop" ⟨[.ref I, .none, .ref S], [("default", d)]⟩) R s := by
  have nm : (toString "min" ++ toString ".loop" : String) = "min.loop" := by decide
  have w1 : S ∉ wr := fun h => hSf (W.sub _ h)
  have w2 : ∀ b ∈ wr, b ∈ S :: wr := fun b hb => List.mem_cons_of_mem _ hb
  have w3 : ∀ {b : Addr}, b ∉ S :: wr → S ≠ b := fun hb h => hb (h ▸ List.mem_cons_self)
  refine codeAny_builtin PySem.F.entry_min_loop ?_
  rw [Around.under_plainId PySem.F.plain_min_loop _]; show wpAny _ A.in1 (seqItems? (.ref S) >>= _) _ _ s
  refine wpAny_bind (wpAny_seqItems hS rfl ?_); show wpAny _ A.in1 (tryCatch (pyNext (.ref I)) _ >>= _) _ _ s
  by_cases hn : 0 < n
  · refine wpAny_bind (wpAny_tryCatch (W.item 0 s _ _ hn hst fun v s' hP hst' hm => ?_))
    have hS' := hm.heap S _ w1 hS
    show wpAny _ A.in1 (updateSeq S (fun _ => #[v, v]) >>= _) _ _ _
    refine wpAny_bind (wpAny_updateSeq hS' rfl ?_); rw [nm]
    refine wpAny_pure ⟨plainId_quiet PySem.F.plain_min_loop _, minkw_turns _ W bt hcmp S hSf _ 0 _ v _ rfl hn (W.frame _ s' _ s'.toks hst' (Nat.le_refl _) fun b hbf o e => (Heap.get?_update_other _ _ (fun h : S = b => hSf (h ▸ hbf))).trans e) hP (Heap.get?_update_self _ hS' rfl) fun v' s'' hP' hm'' => h1 hn v' s'' hP' ?_⟩
    exact Moved.trans W.gtrans ((hm.mono w2).then_heap (Nat.le_refl _) fun b o hb e => (Heap.get?_update_other _ _ (w3 hb)).trans e) hm''
  · obtain rfl : n = 0 := by omega
    refine wpAny_bind (wpAny_tryCatch (W.done s _ _ hst fun s' hm => ?_))
    refine wpAny_bind (wpAny_rule ?_)
    exact wpAny_pure (h0 rfl s' (hm.mono w2))
theorem mind_args (a v : Value) : argsOk "min" ⟨[a], [(Str.ofString "default", v)]⟩ := by unfold argsOk; kernel_rfl
theorem min_dflt {l : Addr} {its : List Value} {ns : List Int} {d : Value} {s : Shared} {Q : Value → Shared → Prop} (hh : A.handled = none) (hl : s.heap.IsList l its.toArray) (hi : IntsAre its ns)
    (h0 : ns = [] → ∀ h' tk, (∀ b o, s.heap.get? b = some o → h'.get? b = some o) → Q d { s with heap := h', toks := tk })
    (h1 : ∀ h' tk m t', (∀ b o, s.heap.get? b = some o → h'.get? b = some o) → m ∈ ns → (∀ a, a ∈ ns → m ≤ a) → Q (.int m t') { s with heap := h', toks := tk }) :
    wpAny (model prog w) A (call (.builtin "min") [.ref l] [(Str.ofString "default", d)]) Q E s := by
  obtain ⟨xs, e⟩ := hi.allInts.items
  have hn : numsOf (intItems xs).toList = ns := e ▸ hi.numsOf
  rw [nums_intItems] at hn
  subst hn
  rw [e] at hl
  have nm : (toString "min" ++ toString ".loop" : String) = "min.loop" := by decide
  refine kmb_tree PySem.F.kind_min PySem.F.plain_min PySem.F.entry_min (mind_args _ _) ?_
  show wpAny _ A.in1 (Builtin.Builtins.bindParams "min" ["key", "default"] 0 ⟨[], [(Str.ofString "default", d)]⟩ >>= _) _ _ s
  refine wpAny_bind (wpAny_of_eq (show Builtin.Builtins.bindParams "min" ["key", "default"] 0 ⟨[], [(Str.ofString "default", d)]⟩ = pure [none, some d] from rfl) ?_)
  refine wpAny_bind (wpAny_pure (wpAny_bind ?_))
  refine PySem.iter_intList hl fun s2 e2 st hfp hlI => ?_
  subst e2
  refine wpAny_bind (wpAny_newObj_type ?_); rw [nm]
  have W := Walks.list (prog := prog) (w := w) (A := A.in1) hh s.heap.objs.size l hlI (intItems xs)
  have hsz : (s.heap.push { cls := .type "list_iterator", data := .fields #[.ref l, .int 0 0] }).objs.size = s.heap.objs.size + 1 := Heap.size_push ..
  have hSf : (s.heap.push { cls := .type "list_iterator", data := .fields #[.ref l, .int 0 0] }).objs.size ∉ [s.heap.objs.size, l] := fun hm => Nat.lt_irrefl _ (hfp _ hm)
  have hlen : (intItems xs).size = xs.size := by simp [intItems]
  have off : ∀ {b : Addr} {o : Obj}, s.heap.get? b = some o → b ∉ [(s.heap.push { cls := .type "list_iterator", data := .fields #[.ref l, .int 0 0] }).objs.size, s.heap.objs.size] := fun {b o} q hm => by
    have hlt : b < s.heap.objs.size := Heap.lt_size q
    rw [hsz] at hm
    rcases List.mem_cons.mp hm with z | z
    · exact absurd hlt (by rw [z]; exact Nat.not_lt.mpr (Nat.le_succ _))
    · exact absurd hlt (by rw [List.mem_singleton.mp z]; exact Nat.lt_irrefl _)
  refine wpAny_pure ⟨plainId_quiet PySem.F.plain_min_loop _, minkw_first W.toS _ (CmpOf.ints_lt (numAt xs) (fun _ _ => intItems_at)) _ hSf (W.toS.frame 0 _ _ s.toks st (Nat.le_refl _) fun b _ o q => Heap.get?_push_of_some _ q) (Heap.get?_push_size _ rfl) (fun hz s' hm => ?_) (fun hz v s' hP hm => ?_)⟩
  · rw [Moved.eq_with hm]
    exact h0 (by rw [hlen] at hz; rw [Array.eq_empty_of_size_eq_zero hz]; rfl) s'.heap s'.toks fun b o q => hm.heap b o (off q) (Heap.get?_push_of_some _ (Heap.get?_push_of_some _ q))
  · rw [Moved.eq_with hm]
    have hne : 0 < xs.size := by rwa [hlen] at hz
    have hP : (intItems xs)[argBest (fun i j => decide (numAt xs i < numAt xs j)) (xs.size - 1)]? = some v := by simpa [intItems] using hP
    obtain ⟨t, rfl⟩ := intItems_at hP
    obtain ⟨g1, g2⟩ := argBest_lt (numAt xs) (xs.size - 1)
    refine h1 s'.heap s'.toks _ t (fun b o q => hm.heap b o (off q) (Heap.get?_push_of_some _ (Heap.get?_push_of_some _ q))) ?_ fun a ha => ?_
    · rw [numAt_eq]
      exact PySem.getD_mem (by rw [List.length_map, Array.length_toList]; omega)
    · obtain ⟨j, hj, rfl⟩ := mem_getD ha
      rw [List.length_map, Array.length_toList] at hj
      exact numAt_eq xs j ▸ g2 j (by omega)
end
section
variable {X : Cx}
def rMinD (K : PySem.W.Frag) : List V → List V → Hp → VK → Prop := fun xs zs H Q => ∃ (a : Addr) (ns : List Int) (d : V), xs = [.ref a] ∧ zs = [d] ∧ SqL K H a (ns.map V.int) ∧ (ns = [] → Q d H) ∧ ∀ m, m ∈ ns → (∀ b, b ∈ ns → m ≤ b) → Q (.int m) H
theorem cr_minD (hc : X.calm = true) : CallRK X (.builtin "min") [Str.ofString "default"] (rMinD X.K) := by
  intro pins s σ H xs zs us ws Q I r rz h
  obtain ⟨a, ns, d, rfl, rfl, hs, q0, q1⟩ := h
  obtain ⟨its, rv, hl, _⟩ := I.list hs
  obtain ⟨u, rfl, ru⟩ := vals1 rz
  rw [Vals.ref1 r]
  exact min_dflt (I.ok.hd hc) hl.isList rv.ints (fun e h' tk hk => ⟨d, H, I.kept hk, ru, q0 e⟩) fun h' tk m t' hk h1 h2 => ⟨.int m, H, I.kept hk, ⟨_, rfl⟩, q1 m h1 h2⟩
end

theorem cr_minDK {X : Cx} {K : PySem.W.Frag} (hc : X.calm = true) (e : X.K = K := by rfl) : CallRK X (.builtin "min") [Str.ofString "default"] (rMinD K) := e ▸ cr_minD hc
theorem x_minD {K : PySem.W.Frag} {H : Hp} {Q : VK} {a : Addr} {ns : List Int} {d : V} (h : SqL K H a (ns.map V.int)) (q0 : ns = [] → Q d H) (q1 : ∀ m, m ∈ ns → (∀ b, b ∈ ns → m ≤ b) → Q (.int m) H) : rMinD K [.ref a] [d] H Q := ⟨a, ns, d, rfl, rfl, h, q0, q1⟩
/-! ### math.lcm -/
section
variable {X : Cx}
def rLcm : List V → Hp → VK → Prop := fun vs H Q => ∃ a b : Int, vs = [.int a, .int b] ∧ a.natAbs < 2 ^ 10000 ∧ b.natAbs < 2 ^ 10000 ∧ (Nat.lcm a.natAbs b.natAbs) < 2 ^ 20000 ∧ Q (.int ((Nat.lcm a.natAbs b.natAbs : Nat) : Int)) H
theorem log_lt {n k : Nat} (h : n < 2 ^ k) (hk : 0 < k) : n.log2 < k := by
  by_cases h0 : n = 0
  · subst h0
    rw [Nat.log2_zero]
    exact hk
  · exact (Nat.log2_lt h0).mpr h
theorem max_lt2 {a b k : Nat} (ha : a < 2 ^ k) (hb : b < 2 ^ k) : max a b < 2 ^ k := Nat.max_lt.mpr ⟨ha, hb⟩
theorem cr_lcm : CallR X (.builtin "math.lcm") rLcm := by
  intro pins s σ H vs us Q I r h
  obtain ⟨a, b, rfl, ha, hb, hl, q⟩ := h
  obtain ⟨t, u, rfl⟩ := Vals.int2 r
  have e1 : Nat.lcm 1 a.natAbs = a.natAbs := Nat.lcm_one_left _
  have h1 : (max 1 a.natAbs).log2 < 10000 := log_lt (max_lt2 (Nat.one_lt_two_pow (by decide)) ha) (by decide)
  have h2 : (max a.natAbs b.natAbs).log2 < 10000 := log_lt (max_lt2 ha hb) (by decide)
  have h3 : (Nat.lcm a.natAbs b.natAbs).log2 < 20000 := log_lt hl (by decide)
  have h4 : (((((Nat.lcm 1 a.natAbs).lcm b.natAbs : Nat) : Int)).natAbs).log2 < bitsLine := by
    rw [e1, Int.natAbs_natCast]
    exact Nat.lt_of_lt_of_le h3 (by decide)
  refine call_function_meets PySem.W.MGF.kind_lcm PySem.W.MGF.plain_lcm PySem.W.MGF.entry_lcm (PySem.W.MGF.args_lcm _ _) (PySem.W.mg_run_lcm a t b u (by omega) (by omega) h4).meets ?_
  rw [e1]
  exact ⟨.int _, H, I.tok _, ⟨_, rfl⟩, q⟩
end
/-! ### a comprehension in a comprehension -/
def relabel' (scope sc : Scope) : Scope := { scope with names := scope.names.map fun (n, k) => if k == NameKind.free && sc.kind == .function && sc.names.lookup n == some .cell then (n, NameKind.cell) else (n, k) }
theorem relabel_eq (scope : Scope) (env : Env) : relabel scope env = relabel' scope env.scope := rfl
theorem blkOk_byN {N : List Str} {scope0 scope : Scope} {env0 : Env} {own : List (Str × Nat)} (h : blkC N (relabel' scope0 env0.scope) scope own = true) : BlkOk N (relabel scope0 env0) scope own := blkOk_by h
section
variable {X : Cx} {K : PySem.W.Frag} {tg e : Expr} {tl : TE}
theorem pi_listK (h : PE X e tl) (eK : X.K = K := by rfl) : PI X tg e (iList K tl) := eK ▸ pi_list h
theorem pi_tupK (h : PE X e tl) (eK : X.K = K := by rfl) : PI X tg e (iTup K tl) := eK ▸ pi_tup h
end

/-! ### calls by position and by name -/
structure Lkx (P : Program) (w : World) (K : PySem.W.Frag) (mg : Str → Option Value) (base : Heap) (x : Str) (k : Nat) (ps ks : List Str) (gV : List V → List V → List V) (sp : Sp) : Prop where
  ex : ∃ (f : Addr) (fd : FuncData) (g : List Value → List Value → List Value), FnOk P w K mg base CX0 k f fd ps sp ∧ mg x = some (.ref f) ∧ PySem.W.keepIn K (.ref f) = true ∧ KBinds K fd ps ks g gV
section
variable {X : Cx} {k : Nat} {x : Str} {ps ks : List Str} {sp : Sp} {e : Expr} {es : List Expr} {p pos : Pos} {t tk : TA} {kws : List Keyword} {gV : List V → List V → List V}
theorem pe_lkx (L : Lkx X.prog X.w X.K X.mg X.base x k ps ks gV sp) (hr : Room k X.A) (hg : Gl X x) (ha : PA X (e :: es) t) (hkw : PK X kws tk)
    (hall : (backToKw pos (keywordEach kws X.env)).all (·.1.isSome) = true := by rfl) (hks : (backToKw pos (keywordEach kws X.env)).filterMap (·.1) = ks := by rfl)
    (hdb : (x == ("__debug__" : Str)) = false := by decide) (he : starEach (e :: es) X.env = (false, eval e X.env) :: starEach es X.env := by rfl)
    (hpl : ((backTo pos (starEach (e :: es) X.env)).any (·.1) || (backToKw pos (keywordEach kws X.env)).any (·.1.isNone)) = false := by rfl) :
    PE X (.Call (.Name x p) (e :: es) kws pos) (tCallK sp gV E0 t tk) := by
  obtain ⟨f, fd, g, F, hm, hk, hb⟩ := L.ex
  exact pe_callK F hr hg hm hk hb pass0 ha hkw hall hks hdb he hpl
end
theorem x_kwx {σ : SS} {H : Hp} {Q : VK} {sp : Sp} {gV : List V → List V → List V} {t tk : TA} (q : t σ H fun vs H1 => tk σ H1 fun zs H2 => sp (gV vs zs) H2 Q E0) : tCallK sp gV E0 t tk σ H Q := q
/-- n by position, then m by name in their order -/
def gApp (n m : Nat) {α : Type} (us ws : List α) : List α := if us.length = n ∧ ws.length = m then us ++ ws else []
/-- n by name, the other way round -/
def gRev (n : Nat) {α : Type} (ws : List α) : List α := if ws.length = n then ws.reverse else []
theorem vals_app {vs zs : List V} {us ws : List Value} (r : Vals vs us) (q : Vals zs ws) : Vals (vs ++ zs) (us ++ ws) := by
  induction r with
  | nil => exact q
  | cons h _ ih => exact .cons h ih
theorem vals_rev {vs : List V} {us : List Value} (r : Vals vs us) : Vals vs.reverse us.reverse := by
  induction r with
  | nil => exact .nil
  | cons h _ ih =>
    rw [List.reverse_cons, List.reverse_cons]
    exact vals_app ih (.cons h .nil)
theorem gApp_rel {n m : Nat} {vs zs : List V} {us ws : List Value} (r : Vals vs us) (q : Vals zs ws) : Vals (gApp n m vs zs) (gApp n m us ws) := by
  unfold gApp
  rw [r.length, q.length]
  split
  · exact vals_app r q
  · exact .nil
theorem gRev_rel {n : Nat} {zs : List V} {ws : List Value} (q : Vals zs ws) : Vals (gRev n zs) (gRev n ws) := by
  unfold gRev
  rw [q.length]
  split
  · exact vals_rev q
  · exact .nil
theorem gApp_to {n m : Nat} {α : Type} {us ws : List α} (h : (gApp n m us ws).length = n + m) (h0 : 0 < n + m) : us.length = n ∧ ws.length = m := by
  unfold gApp at h
  split at h
  · assumption
  · rw [List.length_nil] at h; omega
theorem gRev_to {n : Nat} {α : Type} {ws : List α} (h : (gRev n ws).length = n) (h0 : 0 < n) : ws.length = n := by
  unfold gRev at h
  split at h
  · assumption
  · rw [List.length_nil] at h; omega
theorem len1 {α : Type} {l : List α} (h : l.length = 1) : ∃ a, l = [a] := by
  match l, h with
  | [a], _ => exact ⟨a, rfl⟩
theorem len2 {α : Type} {l : List α} (h : l.length = 2) : ∃ a b, l = [a, b] := by
  match l, h with
  | [a, b], _ => exact ⟨a, b, rfl⟩
theorem len3 {α : Type} {l : List α} (h : l.length = 3) : ∃ a b c, l = [a, b, c] := by
  match l, h with
  | [a, b, c], _ => exact ⟨a, b, c, rfl⟩
theorem len4 {α : Type} {l : List α} (h : l.length = 4) : ∃ a b c d, l = [a, b, c, d] := by
  match l, h with
  | [a, b, c, d], _ => exact ⟨a, b, c, d, rfl⟩
theorem x_rg2 {σ : SS} {H : Hp} {ta tb : TE} {QR : Int → Int → Hp → Prop} (q : ta σ H fun x H1 => tb σ H1 fun y H2 => ∃ n m, x = .int n ∧ y = .int m ∧ QR n m H2) : tRg2 ta tb σ H QR := q
theorem x_int2 {i j : Int} {R : Int → Int → Prop} (q : R i j) : ∃ n m, V.int i = .int n ∧ V.int j = .int m ∧ R n m := ⟨i, j, rfl, rfl, q⟩
theorem x_isIf {c : TT} {s1 s2 s3 : TS} {D : Ends} {σ : SS} {H : Hp} (q : tSeq (tIfS c s1 s2) s3 D σ H) : tSeq (tIfS c s1 s2) s3 D σ H := q

/-! ### sorted(t), t a tuple of ints -/
section
variable {prog : Program} {w : World} {A : Around} {E : Value → Shared → Prop} {s : Shared}
/-- the list that a walk over a tuple makes first -/
theorem gather_tup {t : Addr} {vs : List Value} {Q : List Value → Shared → Prop} (ht : s.heap.IsTuple t vs.toArray) (hz : vs.length ≤ sizeLine)
    (q : ∀ h', (∀ b o, s.heap.get? b = some o → h'.get? b = some o) → Q vs { s with heap := h' }) : wpAny (model prog w) A (collect (.ref t)) Q E s := by
  obtain ⟨o, ho, hc, n, hd⟩ := id ht
  have kp : (s.heap.push (seqObj "list" #[] 0)).get? t = some o := Heap.get?_push_of_some _ ho
  have nw : (s.heap.push (seqObj "list" #[] 0)).get? s.heap.objs.size = some (seqObj "list" #[] 0) := Heap.get?_push_size _ rfl
  have tt : (Value.type "tuple" == Value.type "tuple") = true := by rfl
  unfold collect
  refine wpAny_bind (wpAny_runValue (codeAny_builtin entry_proto_collect' (show wpAny _ _ (do again (.builtin "list.__iadd__" ⟨[← newList [], .ref t], []⟩)) _ _ s from
    wpAny_bind (wpAny_newList (wpAny_pure ⟨Code.quiet_builtin _ (by decide +kernel), codeAny_builtin entry_list_iadd'
      (show wpAny _ _ (Builtin.List.listExtendWith (.ref s.heap.objs.size) (.ref t) (.ref s.heap.objs.size)) _ _ { s with heap := s.heap.push (seqObj "list" #[] 0) } from ?_)⟩)))))
  unfold Builtin.List.listExtendWith
  refine wpAny_bind (wpAny_typeOf (T := "tuple") ⟨o, kp, hc⟩ ?_)
  rw [if_pos (by rw [tt]; simp)]
  refine wpAny_bind (listItems_at kp hd (wpAny_bind (listItems_at nw rfl ?_)))
  rw [if_neg (by simp)]
  refine wpAny_bind (listUpdate_at nw rfl (wpAny_pure ?_) (Nat.zero_le _) (by show (#[] ++ vs.toArray).size ≤ sizeLine + 1; simp only [Array.size_append, List.size_toArray, List.length_nil]; omega))
  show wpAny (model prog w) A (load s.heap.objs.size >>= fun o => match o.data with | .seq xs _ => pure xs.toList | _ => unsupported "internal:collect") Q E { s with heap := (s.heap.push (seqObj "list" #[] 0)).update s.heap.objs.size (Obj.mapSeq (· ++ vs.toArray)) }
  refine wpAny_bind (wpAny_load (get?_update_seq nw _) ?_)
  show wpAny _ _ (pure ((#[] : Array Value) ++ vs.toArray).toList) Q E _
  have e : ((#[] : Array Value) ++ vs.toArray).toList = vs := by simp
  rw [e]
  refine wpAny_pure (q _ fun b o' e' => ?_)
  rw [Heap.get?_update_other _ _ (Ne.symm (Nat.ne_of_lt (Heap.lt_size e')))]
  exact Heap.get?_push_of_some _ e'
end
section
variable {X : Cx}
def rSortedTup (K : PySem.W.Frag) : List V → Hp → VK → Prop := fun xs H Q => ∃ (a : Addr) (ks : List Int), xs = [.ref a] ∧ SqT K H a (ks.map V.int) ∧
    ∀ (ns : List Int) (p : Addr), ns.Perm ks → ns.Pairwise (· ≤ ·) → H p = none → Q (.ref p) (upd H p (.lst (ns.map V.int)))
theorem cr_sortedTup : CallR X (.builtin "sorted") (rSortedTup X.K) := by
  intro pins s σ H xs us Q I r q
  obtain ⟨a, ks, rfl, ht, q⟩ := q
  obtain ⟨its, rv, htup, hz0⟩ := I.tuple ht
  rw [Vals.ref1 r]
  have hal : its.length = ks.length := by rw [← rv.length, List.length_map]
  have hz : its.length ≤ sizeLine := by rw [← rv.length]; exact hz0
  refine Calls.call_function_entry PyProof.Rows.kind_sorted PyProof.Rows.plain_sorted PyProof.Rows.entry_sorted (PyProof.Rows.args_sorted1 _) ?_
  unfold Builtin.«sorted»
  refine wpAny_bind (m := checkCount "sorted" 1 1 _) (wpAny_pure (wpAny_bind (gather_tup htup hz fun h' hk => ?_)))
  have hi := rv.ints
  have I1 : Inv X pins σ H { s with heap := h', toks := s.toks } := I.kept hk
  refine wpAny_bind (wpAny_newList ?_ hz)
  have hoL : (h'.push (PyProof.Rows.seqObj "list" its.toArray 0)).get? h'.objs.size = some (PyProof.Rows.seqObj "list" its.toArray 0) := Heap.get?_push_size _ rfl
  show wpAny _ _ _ _ _ { s with heap := h'.push (PyProof.Rows.seqObj "list" its.toArray 0), toks := s.toks }
  refine wpAny_bind (wpAny_holding (wpAny_call_entry PyProof.Rows.slot_list_sort ⟨_, hoL, rfl⟩ PyProof.Rows.entry_list_sort
    (SrtO.list_sort_ord SrtO.swo_int hoL hz (fun h2 => SrtO.ints_sortable hi h2) fun out h1 h2 => ⟨_, rfl, ?_⟩) (PyProof.Rows.args_list_sort _)))
  obtain ⟨k1, k2, k3⟩ := SrtO.ints_out hi h1 h2
  obtain ⟨e', he'⟩ := PyProof.Rows.sortedHeap_at (vs := its) (out := out.toArray) hoL
  have hlen : ((out.map SrtO.iv).map V.int).length ≤ sizeLine := by
    rw [List.length_map, k2.length_eq, ← hal]
    exact hz
  refine wpAny_pure ⟨_, rfl, .ref h'.objs.size, upd H h'.objs.size (.lst ((out.map SrtO.iv).map V.int)), I1.laid (t' := s.toks) (fun b u e => ?_) (Nat.le_refl _)
    (show ObjOk X.prog X.w _ _ _ (.lst ((out.map SrtO.iv).map V.int)) from ⟨hlen, out, e', vals_of_ints k1, he'⟩), rfl, q _ _ k2 k3 (I1.hok.fresh (Nat.le_refl _))⟩
  have hb : b < h'.objs.size := Heap.lt_size e
  rw [PyProof.Rows.sortedHeap_old (Nat.ne_of_lt hb) (by rw [size_push']; exact Nat.lt_succ_of_lt hb)]
  exact Heap.get?_push_of_some _ e
end
theorem x_sortedTup {K : PySem.W.Frag} {H : Hp} {Q : VK} {a : Addr} {ks : List Int} (h : SqT K H a (ks.map V.int)) (q : ∀ (ns : List Int) (p : Addr), ns.Perm ks → ns.Pairwise (· ≤ ·) → H p = none → Q (.ref p) (upd H p (.lst (ns.map V.int)))) : rSortedTup K [.ref a] H Q := ⟨a, ks, rfl, h, q⟩

local macro_rules | `(tactic| walk_at "lk") => `(tactic| first
  | assumption
  | exact upd_same
  | (refine' lk_ne ?h (by assumption); (case h => walk_at "lk"))
  | (refine' lk_ne2 ?n ?h; (case n => walk_at "ne"); (case h => walk_at "lk"))
  | (refine' lk_keep (by assumption) ?n ?h; (case n => walk_at "nin"); (case h => walk_at "lk")))
local macro_rules | `(tactic| walk_at "ne") => `(tactic| first
  | assumption
  | exact Ne.symm (by assumption))
local macro_rules | `(tactic| walk_at "nin") => `(tactic| first
  | assumption
  | (simp only [List.mem_cons, List.not_mem_nil, or_false, not_or, not_false_eq_true, and_true]; (repeat' apply And.intro); all_goals walk_at "ne"))
local macro_rules | `(tactic| walk_at "lkL") => `(tactic| first
  | assumption
  | (refine' SqL.of ?h; (case h => walk_at "lk"))
  | (refine' Kx.sqL ?k ?n ?h; (case k => walk_at "kx"); (case n => walk_at "nin"); (case h => walk_at "lkL")))
local macro_rules | `(tactic| walk_at "kx") => `(tactic| first
  | assumption
  | (refine' Kx.new ?k ?n; (case n => assumption); (case k => first | walk_at "kx" | exact Kx.refl [] _)))
local macro_rules | `(tactic| walk_at "lkT") => `(tactic| first
  | assumption
  | (refine' SqT.of ?h; (case h => walk_at "lk"))
  | (refine' FT.seq ?h; (case h => assumption))
  | (refine' Kx.sqT ?k ?n ?h; (case k => walk_at "kx"); (case n => walk_at "nin"); (case h => walk_at "lkT")))
local macro_rules | `(tactic| walk_at "sz") => `(tactic| first
  | exact Nat.zero_le _
  | (show (_ : Nat) ≤ sizeLine; decide)
  | (refine Nat.le_of_lt (small1000 ?h); (case h => first | omega | (simp; done) | (simp; omega))))
local macro_rules | `(tactic| walk_at "at") => `(tactic| first
  | exact rfl
  | assumption)
local macro_rules | `(tactic| walk_at "side") => `(tactic| first
  | assumption
  | (show (0 : Int) < _; first | decide | omega)
  | exact Or.inl ⟨by omega, by omega⟩
  | exact Or.inr ⟨by omega, by omega⟩
  | exact ⟨by omega, by omega⟩
  | exact ⟨by decide, by decide, by decide⟩
  | exact ⟨by decide, by decide, natAbs_lt (by omega) (by omega)⟩
  | exact small1000 (by first | omega | (simp; done) | (simp; omega))
  | omega)
local macro_rules | `(tactic| walk_at "rd") => `(tactic| dsimp only)
local macro_rules | `(tactic| walk_at "rd") => `(tactic| ((with_reducible refine' x_c  ?_)))
local macro_rules | `(tactic| walk_at "rd") => `(tactic| ((with_reducible refine' x_op  ?_)))
local macro_rules | `(tactic| walk_at "rd") => `(tactic| ((with_reducible refine' x_un  ?_)))
local macro_rules | `(tactic| walk_at "rd") => `(tactic| ((with_reducible refine' x_I0  ?_)))
local macro_rules | `(tactic| walk_at "rd") => `(tactic| ((with_reducible refine' x_U  ?_)))
local macro_rules | `(tactic| walk_at "rd") => `(tactic| ((with_reducible refine' x_isN  ?_)))
local macro_rules | `(tactic| walk_at "rd") => `(tactic| ((with_reducible refine' x_notN  ?_)))
local macro_rules | `(tactic| walk_at "rd") => `(tactic| ((with_reducible refine' x_nil  ?_)))
local macro_rules | `(tactic| walk_at "rd") => `(tactic| ((with_reducible refine' x_cons  ?_)))
local macro_rules | `(tactic| walk_at "rd") => `(tactic| ((with_reducible refine' x_lst  ?_)))
local macro_rules | `(tactic| walk_at "rd") => `(tactic| ((with_reducible refine' x_tup  ?_)))
local macro_rules | `(tactic| walk_at "rd") => `(tactic| ((with_reducible refine' x_tupF  ?_)))
local macro_rules | `(tactic| walk_at "rd") => `(tactic| ((with_reducible refine' x_CB  ?_)))
local macro_rules | `(tactic| walk_at "rd") => `(tactic| ((with_reducible refine' x_call  ?_)))
local macro_rules | `(tactic| walk_at "rd") => `(tactic| ((with_reducible refine' x_test  ?_)))
local macro_rules | `(tactic| walk_at "rd") => `(tactic| ((with_reducible refine' x_bl  ?_)))
local macro_rules | `(tactic| walk_at "rd") => `(tactic| ((with_reducible refine' x_B  ?_)))
local macro_rules | `(tactic| walk_at "rd") => `(tactic| ((with_reducible refine' x_andV  ?_)))
local macro_rules | `(tactic| walk_at "rd") => `(tactic| ((with_reducible refine' x_orV  ?_)))
local macro_rules | `(tactic| walk_at "rd") => `(tactic| ((with_reducible refine' x_notV  ?_)))
local macro_rules | `(tactic| walk_at "rd") => `(tactic| ((with_reducible refine' x_and  ?_)))
local macro_rules | `(tactic| walk_at "rd") => `(tactic| ((with_reducible refine' x_or  ?_)))
local macro_rules | `(tactic| walk_at "rd") => `(tactic| ((with_reducible refine' x_not  ?_)))
local macro_rules | `(tactic| walk_at "rd") => `(tactic| ((with_reducible refine' x_if  ?_)))
local macro_rules | `(tactic| walk_at "rd") => `(tactic| ((with_reducible refine' x_sl  ?_)))
local macro_rules | `(tactic| walk_at "rd") => `(tactic| ((with_reducible refine' x_no  ?_)))
local macro_rules | `(tactic| walk_at "rd") => `(tactic| ((with_reducible refine' x_part  ?_)))
local macro_rules | `(tactic| walk_at "rd") => `(tactic| ((with_reducible refine' x_int  ?_)))
local macro_rules | `(tactic| walk_at "rd") => `(tactic| ((with_reducible refine' x_seq  ?_)))
local macro_rules | `(tactic| walk_at "rd") => `(tactic| ((with_reducible refine' x_next  ?_)))
local macro_rules | `(tactic| walk_at "rd") => `(tactic| ((with_reducible refine' x_brk  ?_)))
local macro_rules | `(tactic| walk_at "rd") => `(tactic| ((with_reducible refine' x_cont  ?_)))
local macro_rules | `(tactic| walk_at "rd") => `(tactic| ((with_reducible refine' x_drop  ?_)))
local macro_rules | `(tactic| walk_at "rd") => `(tactic| ((with_reducible refine' x_ret  ?_)))
local macro_rules | `(tactic| walk_at "rd") => `(tactic| ((with_reducible refine' x_retN  ?_)))
local macro_rules | `(tactic| walk_at "rd") => `(tactic| ((with_reducible refine' x_asg  ?_)))
local macro_rules | `(tactic| walk_at "rd") => `(tactic| ((with_reducible refine' x_gnil  ?_)))
local macro_rules | `(tactic| walk_at "rd") => `(tactic| ((with_reducible refine' x_gcons  ?_)))
local macro_rules | `(tactic| walk_at "rd") => `(tactic| ((with_reducible refine' x_gsub  ?_)))
local macro_rules | `(tactic| walk_at "rd") => `(tactic| ((with_reducible refine' x_par  ?_)))
local macro_rules | `(tactic| walk_at "rd") => `(tactic| ((with_reducible refine' x_ifS  ?_)))
local macro_rules | `(tactic| walk_at "rd") => `(tactic| ((with_reducible refine' x_ipI  ?_)))
local macro_rules | `(tactic| walk_at "rd") => `(tactic| ((with_reducible refine' x_augS  ?_)))
local macro_rules | `(tactic| walk_at "rd") => `(tactic| ((with_reducible refine' x_abs  ?_)))
local macro_rules | `(tactic| walk_at "rd") => `(tactic| ((with_reducible refine' x_toI  ?_)))
local macro_rules | `(tactic| walk_at "rd") => `(tactic| ((with_reducible refine' x_toIb  ?_)))
local macro_rules | `(tactic| walk_at "rd") => `(tactic| ((with_reducible refine' x_min2  ?_)))
local macro_rules | `(tactic| walk_at "rd") => `(tactic| ((with_reducible refine' x_bm  ?_)))
local macro_rules | `(tactic| walk_at "rd") => `(tactic| ((with_reducible refine' x_bm0  ?_)))
local macro_rules | `(tactic| walk_at "rd") => `(tactic| ((with_reducible refine' x_bmF  ?_)))
local macro_rules | `(tactic| walk_at "rd") => `(tactic| ((with_reducible refine' x_lrg  ?_)))
local macro_rules | `(tactic| walk_at "rd") => `(tactic| ((with_reducible refine' x_yes  ?_)))
local macro_rules | `(tactic| walk_at "rd") => `(tactic| ((with_reducible refine' x_rg1  ?_)))
local macro_rules | `(tactic| walk_at "rd") => `(tactic| ((with_reducible refine' x_for  ?_)))
local macro_rules | `(tactic| walk_at "rd") => `(tactic| ((with_reducible refine' x_lc  ?_)))
local macro_rules | `(tactic| walk_at "rd") => `(tactic| ((with_reducible refine' x_iL  ?_)))
local macro_rules | `(tactic| walk_at "rd") => `(tactic| ((with_reducible refine' x_iT  ?_)))
local macro_rules | `(tactic| walk_at "rd") => `(tactic| ((with_reducible refine' x_iR1  ?_)))
local macro_rules | `(tactic| walk_at "rd") => `(tactic| ((with_reducible refine' x_iR2  ?_)))
local macro_rules | `(tactic| walk_at "rd") => `(tactic| ((with_reducible refine' x_iE  ?_)))
local macro_rules | `(tactic| walk_at "rd") => `(tactic| ((with_reducible refine' x_iET  ?_)))
local macro_rules | `(tactic| walk_at "rd") => `(tactic| ((with_reducible refine' x_name  ?_); try simp only [List.set_cons_zero, List.set_cons_succ]))
local macro_rules | `(tactic| walk_at "rd") => `(tactic| ((with_reducible refine' x_new ?s0 ?_); (case s0 => walk_at "sz"); intro _ _))
local macro_rules | `(tactic| walk_at "rd") => `(tactic| ((with_reducible refine' x_newF ?s0 ?_); (case s0 => walk_at "sz"); intro _ _ _ _ _))
local macro_rules | `(tactic| walk_at "rd") => `(tactic| ((with_reducible refine' x_iteT  ?_)))
local macro_rules | `(tactic| walk_at "rd") => `(tactic| ((with_reducible refine' x_iteF  ?_)))
local macro_rules | `(tactic| walk_at "rd") => `(tactic| ((with_reducible refine' x_neNil ?s0 ?s1 ?_); (case s0 => walk_at "lkL"); (case s1 => walk_at "lkL")))
local macro_rules | `(tactic| walk_at "rd") => `(tactic| ((with_reducible refine' x_two  ?_); try simp only [List.set_cons_zero, List.set_cons_succ]))
local macro_rules | `(tactic| walk_at "rd") => `(tactic| ((with_reducible refine' x_getL ?s0 ?s1 ?_); (case s0 => walk_at "lkL"); (case s1 => walk_at "at")))
local macro_rules | `(tactic| walk_at "rd") => `(tactic| ((with_reducible refine' x_var ?s0 ?_); (case s0 => exact rfl)))
local macro_rules | `(tactic| walk_at "rd") => `(tactic| ((with_reducible refine' x_eq ?s0 ?_); (case s0 => exact rfl)))
local macro_rules | `(tactic| walk_at "rd") => `(tactic| ((with_reducible refine' x_ne ?s0 ?_); (case s0 => exact rfl)))
local macro_rules | `(tactic| walk_at "rd") => `(tactic| ((with_reducible refine' x_I ?s0 ?_); (case s0 => walk_at "side")))
local macro_rules | `(tactic| walk_at "rd") => `(tactic| ((with_reducible refine' x_ixL ?s0 ?s1 ?_); (case s0 => walk_at "lkL"); (case s1 => walk_at "at")))
local macro_rules | `(tactic| walk_at "rd") => `(tactic| ((with_reducible refine' x_ixT ?s0 ?s1 ?_); (case s0 => walk_at "lkT"); (case s1 => walk_at "at")))
local macro_rules | `(tactic| walk_at "rd") => `(tactic| ((with_reducible refine' x_slL ?s0 ?_); (case s0 => walk_at "lkL")))
local macro_rules | `(tactic| walk_at "rd") => `(tactic| ((with_reducible refine' x_gtup ?s0 ?s1 ?_); (case s0 => walk_at "lkT"); (case s1 => exact rfl)))
local macro_rules | `(tactic| walk_at "rd") => `(tactic| ((with_reducible refine' x_setL ?s0 ?s1 ?_); (case s0 => walk_at "lk"); (case s1 => walk_at "at"); try simp only [Int.reduceToNat, List.set]))
local macro_rules | `(tactic| walk_at "rd") => `(tactic| ((with_reducible refine' x_aug ?s0 ?_); (case s0 => exact rfl)))
local macro_rules | `(tactic| walk_at "rd") => `(tactic| ((with_reducible refine' x_lenS ?s0 ?_); (case s0 => walk_at "lkL")))
local macro_rules | `(tactic| walk_at "rd") => `(tactic| ((with_reducible refine' x_lenT ?s0 ?_); (case s0 => walk_at "lkT")))
local macro_rules | `(tactic| walk_at "rd") => `(tactic| ((with_reducible refine' x_tupS ?s0 ?_); (case s0 => walk_at "lkL")))
local macro_rules | `(tactic| walk_at "rd") => `(tactic| ((with_reducible refine' x_tupF1 ?s0 ?_); (case s0 => walk_at "lkL")))
local macro_rules | `(tactic| walk_at "rd") => `(tactic| ((with_reducible refine' x_insert ?s0 ?s1 ?s2 ?s3 ?_); (case s0 => walk_at "lk"); (case s1 => walk_at "side"); (case s2 => walk_at "side"); (case s3 => walk_at "side")))
local macro_rules | `(tactic| walk_at "rd") => `(tactic| ((with_reducible refine' x_append ?s0 ?s1 ?_); (case s0 => walk_at "lk"); (case s1 => walk_at "side")))
local macro_rules | `(tactic| walk_at "rd") => `(tactic| ((with_reducible refine' x_reverse ?s0 ?_); (case s0 => walk_at "lk")))
local macro_rules | `(tactic| walk_at "rd") => `(tactic| ((with_reducible refine' x_dc  ?_)))
local macro_rules | `(tactic| walk_at "rd") => `(tactic| ((with_reducible refine' x_while  ?_)))
local macro_rules | `(tactic| walk_at "rd") => `(tactic| ((with_reducible refine' x_din  ?_)))
local macro_rules | `(tactic| walk_at "rd") => `(tactic| ((with_reducible refine' x_dnotin  ?_)))
local macro_rules | `(tactic| walk_at "rd") => `(tactic| ((with_reducible refine' x_dput  ?_)))
local macro_rules | `(tactic| walk_at "rd") => `(tactic| ((with_reducible refine' x_dget  ?_)))
local macro_rules | `(tactic| walk_at "rd") => `(tactic| ((with_reducible refine' x_pop ?s0 ?s1 ?_); (case s0 => walk_at "lk"); (case s1 => walk_at "at")))
local macro_rules | `(tactic| walk_at "rd") => `(tactic| ((with_reducible refine' x_dgI ?s0 ?_); (case s0 => walk_at "lk")))
local macro_rules | `(tactic| walk_at "rd") => `(tactic| ((with_reducible refine' x_dpI ?s0 ?s1 ?_); (case s0 => walk_at "lk"); (case s1 => walk_at "side")))
local macro_rules | `(tactic| walk_at "rd") => `(tactic| ((with_reducible refine' x_listD ?s0 ?_); (case s0 => walk_at "lk"); intro _ _))
local macro_rules | `(tactic| walk_at "rd") => `(tactic| ((with_reducible refine' x_truthL ?s0 ?_); (case s0 => walk_at "lkL")))
local macro_rules | `(tactic| walk_at "rd") => `(tactic| ((with_reducible refine' x_inL ?s0 ?s1 ?s2 ?_); (case s0 => walk_at "lkL"); (case s1 => exact rfl); (case s2 => first | assumption | exact flat_ints _)))
local macro_rules | `(tactic| walk_at "rd") => `(tactic| ((with_reducible refine' x_notInL ?s0 ?s1 ?s2 ?_); (case s0 => walk_at "lkL"); (case s1 => exact rfl); (case s2 => first | assumption | exact flat_ints _)))
local macro_rules | `(tactic| walk_at "rd") => `(tactic| ((with_reducible refine' x_kw  ?_)))
local macro_rules | `(tactic| walk_at "rd") => `(tactic| ((with_reducible refine' x_ckw  ?_)))
local macro_rules | `(tactic| walk_at "rd") => `(tactic| ((with_reducible refine' x_iR3  ?_)))
local macro_rules | `(tactic| walk_at "rd") => `(tactic| ((with_reducible refine' x_par3  ?_); try simp only [List.set_cons_zero, List.set_cons_succ]))
local macro_rules | `(tactic| walk_at "rd") => `(tactic| ((with_reducible refine' x_three  ?_); try simp only [List.set_cons_zero, List.set_cons_succ]))
local macro_rules | `(tactic| walk_at "rd") => `(tactic| ((with_reducible refine' x_orT  ?_)))
local macro_rules | `(tactic| walk_at "rd") => `(tactic| ((with_reducible refine' x_truN  ?_)))
local macro_rules | `(tactic| walk_at "rd") => `(tactic| ((with_reducible refine' x_truT ?s0 ?_); (case s0 => walk_at "lkT")))
local macro_rules | `(tactic| walk_at "rd") => `(tactic| ((with_reducible refine' x_glst ?s0 ?s1 ?_); (case s0 => walk_at "lkL"); (case s1 => exact rfl)))
local macro_rules | `(tactic| walk_at "rd") => `(tactic| ((with_reducible refine' x_chain  ?_)))
local macro_rules | `(tactic| walk_at "rd") => `(tactic| ((with_reducible refine' x_isiII  ?_)))
local macro_rules | `(tactic| walk_at "rd") => `(tactic| ((with_reducible refine' x_isiIB  ?_)))
local macro_rules | `(tactic| walk_at "rd") => `(tactic| ((with_reducible refine' x_revL  ?_)))
local macro_rules | `(tactic| walk_at "rd") => `(tactic| ((with_reducible refine' x_kwx  ?_)))
local macro_rules | `(tactic| walk_at "rd") => `(tactic| ((with_reducible refine' x_rg2  ?_)))
local macro_rules | `(tactic| walk_at "rd") => `(tactic| ((with_reducible refine' x_int2  ?_)))
local macro_rules | `(tactic| walk_at "rd") => `(tactic| ((with_reducible refine' x_dget2  ?_)))
def topS (i : Nat) : Stmt := PySem.Challenge.pw_slotfall_k15_whole_limit_changes_only_th.main.body.getD i (.Pass ⟨0, 0, 0, 0⟩)
abbrev sWall : Stmt := topS 0
theorem scWall : FnScope ["k"] ["k"] (defScope sWall) := ⟨rfl, rfl, rfl, by decide +kernel, rfl, by decide +kernel, by decide +kernel⟩
abbrev sNoNodeInit : Stmt := inClass (topS 3) 0
theorem scNoNodeInit : FnScope ["self", "node"] ["self", "node"] (defScope sNoNodeInit) := ⟨rfl, rfl, rfl, by decide +kernel, rfl, by decide +kernel, by decide +kernel⟩
abbrev sNoReferenceInit : Stmt := inClass (topS 4) 0
theorem scNoReferenceInit : FnScope ["self", "node"] ["self", "node"] (defScope sNoReferenceInit) := ⟨rfl, rfl, rfl, by decide +kernel, rfl, by decide +kernel, by decide +kernel⟩
abbrev sIsInteger : Stmt := topS 6
theorem scIsInteger : FnScope ["value"] ["value"] (defScope sIsInteger) := ⟨rfl, rfl, rfl, by decide +kernel, rfl, by decide +kernel, by decide +kernel⟩
abbrev sIsBetween : Stmt := topS 7
theorem scIsBetween : FnScope ["value", "low", "high"] ["value", "low", "high"] (defScope sIsBetween) := ⟨rfl, rfl, rfl, by decide +kernel, rfl, by decide +kernel, by decide +kernel⟩
abbrev sIsLive : Stmt := topS 9
theorem scIsLive : FnScope ["heap", "value", "slots"] ["heap", "value"] (defScope sIsLive) := ⟨rfl, rfl, rfl, by decide +kernel, rfl, by decide +kernel, by decide +kernel⟩
abbrev sNeedLive : Stmt := topS 10
theorem scNeedLive : FnScope ["heap", "node"] ["heap", "node"] (defScope sNeedLive) := ⟨rfl, rfl, rfl, by decide +kernel, rfl, by decide +kernel, by decide +kernel⟩
abbrev sNeedReference : Stmt := topS 11
theorem scNeedReference : FnScope ["heap", "node"] ["heap", "node"] (defScope sNeedReference) := ⟨rfl, rfl, rfl, by decide +kernel, rfl, by decide +kernel, by decide +kernel⟩
abbrev sCounts : Stmt := topS 13
theorem scCounts : FnScope ["heap", "slots", "outside", "uses", "node", "row"] ["heap"] (defScope sCounts) := ⟨rfl, rfl, rfl, by decide +kernel, rfl, by decide +kernel, by decide +kernel⟩
abbrev sSlotUses : Stmt := topS 14
theorem scSlotUses : FnScope ["slots", "uses", "row", "held"] ["slots"] (defScope sSlotUses) := ⟨rfl, rfl, rfl, by decide +kernel, rfl, by decide +kernel, by decide +kernel⟩
abbrev sReleasingInit : Stmt := inClass (topS 16) 0
theorem scReleasingInit : FnScope ["self", "heap", "limit", "row"] ["self", "heap", "limit"] (defScope sReleasingInit) := ⟨rfl, rfl, rfl, by decide +kernel, rfl, by decide +kernel, by decide +kernel⟩
abbrev sReleasingDrop : Stmt := inClass (topS 16) 1
theorem scReleasingDrop : FnScope ["self", "node", "taken"] ["self", "node"] (defScope sReleasingDrop) := ⟨rfl, rfl, rfl, by decide +kernel, rfl, by decide +kernel, by decide +kernel⟩
abbrev sReleasingPut : Stmt := inClass (topS 16) 2
theorem scReleasingPut : FnScope ["self", "node", "slot", "target", "held"] ["self", "node", "slot", "target"] (defScope sReleasingPut) := ⟨rfl, rfl, rfl, by decide +kernel, rfl, by decide +kernel, by decide +kernel⟩
abbrev sReleasingEmpty : Stmt := inClass (topS 16) 3
theorem scReleasingEmpty : FnScope ["self", "node", "slot"] ["self", "node"] (defScope sReleasingEmpty) := ⟨rfl, rfl, rfl, by decide +kernel, rfl, by decide +kernel, by decide +kernel⟩
abbrev sReleasingResult : Stmt := inClass (topS 16) 4
theorem scReleasingResult : FnScope ["self", "log", "peak", "rows", "event", "row"] ["self"] (defScope sReleasingResult) := ⟨rfl, rfl, rfl, by decide +kernel, rfl, by decide +kernel, by decide +kernel⟩
abbrev sReleasingSpared : Stmt := inClass (topS 16) 5
theorem scReleasingSpared : FnScope ["self"] ["self"] (defScope sReleasingSpared) := ⟨rfl, rfl, rfl, by decide +kernel, rfl, by decide +kernel, by decide +kernel⟩
abbrev sReleasingReleaseAll : Stmt := inClass (topS 16) 6
theorem scReleasingReleaseAll : FnScope ["self", "holder", "slot", "node", "depth"] ["self"] (defScope sReleasingReleaseAll) := ⟨rfl, rfl, rfl, by decide +kernel, rfl, by decide +kernel, by decide +kernel⟩
abbrev sReleasingRelease : Stmt := inClass (topS 16) 7
theorem scReleasingRelease : FnScope ["self", "holder", "slot", "node", "depth", "left"] ["self", "holder", "slot", "node", "depth"] (defScope sReleasingRelease) := ⟨rfl, rfl, rfl, by decide +kernel, rfl, by decide +kernel, by decide +kernel⟩
abbrev sReleasingDestroy : Stmt := inClass (topS 16) 8
theorem scReleasingDestroy : FnScope ["self", "node", "depth", "row", "slot"] ["self", "node", "depth"] (defScope sReleasingDestroy) := ⟨rfl, rfl, rfl, by decide +kernel, rfl, by decide +kernel, by decide +kernel⟩
abbrev sRunDrop : Stmt := topS 18
theorem scRunDrop : FnScope ["heap", "node", "limit", "work"] ["heap", "node", "limit"] (defScope sRunDrop) := ⟨rfl, rfl, rfl, by decide +kernel, rfl, by decide +kernel, by decide +kernel⟩
abbrev sDrop : Stmt := topS 20
theorem scDrop : FnScope ["heap", "node", "limit"] ["heap", "node", "limit"] (defScope sDrop) := ⟨rfl, rfl, rfl, by decide +kernel, rfl, by decide +kernel, by decide +kernel⟩
abbrev sTrace : Stmt := topS 22
theorem scTrace : FnScope ["heap", "node", "limit"] ["heap", "node", "limit"] (defScope sTrace) := ⟨rfl, rfl, rfl, by decide +kernel, rfl, by decide +kernel, by decide +kernel⟩
abbrev sQPen : Stmt := topS 24
theorem scQPen : FnScope ["_law_script"] ["_law_script"] (defScope sQPen) := ⟨rfl, rfl, rfl, by decide +kernel, rfl, by decide +kernel, by decide +kernel⟩
abbrev sQDraw : Stmt := topS 25
theorem scQDraw : FnScope ["_law_pen_here", "_law_most_one", "_law_digit", "_law_place", "_law_cell", "_law_whole", "_law_mixed"] ["_law_pen_here", "_law_most_one"] (defScope sQDraw) := ⟨rfl, rfl, rfl, by decide +kernel, rfl, by decide +kernel, by decide +kernel⟩
abbrev sQShuffled : Stmt := topS 26
theorem scQShuffled : FnScope ["_law_pen_here", "_law_row", "_law_result", "_law_entry"] ["_law_pen_here", "_law_row"] (defScope sQShuffled) := ⟨rfl, rfl, rfl, by decide +kernel, rfl, by decide +kernel, by decide +kernel⟩
abbrev sQLinked : Stmt := topS 27
theorem scQLinked : FnScope ["_law_pen_here", "_law_labels", "_law_alive", "_law_rows", "_law_way", "_law_place", "_law_near", "_law_back", "_law_row", "_law_forward", "_law_turn", "_law_one", "_law_other", "_law_entry", "_law_label"] ["_law_pen_here", "_law_labels", "_law_alive"] (defScope sQLinked) := ⟨rfl, rfl, rfl, by decide +kernel, rfl, by decide +kernel, by decide +kernel⟩
abbrev sQBase : Stmt := topS 28
theorem scQBase : FnScope ["_law_pen_here", "_law_alive", "_law_spare", "_law_labels", "_law_rows", "_law_label", "_law_handles", "_law_turn", "_law_row"] ["_law_pen_here"] (defScope sQBase) := ⟨rfl, rfl, rfl, by decide +kernel, rfl, by decide +kernel, by decide +kernel⟩
abbrev sQBound : Stmt := topS 29
theorem scQBound : FnScope ["_law_pen_here", "_law_size", "_law_some"] ["_law_pen_here", "_law_size"] (defScope sQBound) := ⟨rfl, rfl, rfl, by decide +kernel, rfl, by decide +kernel, by decide +kernel⟩
abbrev sQHeldBy : Stmt := topS 30
theorem scQHeldBy : FnScope ["_law_base_here", "_law_row", "_law_found", "_law_holder", "_law_entry"] ["_law_base_here"] (defScope sQHeldBy) := ⟨rfl, rfl, rfl, by decide +kernel, rfl, by decide +kernel, by decide +kernel⟩
abbrev sQLost : Stmt := topS 31
theorem scQLost : FnScope ["_law_base_here", "_law_spot", "_law_held_by_here", "_law_place", "_law_outer", "_law_found", "_law_before", "_law_row", "_law_ready", "_law_number", "_law_one"] ["_law_base_here", "_law_spot", "_law_held_by_here"] (defScope sQLost) := ⟨rfl, rfl, rfl, by decide +kernel, rfl, by decide +kernel, by decide +kernel⟩
abbrev sQRight : Stmt := topS 32
theorem scQRight : FnScope ["_law_base_here", "_law_spot", "_law_bounds", "_law_held_by_here", "_law_lost_here", "_law_place", "_law_entry", "_law_filled", "_law_after", "_law_bound_here", "_law_log", "_law_high", "_law_left", "_law_one", "_law_event"] ["_law_base_here", "_law_spot", "_law_bounds"] (defScope sQRight) := ⟨rfl, rfl, rfl, by decide +kernel, rfl, by decide +kernel, by decide +kernel⟩
abbrev sLaw : Stmt := topS 33
theorem scLaw : FnScope ["_law_script", "_law_pen_here", "_law_turn", "_law_base_here", "_law_spot", "_law_others", "_law_one", "_law_bounds", "_law_place", "_law_number", "_law_k"] ["_law_script"] (defScope sLaw) := ⟨rfl, rfl, rfl, by decide +kernel, rfl, by decide +kernel, by decide +kernel⟩

structure Txt (mg : Str → Option Value) : Prop where
  b_len : mg "len" = none
  b_abs : mg "abs" = none
  b_int : mg "int" = none
  b_bool : mg "bool" = none
  b_list : mg "list" = none
  b_tuple : mg "tuple" = none
  b_min : mg "min" = none
  b_max : mg "max" = none
  b_sum : mg "sum" = none
  b_any : mg "any" = none
  b_all : mg "all" = none
  b_repr : mg "repr" = none
  b_sorted : mg "sorted" = none
  b_isinstance : mg "isinstance" = none
  b_range : mg "range" = none
  b_enumerate : mg "enumerate" = none

/-- the pen at p over the cells at c: at most n cells drawn -/
def PenAt (H : Hp) (p c : Addr) (n : Nat) : Prop := ∃ (cs : List Int) (pl r : Int), H p = some (.lst [.ref c, .int pl, .int r]) ∧ H c = some (.lst (cs.map V.int)) ∧ cs.length ≤ 63 ∧ 0 ≤ pl ∧ pl ≤ n ∧ 0 ≤ r
theorem PenAt.ne {H : Hp} {p c : Addr} {n : Nat} (h : PenAt H p c n) : c ≠ p := by
  obtain ⟨cs, pl, r, h1, h2, _⟩ := h
  rintro rfl
  rw [h1] at h2
  have e := HO.lst.inj (Option.some.inj h2)
  cases cs with
  | nil => cases e
  | cons z t => cases (List.cons.inj e).1
def spDraw : Sp := fun vs H Q _ => ∃ (p c : Addr) (n : Nat) (m : Int), vs = [.ref p, .int m] ∧ PenAt H p c n ∧ n < 1000000 ∧ 0 < m ∧ m < 100000000 ∧
  ∀ d H', 0 ≤ d → d < m → Kx [p] H H' → PenAt H' p c (n + 1) → Q (.int d) H'
theorem at_mod {cs : List Int} (i : Int) (h : ¬ (!cs.isEmpty) = false) : (0 : Int) < (cs.map V.int).length ∧ ∃ z, atI (cs.map V.int) (i % ((cs.map V.int).length : Int)) = some (.int z) := by
  have hl : 0 < cs.length := by
    cases cs with
    | nil => exact absurd rfl h
    | cons z t => exact Nat.succ_pos _
  have h0 : (0 : Int) < (cs.map V.int).length := by
    rw [List.length_map]
    omega
  refine ⟨h0, ?_⟩
  have h1 := Int.emod_nonneg i (Int.ne_of_gt h0)
  have h2 := Int.emod_lt_of_pos i h0
  generalize i % ((cs.map V.int).length : Int) = k at h1 h2
  rw [List.length_map] at h2
  obtain ⟨j, rfl⟩ : ∃ j : Nat, k = j := ⟨k.toNat, by omega⟩
  have hj : j < cs.length := by omega
  exact ⟨cs[j], atI_nat (by rw [List.getElem?_map, List.getElem?_eq_getElem hj]; rfl)⟩
theorem draw_bound {a pl : Int} (h0 : 0 ≤ a) (h1 : a < 2147483647) (h2 : 0 ≤ pl) (h3 : pl ≤ 1000000) : (a * (2 * pl + 13) + 90007 * pl * pl).natAbs < 2 ^ 64 := by
  have e1 : 0 ≤ a * (2 * pl + 13) := Int.mul_nonneg h0 (by omega)
  have e2 : a * (2 * pl + 13) ≤ 2147483647 * 2000013 := Int.mul_le_mul (by omega) (by omega) (by omega) (by decide)
  have e3 : 0 ≤ 90007 * pl * pl := Int.mul_nonneg (by omega) h2
  have e4 : 90007 * pl * pl ≤ 90007 * 1000000 * 1000000 := Int.mul_le_mul (by omega) (by omega) (by omega) (by decide)
  generalize a * (2 * pl + 13) = x at e1 e2
  generalize 90007 * pl * pl = y at e3 e4
  omega
section Xtra
local macro_rules | `(tactic| walk_at "side") => `(tactic| exact ⟨by decide, by decide, draw_bound (Int.emod_nonneg _ (by decide)) (Int.emod_lt_of_pos _ (by decide)) (by assumption) (by omega)⟩)
section
variable {P : Program} {w : World} {K : PySem.W.Frag} {mg : Str → Option Value} {base : Heap}
theorem ok_draw {f : Addr} {fd : FuncData} (F : Fun K "_law_draw" "_law_draw" sQDraw f fd) (T : Txt mg) : FnOk P w K mg base CX0 1 f fd ["_law_pen_here", "_law_most_one"] spDraw := by
  refine F.ok scQDraw (fun vs H Q E h => ?_) (fun cdv A outer s H vs Q E hr h => ?_)
  · obtain ⟨p, c, n, m, rfl, _⟩ := h
    rfl
  · obtain ⟨p, c, n, m, rfl, hpen, hn, hm0, hm1, k⟩ := h
    have ncp := hpen.ne
    obtain ⟨cs, pl, r, hp, hcs, hl, h0, h1, h2⟩ := hpen
    refine ⟨_, (pss_cons (ps_if (pt_cmpR op_gt (pe_ix ix_list (pv 0) pe_int (fun _ _ => rfl)) pe_int (nomark _)) (pss_cons (ps_set (i := 2) scQDraw.nd rfl (Or.inl rfl) (pe_op op_mod (pe_ix ix_list (pv 0) pe_int (fun _ _ => rfl)) (pv 1)))
      (pss_cons (ps_asg (pe_op op_fdiv (pe_ix ix_list (pv 0) pe_int (fun _ _ => rfl)) (pv 1)) (pg_sub (pv 0) pe_int set_list))
      (pss_one (ps_ret (pv 2))))) pss_nil)
      (pss_cons (ps_set (i := 3) scQDraw.nd rfl (Or.inl rfl) (pe_ix ix_list (pv 0) pe_int (fun _ _ => rfl)))
      (pss_cons (ps_asg (pe_op op_add (pv 3) pe_int) (pg_sub (pv 0) pe_int set_list))
      (pss_cons (ps_set (i := 4) scQDraw.nd rfl (Or.inl rfl) (pe_op op_add (pe_op op_mul pe_int (pv 3)) pe_int))
      (pss_cons (ps_if (pt_cmpR (op_neD hr.units) (pe_ix ix_list (pv 0) pe_int (fun _ _ => rfl)) (pe_lst pa_nil) (nomark _)) (pss_one (ps_set (i := 4) scQDraw.nd rfl (Or.inl rfl) (pe_ix ix_list (pe_ix ix_list (pv 0) pe_int (fun _ _ => rfl)) (pe_op op_mod (pv 3) (pe_callB call_len_seq (by rfl) T.b_len boot'_len (pa_cons (pe_ix ix_list (pv 0) pe_int (fun _ _ => rfl)) pa_nil))) (fun _ _ => rfl)))) pss_nil)
      (pss_cons (ps_if ((pw_and (pt_cmpR op_lt (pv 3) (pe_callB call_len_seq (by rfl) T.b_len boot'_len (pa_cons (pe_ix ix_list (pv 0) pe_int (fun _ _ => rfl)) pa_nil)) (nomark _)) (pw_and1 (pt_cmpR op_ge (pe_callB call_abs (by rfl) T.b_abs boot'_abs (pa_cons (pv 4) pa_nil)) (pe_op op_pow pe_int pe_int) (nomark _))))).pt (pss_cons (ps_set (i := 5) scQDraw.nd rfl (Or.inl rfl) (pe_op op_add (pe_op op_mul pe_int (pe_callB call_abs (by rfl) T.b_abs boot'_abs (pa_cons (pv 4) pa_nil))) (pe_callTy call_int1 (by rfl) T.b_int boot'_int (pa_cons (pe_cmpR op_lt (pv 4) pe_int (nomark _)) pa_nil))))
      (pss_cons (ps_asg (pe_op op_fdiv (pv 5) (pv 1)) (pg_sub (pv 0) pe_int set_list))
      (pss_one (ps_ret (pe_op op_mod (pv 5) (pv 1)))))) pss_nil)
      (pss_cons (ps_set (i := 6) scQDraw.nd rfl (Or.inl rfl) (pe_op op_mod (pe_op op_pow (pe_op op_add (pe_op op_add (pe_op op_mod (pv 4) pe_int) (pe_op op_mul pe_int (pv 3))) pe_int) pe_int) pe_int))
      (pss_cons (ps_set (i := 6) scQDraw.nd rfl (Or.inl rfl) (pe_op op_mod (pe_op op_pow (pe_op op_add (pe_op op_mul (pv 6) (pe_op op_add (pe_op op_mul pe_int (pv 3)) pe_int)) (pe_op op_mul (pe_op op_mul pe_int (pv 3)) (pv 3))) pe_int) pe_int))
      (pss_one (ps_ret (pe_op op_mod (pe_op op_fdiv (pv 6) pe_int) (pv 1)))))))))))), ?_⟩
    refine x_start (σ' := [some (.ref p), some (.int m), none, none, none, none, none]) rfl ?_
    dsimp only [cxOf]
    have fin : ∀ d H1 pl' r', 0 ≤ d → d < m → Kx [p] H H1 → H1 p = some (.lst [.ref c, .int pl', .int r']) → 0 ≤ pl' → pl' ≤ pl + 1 → 0 ≤ r' → Q (.int d) H1 := by
      intro d H1 pl' r' a1 a2 a3 a4 a5 a6 a7
      exact k d H1 a1 a2 a3 ⟨cs, pl', r', a4, a3 c _ (by simpa using ncp) hcs, hl, a5, by omega, a7⟩
    have kx : ∀ o, Kx [p] H (upd H p o) := fun o => (Kx.refl _ _).wr (.inr (by simp))
    repeat walk_at "rd"
    refine ite2 (fun hc => ?_) (fun hc => ?_)
    · repeat walk_at "rd"
      exact fin _ _ pl (r / m) (Int.emod_nonneg _ (by omega)) (Int.emod_lt_of_pos _ hm0) (kx _) upd_same h0 (by omega) (Int.ediv_nonneg h2 (by omega))
    · repeat walk_at "rd"
      generalize hH1 : upd H p (.lst [.ref c, .int (pl + 1), .int r]) = H1
      rename_i q nq
      rw [hH1] at nq
      have p1 : H1 p = some (.lst [.ref c, .int (pl + 1), .int r]) := by rw [← hH1]; exact upd_same
      have k1 : Kx [p] H H1 := by rw [← hH1]; exact kx _
      generalize hH2 : upd H1 q (.lst []) = H2
      have p2 : H2 p = some (.lst [.ref c, .int (pl + 1), .int r]) := by rw [← hH2]; exact lk_ne p1 nq
      have c2 : H2 c = some (.lst (cs.map V.int)) := by rw [← hH2]; exact lk_ne (k1 c _ (by simpa using ncp) hcs) nq
      have q2 : H2 q = some (.lst []) := by rw [← hH2]; exact upd_same
      have k2 : Kx [p] H H2 := by rw [← hH2]; exact k1.new nq
      repeat walk_at "rd"
      refine ite2 (fun hc2 => ?_) (fun hc2 => ?_)
      · obtain ⟨hz0, z, hz⟩ := at_mod (cs := cs) pl (by simpa using hc2)
        repeat walk_at "rd"
        refine ite2 (fun hc3 => ?_) (fun hc3 => ?_)
        · repeat walk_at "rd"
          refine ite2 (fun hc4 => ?_) (fun hc4 => ?_)
          · repeat walk_at "rd"
            refine fin _ _ (pl + 1) _ (Int.emod_nonneg _ (by omega)) (Int.emod_lt_of_pos _ hm0) (k2.wr (.inr (by simp))) upd_same (by omega) (by omega) (Int.ediv_nonneg ?_ (by omega))
            split <;> split <;> omega
          · repeat walk_at "rd"
            exact fin _ _ (pl + 1) r (Int.emod_nonneg _ (by omega)) (Int.emod_lt_of_pos _ hm0) k2 p2 (by omega) (by omega) h2
        · repeat walk_at "rd"
          exact fin _ _ (pl + 1) r (Int.emod_nonneg _ (by omega)) (Int.emod_lt_of_pos _ hm0) k2 p2 (by omega) (by omega) h2
      · repeat walk_at "rd"
        refine ite2 (fun hc3 => ?_) (fun hc3 => ?_)
        · repeat walk_at "rd"
          refine ite2 (fun hc4 => ?_) (fun hc4 => ?_)
          · repeat walk_at "rd"
            refine fin _ _ (pl + 1) _ (Int.emod_nonneg _ (by omega)) (Int.emod_lt_of_pos _ hm0) (k2.wr (.inr (by simp))) upd_same (by omega) (by omega) (Int.ediv_nonneg ?_ (by omega))
            split <;> split <;> omega
          · repeat walk_at "rd"
            exact fin _ _ (pl + 1) r (Int.emod_nonneg _ (by omega)) (Int.emod_lt_of_pos _ hm0) k2 p2 (by omega) (by omega) h2
        · repeat walk_at "rd"
          exact fin _ _ (pl + 1) r (Int.emod_nonneg _ (by omega)) (Int.emod_lt_of_pos _ hm0) k2 p2 (by omega) (by omega) h2
end

end Xtra

section
variable {P : Program} {w : World} {K : PySem.W.Frag} {mg : Str → Option Value} {base : Heap}
def spPen (K : PySem.W.Frag) : Sp := fun vs H Q _ => ∃ (a : Addr) (ns : List Int), vs = [.ref a] ∧ SqL K H a (ns.map V.int) ∧
  ∀ p c H', H p = none → H c = none → Kx [] H H' → PenAt H' p c 0 → Q (.ref p) H'
theorem ok_pen {f : Addr} {fd : FuncData} (F : Fun K "_law_pen" "_law_pen" sQPen f fd) (T : Txt mg) : FnOk P w K mg base CX0 1 f fd ["_law_script"] (spPen K) := by
  refine F.ok scQPen (fun vs H Q E h => ?_) (fun cdv A outer s H vs Q E hr h => ?_)
  · obtain ⟨a, ns, rfl, _⟩ := h
    rfl
  · obtain ⟨a, ns, rfl, ha, k⟩ := h
    refine ⟨_, (pss_one (ps_ret (pe_lst (pa_cons (pe_callTy call_list_of (by rfl) T.b_list boot'_list (pa_cons (pe_slice sl_list (pv 0) po_none (po_some pe_int)) pa_nil)) (pa_cons pe_int (pa_cons pe_int pa_nil)))))), ?_⟩
    refine x_start (σ' := [some (.ref a)]) rfl ?_
    dsimp only [cxOf]
    repeat walk_at "rd"
    intro t nt
    rw [cut63, ← List.map_take]
    repeat walk_at "rd"
    intro c nc
    repeat walk_at "rd"
    rename_i p np
    have ntc : t ≠ c := ne_of_none upd_same nc
    have ncp : c ≠ p := ne_of_none upd_same np
    have nc0 : H c = none := by rwa [upd_ne ntc.symm] at nc
    have np0 : H p = none := by
      have e1 := np
      rw [upd_ne ncp.symm] at e1
      exact ((Kx.refl [] H).new nt).fresh (by simp) e1
    refine k p c _ np0 nc0 ((((Kx.refl [] H).new nt).new nc).new np) ⟨ns.take 63, 0, 0, upd_same, ?_, ?_, by omega, by omega, by omega⟩
    · rw [upd_ne ncp, upd_same]
    · rw [List.length_take]
      exact Nat.min_le_left _ _
theorem x_draw {H : Hp} {p c : Addr} {n : Nat} {m : Int} {Q : VK} {E : XK} (h : PenAt H p c n) (hn : n < 1000000) (h0 : 0 < m) (h1 : m < 100000000)
    (q : ∀ d H', 0 ≤ d → d < m → Kx [p] H H' → PenAt H' p c (n + 1) → Q (.int d) H') : spDraw ([V.ref p, V.int m] ++ []) H Q E := ⟨p, c, n, m, rfl, h, hn, h0, h1, q⟩
def spShuf (K : PySem.W.Frag) : Sp := fun vs H Q _ => ∃ (p c a : Addr) (n : Nat) (xs : List V), vs = [.ref p, .ref a] ∧ PenAt H p c n ∧ SqL K H a xs ∧ a ≠ p ∧ xs.length ≤ 1000 ∧ n ≤ 900000 ∧
  ∀ l ys H', H l = none → ys.Perm xs → Kx [p] H H' → H' l = some (.lst ys) → PenAt H' p c (n + xs.length) → Q (.ref l) H'
theorem ins_perm {ys : List V} {v : V} {i : Nat} : (ys.take i ++ [v] ++ ys.drop i).Perm (ys ++ [v]) := by
  have e : (ys.take i ++ [v] ++ ys.drop i) = ys.take i ++ ([v] ++ ys.drop i) := by rw [List.append_assoc]
  rw [e]
  refine (List.Perm.append_left _ List.perm_append_comm).trans ?_
  rw [← List.append_assoc, List.take_append_drop]
theorem PenAt.up {H H' : Hp} {p c : Addr} {n m : Nat} (h : PenAt H p c n) (e1 : H' p = H p) (e2 : H' c = H c) (l : n ≤ m) : PenAt H' p c m := by
  obtain ⟨cs, pl, r, h1, h2, h3, h4, h5, h6⟩ := h
  exact ⟨cs, pl, r, e1.trans h1, e2.trans h2, h3, h4, by omega, h6⟩
theorem PenAt.keep {H H' : Hp} {S : List Addr} {p c : Addr} {n m : Nat} (h : PenAt H p c n) (k : Kx S H H') (hp : p ∉ S) (hc : c ∉ S) (l : n ≤ m) : PenAt H' p c m := by
  obtain ⟨cs, pl, r, h1, h2, h3, h4, h5, h6⟩ := h
  exact ⟨cs, pl, r, k _ _ hp h1, k _ _ hc h2, h3, h4, by omega, h6⟩
theorem PenAt.some {H : Hp} {p c : Addr} {n : Nat} (h : PenAt H p c n) : (∃ o, H p = some o) ∧ ∃ o, H c = some o := by
  obtain ⟨cs, pl, r, h1, h2, _⟩ := h
  exact ⟨⟨_, h1⟩, _, h2⟩
theorem ok_shuf {f : Addr} {fd : FuncData} (F : Fun K "_law_shuffled" "_law_shuffled" sQShuffled f fd) (T : Txt mg) (l_law_draw : Lo P w K mg base "_law_draw" 1 ["_law_pen_here", "_law_most_one"] spDraw) :
    FnOk P w K mg base CX0 2 f fd ["_law_pen_here", "_law_row"] (spShuf K) := by
  refine F.ok scQShuffled (fun vs H Q E h => ?_) (fun cdv A outer s H vs Q E hr h => ?_)
  · obtain ⟨p, c, a, n, xs, rfl, _⟩ := h
    rfl
  · obtain ⟨p, c, a, n, xs, rfl, hpen, ha, nap, hlen, hn, k⟩ := h
    refine ⟨_, (pss_cons (ps_set (i := 2) scQShuffled.nd rfl (Or.inl rfl) (pe_lst pa_nil))
      (pss_cons (ps_for PassesOwn.never rfl (pi_list (pv 1)) (pg_name (i := 3) scQShuffled.nd rfl (Or.inl rfl))
      (pss_one (ps_expr (pe_bm PySem.F.plainAttrs_list PySem.F.slot_list_insert PySem.F.type_list_insert mt_insert (pv 2) (pa_cons (pe_lo l_law_draw (hr.mono (by decide)) (by rfl) (pa_cons (pv 0) (pa_cons (pe_op op_add (pe_callB call_len_seq (by rfl) T.b_len boot'_len (pa_cons (pv 2) pa_nil)) pe_int) pa_nil))) (pa_cons (pv 3) pa_nil))))))
      (pss_one (ps_ret (pv 2))))), ?_⟩
    refine x_start (σ' := [some (.ref p), some (.ref a), none, none]) rfl ?_
    dsimp only [cxOf]
    repeat walk_at "rd"
    rename_i l nl
    obtain ⟨⟨op, hp⟩, oc, hc⟩ := hpen.some
    have nlp : l ≠ p := (ne_of_none hp nl).symm
    have nlc : l ≠ c := (ne_of_none hc nl).symm
    have k0 : Kx [p] H (upd H l (.lst [])) := (Kx.refl _ _).new nl
    refine y_forL (xs := xs) (k0.sqL (by simpa using nap) ha) ⟨fun i σ H1 => ∃ ys y3, σ = [some (.ref p), some (.ref a), some (.ref l), y3] ∧ ys.Perm (xs.take i) ∧ Kx [p] H H1 ∧ H1 l = some (.lst ys) ∧ PenAt H1 p c (n + i),
      ⟨[], none, rfl, by simp, k0, upd_same, hpen.keep ((Kx.refl [] H).new nl) (by simp) (by simp) (by omega)⟩, ?_, ?_, ?_⟩
    · rintro i σ H1 hi ⟨ys, y3, rfl, hys, k1, hl, hp1⟩
      exact k1.sqL (by simpa using nap) ha
    · rintro i x σ H1 H1' hi ⟨ys, y3, rfl, hys, k1, hl, hp1⟩ ⟨rfl, hx⟩
      have hyl : ys.length = i := by
        rw [hys.length_eq, List.length_take]
        omega
      repeat walk_at "rd"
      refine ⟨ty_list (SqL.of hl), ?_⟩
      repeat walk_at "rd"
      refine x_draw hp1 (by omega) (by omega) (by omega) fun d H2 d0 d1 k2 hp2 => ?_
      have hl2 : H2 l = some (.lst ys) := k2 l _ (by simpa using nlp) hl
      repeat walk_at "rd"
      refine ⟨_, _, rfl, ins_perm.trans ?_, (k1.trans k2).wr (.inl nl), upd_same, ?_⟩
      · rw [List.take_add_one, hx]
        exact hys.append_right _
      · exact hp2.up (upd_ne nlp.symm) (upd_ne nlc.symm) (by omega)
    · rintro σ H1 ⟨ys, y3, rfl, hys, k1, hl, hp1⟩
      repeat walk_at "rd"
      exact k l ys H1 nl (by simpa using hys) k1 hl hp1
end

section
variable {P : Program} {w : World} {K : PySem.W.Frag} {mg : Str → Option Value} {base : Heap}
/-- the rows that stand at rs, the list of them at R; all of it new since H0 -/
structure RowsI (H0 H : Hp) (R : Addr) (rs : List Addr) (rows : List (List V)) (live : List Int) (B : Nat) : Prop where
  hR : H R = some (.lst (rs.map V.ref))
  len : rows.length = rs.length
  nd : rs.Nodup
  fr : ∀ r ∈ rs, H0 r = none
  frR : H0 R = none
  nR : R ∉ rs
  at_ : ∀ (i : Nat) (r : Addr) (row : List V), rs[i]? = some r → rows[i]? = some row → H r = some (.lst row)
  good : ∀ row ∈ rows, row.length ≤ B ∧ ∀ v ∈ row, v = .non ∨ ∃ z ∈ live, v = V.int z
theorem RowsI.mono {H0 H : Hp} {R : Addr} {rs : List Addr} {rows : List (List V)} {live : List Int} {B B' : Nat} (h : RowsI H0 H R rs rows live B) (l : B ≤ B') : RowsI H0 H R rs rows live B' :=
  ⟨h.hR, h.len, h.nd, h.fr, h.frR, h.nR, h.at_, fun row hr => ⟨Nat.le_trans (h.good row hr).1 l, (h.good row hr).2⟩⟩
theorem RowsI.keep {H0 H H' : Hp} {S : List Addr} {R : Addr} {rs : List Addr} {rows : List (List V)} {live : List Int} {B : Nat} (h : RowsI H0 H R rs rows live B) (k : Kx S H H') (hS : ∀ b ∈ S, ∃ o, H0 b = some o) : RowsI H0 H' R rs rows live B := by
  have hn : ∀ b, H0 b = none → b ∉ S := fun b hb z => by
    obtain ⟨o, ho⟩ := hS b z
    rw [hb] at ho
    cases ho
  exact ⟨k _ _ (hn _ h.frR) h.hR, h.len, h.nd, h.fr, h.frR, h.nR, fun i r row h1 h2 => k _ _ (hn _ (h.fr r (List.mem_of_getElem? h1))) (h.at_ i r row h1 h2), h.good⟩
theorem RowsI.wr {H0 H : Hp} {R r : Addr} {rs : List Addr} {rows : List (List V)} {live : List Int} {B : Nat} {i : Nat} {row' : List V} (h : RowsI H0 H R rs rows live B) (hr : rs[i]? = some r) (hl : row'.length ≤ B)
    (hv : ∀ v ∈ row', v = .non ∨ ∃ z ∈ live, v = V.int z) : RowsI H0 (upd H r (.lst row')) R rs (rows.set i row') live B := by
  have hm : r ∈ rs := List.mem_of_getElem? hr
  refine ⟨?_, by rw [List.length_set]; exact h.len, h.nd, h.fr, h.frR, h.nR, ?_, ?_⟩
  · rw [upd_ne (fun e => h.nR (by rw [e]; exact hm))]
    exact h.hR
  · intro j q row hj hrow
    by_cases e : j = i
    · subst e
      rw [hr] at hj
      have e2 : r = q := Option.some.inj hj
      subst e2
      have hi : j < rows.length := by
        rw [h.len]
        exact (List.getElem?_eq_some_iff.mp hr).1
      rw [List.getElem?_set_self hi] at hrow
      rw [← Option.some.inj hrow]
      exact upd_same
    · have nq : q ≠ r := by
        rintro rfl
        exact e ((List.getElem?_inj (List.getElem?_eq_some_iff.mp hj).1 h.nd).mp (hj.trans hr.symm))
      rw [List.getElem?_set_ne (Ne.symm e)] at hrow
      rw [upd_ne nq]
      exact h.at_ j q row hj hrow
  · intro row hrow
    rcases List.mem_or_eq_of_mem_set hrow with z | rfl
    · exact h.good row z
    · exact ⟨hl, hv⟩
theorem RowsI.get {H0 H : Hp} {R : Addr} {rs : List Addr} {rows : List (List V)} {live : List Int} {B : Nat} {z : Int} (h : RowsI H0 H R rs rows live B) (h0 : 0 ≤ z) (h1 : z < rs.length) :
    ∃ (i : Nat) (r : Addr) (row : List V), z = i ∧ rs[i]? = some r ∧ rows[i]? = some row ∧ H r = some (.lst row) ∧ atI (rs.map V.ref) z = some (.ref r) ∧ H0 r = none := by
  obtain ⟨i, rfl⟩ : ∃ i : Nat, z = i := ⟨z.toNat, by omega⟩
  have hi : i < rs.length := by omega
  have hi2 : i < rows.length := by rw [h.len]; exact hi
  have e1 := List.getElem?_eq_getElem hi
  have e2 := List.getElem?_eq_getElem hi2
  refine ⟨i, rs[i], rows[i], rfl, e1, e2, h.at_ i _ _ e1 e2, atI_nat ?_, h.fr _ (List.getElem_mem hi)⟩
  rw [List.getElem?_map, e1]
  rfl
theorem at_ints {zs : List Int} {w : Int} (h0 : 0 ≤ w) (h1 : w < zs.length) : ∃ z ∈ zs, zs[w.toNat]? = some z ∧ atI (zs.map V.int) w = some (.int z) := by
  obtain ⟨i, rfl⟩ : ∃ i : Nat, w = i := ⟨w.toNat, by omega⟩
  have hi : i < zs.length := by omega
  have e1 := List.getElem?_eq_getElem hi
  refine ⟨zs[i], List.getElem_mem hi, by simpa using e1, atI_nat ?_⟩
  rw [List.getElem?_map, e1]
  rfl
def spLinked (K : PySem.W.Frag) : Sp := fun vs H Q _ => ∃ (p c a : Addr) (n : Nat) (ls : List Int) (al : Nat), vs = [.ref p, .ref a, .int al] ∧ PenAt H p c n ∧ SqL K H a (ls.map V.int) ∧ a ≠ p ∧ ls.length ≤ 40 ∧ (∀ z ∈ ls, 0 ≤ z ∧ z < ls.length) ∧ 1 ≤ al ∧ al ≤ ls.length ∧ n ≤ 900000 ∧
  ∀ R rs rows H', RowsI H H' R rs rows (ls.take al) 40 → rs.length = ls.length → Kx [p] H H' → PenAt H' p c (n + 400) → Q (.ref R) H'
theorem ok_linked {f : Addr} {fd : FuncData} (F : Fun K "_law_linked" "_law_linked" sQLinked f fd) (T : Txt mg) (l_law_draw : Lo P w K mg base "_law_draw" 1 ["_law_pen_here", "_law_most_one"] spDraw) :
    FnOk P w K mg base CX0 2 f fd ["_law_pen_here", "_law_labels", "_law_alive"] (spLinked K) := by
  refine F.ok scQLinked (fun vs H Q E h => ?_) (fun cdv A outer s H vs Q E hr h => ?_)
  · obtain ⟨p, c, a, n, ls, al, rfl, _⟩ := h
    rfl
  · obtain ⟨p, c, a, n, ls, al, rfl, hpen, ha, nap, hN, hls, hal, hal2, hn, k⟩ := h
    refine ⟨_, (pss_cons (ps_setLc (i := 3) (own := [("_law_label", 14)]) rfl scQLinked.nd rfl rfl (sw_true rfl rfl rfl (by decide +kernel)) (pi_list (pv 1)) (blkOk_by (N := ["_law_pen_here", "_law_labels", "_law_alive", "_law_rows", "_law_way", "_law_place", "_law_near", "_law_back", "_law_row", "_law_forward", "_law_turn", "_law_one", "_law_other", "_law_entry", "_law_label"]) (sc := defScope sQLinked) (by decide +kernel)) (fun _ _ _ _ _ => (pg_name (i := 14) scQLinked.nd rfl (Or.inl rfl))) (fun _ _ _ _ _ => pts_nil) (fun _ _ _ _ _ => (pe_lst pa_nil)))
      (pss_cons (ps_set (i := 4) scQLinked.nd rfl (Or.inl rfl) (pe_lo l_law_draw (hr.mono (by decide)) (by rfl) (pa_cons (pv 0) (pa_cons pe_int pa_nil))))
      (pss_cons (ps_for PassesOwn.never rfl (pi_range2 (by rfl) T.b_range (pa_cons pe_int (pa_cons (pv 2) pa_nil))) (pg_name (i := 5) scQLinked.nd rfl (Or.inl rfl))
      (pss_cons (ps_set (i := 6) scQLinked.nd rfl (Or.inl rfl) (pe_op op_add pe_int (pe_lo l_law_draw (hr.mono (by decide)) (by rfl) (pa_cons (pv 0) (pa_cons (pe_callB (call_min2 rfl) (by rfl) T.b_min boot'_min (pa_cons (pv 5) (pa_cons pe_int pa_nil))) pa_nil)))))
      (pss_cons (ps_set (i := 7) scQLinked.nd rfl (Or.inl rfl) (pe_ix ix_list (pe_lst (pa_cons pe_int (pa_cons (pv 5) (pa_cons (pv 6) (pa_cons (pe_op op_add pe_int (pe_lo l_law_draw (hr.mono (by decide)) (by rfl) (pa_cons (pv 0) (pa_cons (pv 5) pa_nil)))) (pa_cons (pv 6) pa_nil)))))) (pv 4) (fun _ _ => rfl)))
      (pss_cons (ps_set (i := 8) scQLinked.nd rfl (Or.inl rfl) (pe_ix ix_list (pv 3) (pe_ix ix_list (pv 1) (pe_op op_sub (pv 5) (pv 7)) (fun _ _ => rfl)) (fun _ _ => rfl)))
      (pss_one (ps_expr (pe_bm PySem.F.plainAttrs_list PySem.F.slot_list_insert PySem.F.type_list_insert mt_insert (pv 8) (pa_cons (pe_lo l_law_draw (hr.mono (by decide)) (by rfl) (pa_cons (pv 0) (pa_cons (pe_op op_add (pe_callB call_len_seq (by rfl) T.b_len boot'_len (pa_cons (pv 8) pa_nil)) pe_int) pa_nil))) (pa_cons (pe_ix ix_list (pv 1) (pv 5) (fun _ _ => rfl)) pa_nil)))))))))
      (pss_cons (ps_set (i := 9) scQLinked.nd rfl (Or.inl rfl) (pe_lo l_law_draw (hr.mono (by decide)) (by rfl) (pa_cons (pv 0) (pa_cons pe_int pa_nil))))
      (pss_cons (ps_for PassesOwn.never rfl (pi_range1 (by rfl) T.b_range (pa_cons (pe_ix ix_list (pe_lst (pa_cons pe_int (pa_cons (pe_lo l_law_draw (hr.mono (by decide)) (by rfl) (pa_cons (pv 0) (pa_cons pe_int pa_nil))) (pa_cons (pe_op op_fdiv (pv 2) pe_int) (pa_cons (pv 2) pa_nil))))) (pe_lo l_law_draw (hr.mono (by decide)) (by rfl) (pa_cons (pv 0) (pa_cons pe_int pa_nil))) (fun _ _ => rfl)) pa_nil)) (pg_name (i := 10) scQLinked.nd rfl (Or.inl rfl))
      (pss_cons (ps_par (i := 11) (j := 12) rfl scQLinked.nd rfl rfl (by decide) rfl rfl (pa_cons (pe_lo l_law_draw (hr.mono (by decide)) (by rfl) (pa_cons (pv 0) (pa_cons (pv 2) pa_nil))) (pa_cons (pe_lo l_law_draw (hr.mono (by decide)) (by rfl) (pa_cons (pv 0) (pa_cons (pv 2) pa_nil))) pa_nil)) (by rfl))
      (pss_cons (ps_if (pt_cmpR op_eq (pv 9) pe_int (nomark _)) (pss_one (ps_par (i := 11) (j := 12) rfl scQLinked.nd rfl rfl (by decide) rfl rfl (pa_cons (pe_callB (call_min2 rfl) (by rfl) T.b_min boot'_min (pa_cons (pv 11) (pa_cons (pv 12) pa_nil))) (pa_cons (pe_callB (call_max2 rfl) (by rfl) T.b_max boot'_max (pa_cons (pv 11) (pa_cons (pv 12) pa_nil))) pa_nil)) (by rfl))) pss_nil)
      (pss_cons (ps_set (i := 13) scQLinked.nd rfl (Or.inl rfl) (pe_ix ix_list (pe_lst (pa_cons (pe_ix ix_list (pv 1) (pv 12) (fun _ _ => rfl)) (pa_cons pe_non pa_nil))) (pe_callTy call_int1 (by rfl) T.b_int boot'_int (pa_cons (pe_or (pe_cmpR op_eq (pe_lo l_law_draw (hr.mono (by decide)) (by rfl) (pa_cons (pv 0) (pa_cons pe_int pa_nil))) pe_int (nomark _)) (pe_one (pe_and (pe_cmpR op_eq (pv 9) pe_int (nomark _)) (pe_one (pe_cmpR op_eq (pv 11) (pv 12) (nomark _)))))) pa_nil)) (fun _ _ => rfl)))
      (pss_cons (ps_set (i := 8) scQLinked.nd rfl (Or.inl rfl) (pe_ix ix_list (pv 3) (pe_ix ix_list (pv 1) (pv 11) (fun _ _ => rfl)) (fun _ _ => rfl)))
      (pss_one (ps_if (pt_cmpR op_lt (pe_callB call_len_seq (by rfl) T.b_len boot'_len (pa_cons (pv 8) pa_nil)) pe_int (nomark _)) (pss_one (ps_expr (pe_bm PySem.F.plainAttrs_list PySem.F.slot_list_insert PySem.F.type_list_insert mt_insert (pv 8) (pa_cons (pe_lo l_law_draw (hr.mono (by decide)) (by rfl) (pa_cons (pv 0) (pa_cons (pe_op op_add (pe_callB call_len_seq (by rfl) T.b_len boot'_len (pa_cons (pv 8) pa_nil)) pe_int) pa_nil))) (pa_cons (pv 13) pa_nil))))) pss_nil)))))))
      (pss_one (ps_ret (pv 3)))))))), ?_⟩
    refine x_start (σ' := [some (.ref p), some (.ref a), some (.int al), none, none, none, none, none, none, none, none, none, none, none, none]) rfl ?_
    dsimp only [cxOf]
    obtain ⟨⟨op, hp⟩, oc, hc⟩ := hpen.some
    repeat walk_at "rd"
    refine y_lcL (xs := ls.map V.int) ha (fun R nR => ⟨fun i H1 => ∃ rs : List Addr, rs.length = i ∧ H1 R = some (.lst (rs.map V.ref)) ∧ rs.Nodup ∧ R ∉ rs ∧ (∀ r ∈ rs, H r = none ∧ H1 r = some (.lst [])) ∧ Kx [] H H1,
      ⟨[], rfl, upd_same, List.nodup_nil, by simp, by simp, (Kx.refl _ _).new nR⟩, ?_, ?_, ?_⟩)
    · rintro i H1 hi ⟨rs, _, _, _, _, _, k1⟩
      exact k1.sqL (by simp) ha
    · rintro i x H1 H1' hi ⟨rs, e1, e2, e3, e4, e5, k1⟩ ⟨rfl, hx⟩
      rw [List.length_map] at hi
      repeat walk_at "rd"
      refine ⟨rfl, ?_⟩
      repeat walk_at "rd"
      rename_i q nq
      have nqR : q ≠ R := (ne_of_none e2 nq).symm
      refine ⟨rs.map V.ref, lk_ne e2 nq, small1000 (by rw [List.length_map]; omega), rs ++ [q], by rw [List.length_append, e1]; rfl, ?_, ?_, ?_, ?_, ?_⟩
      · rw [upd_same, List.map_append]
        rfl
      · rw [List.nodup_append]
        refine ⟨e3, by simp, ?_⟩
        intro b hb b2 hb2
        rw [List.mem_singleton.mp hb2]
        exact ne_of_none (e5 b hb).2 nq
      · simp only [List.mem_append, List.mem_singleton, not_or]
        exact ⟨e4, nqR.symm⟩
      · intro r hr
        rcases List.mem_append.mp hr with z | z
        · have nrR : r ≠ R := fun e => e4 (e ▸ z)
          exact ⟨(e5 r z).1, by rw [upd_ne nrR]; exact lk_ne (e5 r z).2 nq⟩
        · rw [List.mem_singleton.mp z]
          exact ⟨k1.fresh (by simp) nq, by rw [upd_ne nqR]; exact upd_same⟩
      · exact (k1.new nq).wr (.inl nR)
    rintro H1 ⟨rs, e1, e2, e3, e4, e5, k1⟩
    rw [List.length_map] at e1
    have I1 : RowsI H H1 R rs (rs.map fun _ => []) (ls.take al) 0 := by
      refine ⟨e2, by rw [List.length_map], e3, fun r hr => (e5 r hr).1, nR, e4, ?_, ?_⟩
      · intro i r row h1 h2
        rw [List.getElem?_map, h1] at h2
        rw [← Option.some.inj h2]
        exact (e5 r (List.mem_of_getElem? h1)).2
      · intro row hrow
        obtain ⟨_, _, rfl⟩ := List.mem_map.mp hrow
        exact ⟨Nat.le_refl _, by simp⟩
    have P1 : PenAt H1 p c n := hpen.keep k1 (by simp) (by simp) (Nat.le_refl _)
    have K1 : Kx [p] H H1 := k1.mono (by simp)
    clear e2 e3 e4 e5 k1
    repeat walk_at "rd"
    refine x_draw P1 (by omega) (by omega) (by omega) fun way H2 w0 w1 k2 P2 => ?_
    replace K1 := K1.trans k2
    replace I1 := I1.keep k2 (by simpa using ⟨_, hp⟩)
    clear k2 P1
    repeat walk_at "rd"
    have hnp : ∀ b, H b = none → b ≠ p := fun b hb e => by
      rw [e, hp] at hb
      cases hb
    have hlab : ∀ {w : Int}, 0 ≤ w → w < al → ∃ z, z ∈ ls.take al ∧ 0 ≤ z ∧ z < rs.length ∧ atI (ls.map V.int) w = some (.int z) := by
      intro w hw0 hw1
      obtain ⟨z, hz, hz1, hz2⟩ := at_ints (zs := ls) hw0 (by omega)
      refine ⟨z, ?_, (hls z hz).1, by rw [e1]; exact (hls z hz).2, hz2⟩
      exact List.mem_of_getElem? (i := w.toNat) (by rw [List.getElem?_take_of_lt (by omega)]; exact hz1)
    have hlist : ∀ {H1 : Hp}, Kx [p] H H1 → SqL K H1 a (ls.map V.int) := fun k1 => k1.sqL (by simpa using nap) ha
    refine y_forR2 (by omega) (by omega) (by omega) (by omega) ⟨fun i σ H3 => ∃ rows y5 y6 y7 y8, σ = [some (.ref p), some (.ref a), some (.int al), some (.ref R), some (.int way), y5, y6, y7, y8, none, none, none, none, none, none] ∧
      RowsI H H3 R rs rows (ls.take al) i ∧ Kx [p] H H3 ∧ PenAt H3 p c (n + 1 + 3 * i), ⟨_, none, none, none, none, rfl, I1, K1, P2⟩, fun _ _ _ _ _ => trivial, ?_, ?_⟩
    · rintro i x σ H3 H3' hi ⟨rows, y5, y6, y7, y8, rfl, I3, K3, P3⟩ ⟨rfl, rfl⟩
      have hi2 : 1 + (i : Int) < al := by omega
      repeat walk_at "rd"
      refine x_draw P3 (by omega) (by split <;> omega) (by split <;> omega) fun d1 H4 a0 a1 k4 P4 => ?_
      replace K3 := K3.trans k4
      replace I3 := I3.keep k4 (by simpa using ⟨_, hp⟩)
      clear k4 P3
      repeat walk_at "rd"
      refine x_draw P4 (by omega) (by omega) (by omega) fun d2 H5 b0 b1 k5 P5 => ?_
      replace K3 := K3.trans k5
      replace I3 := I3.keep k5 (by simpa using ⟨_, hp⟩)
      clear k5 P4
      have ha1 : d1 < 1 + (i : Int) ∧ d1 < 3 := by split at a1 <;> omega
      obtain ⟨back, hat, hb0, hb1⟩ : ∃ back, atI [V.int 1, V.int (1 + (i : Int)), V.int (1 + d1), V.int (1 + d2), V.int (1 + d1)] way = some (.int back) ∧ 1 ≤ back ∧ back ≤ 1 + (i : Int) := by
        obtain ⟨z, hz, _, hz2⟩ := at_ints (zs := [1, 1 + (i : Int), 1 + d1, 1 + d2, 1 + d1]) w0 (by simpa using w1)
        refine ⟨z, hz2, ?_⟩
        simp only [List.mem_cons, List.not_mem_nil, or_false] at hz
        omega
      obtain ⟨z, hz, hz0, hz1, hatz⟩ := hlab (w := 1 + (i : Int) - back) (by omega) (by omega)
      obtain ⟨z', hz', _, _, hatz'⟩ := hlab (w := 1 + (i : Int)) (by omega) (by omega)
      obtain ⟨j, r, row, rfl, hrs, hrow, hr, hatr, hr0⟩ := I3.get hz0 hz1
      have hR := I3.hR
      have nrp := hnp r hr0
      repeat walk_at "rd"
      rename_i q nq
      refine ⟨ty_list (SqL.of (by walk_at "lk")), ?_⟩
      repeat walk_at "rd"
      have hrow' := I3.good row (List.mem_of_getElem? hrow)
      refine x_draw (P5.keep ((Kx.refl [] H5).new nq) (by simp) (by simp) (Nat.le_refl _)) (by omega) (by omega) (by omega) fun d3 H6 c0 c1 k6 P6 => ?_
      have hr6 : H6 r = some (.lst row) := k6 r _ (by simpa using nrp) (lk_ne hr nq)
      replace K3 := (K3.new nq).trans k6
      replace I3 := (I3.keep ((Kx.refl [] H5).new nq) (by simp)).keep k6 (by simpa using ⟨_, hp⟩)
      clear k6 P5
      repeat walk_at "rd"
      refine ⟨_, _, _, _, _, rfl, (I3.mono (Nat.le_succ i)).wr hrs (row' := row.take d3.toNat ++ [V.int z'] ++ row.drop d3.toNat) ?_ ?_, K3.wr (.inl hr0), ?_⟩
      · rw [ins_perm.length_eq, List.length_append, List.length_singleton]
        omega
      · intro v hv
        rcases List.mem_append.mp (ins_perm.mem_iff.mp hv) with hv | hv
        · exact hrow'.2 v hv
        · exact .inr ⟨z', hz', List.mem_singleton.mp hv⟩
      · exact P6.up (upd_ne nrp.symm) (upd_ne (fun e => by rw [← e, hc] at hr0; cases hr0)) (by omega)
    · rintro σ H3 ⟨rows, y5, y6, y7, y8, rfl, I3, K3, P3⟩
      repeat walk_at "rd"
      refine x_draw P3 (by omega) (by omega) (by omega) fun fwd H4 f0 f1 k4 P4 => ?_
      replace K3 := K3.trans k4
      replace I3 := (I3.keep k4 (by simpa using ⟨_, hp⟩)).mono (show (al - 1 : Int).toNat ≤ 40 by omega)
      clear k4 P3
      repeat walk_at "rd"
      refine x_draw P4 (by omega) (by omega) (by omega) fun u1 H5 g0 g1 k5 P5 => ?_
      replace K3 := K3.trans k5
      replace I3 := I3.keep k5 (by simpa using ⟨_, hp⟩)
      clear k5 P4
      repeat walk_at "rd"
      rename_i q nq
      have nqp : q ≠ p := hnp q (K3.fresh (fun z => by rw [List.mem_singleton.mp z] at nq; obtain ⟨⟨o, ho⟩, _⟩ := P5.some; rw [ho] at nq; cases nq) nq)
      refine x_draw (P5.keep ((Kx.refl [] H5).new nq) (by simp) (by simp) (Nat.le_refl _)) (by omega) (by omega) (by omega) fun u2 H6 g2 g3 k6 P6 => ?_
      have hq6 : H6 q = some (.lst [V.int 0, V.int u1, V.int ((al : Int) / 2), V.int al]) := k6 q _ (by simpa using nqp) upd_same
      replace K3 := (K3.new nq).trans k6
      replace I3 := (I3.keep ((Kx.refl [] H5).new nq) (by simp)).keep k6 (by simpa using ⟨_, hp⟩)
      clear k6 P5
      obtain ⟨cnt, hat, hc0, hc1⟩ : ∃ cnt, atI [V.int 0, V.int u1, V.int ((al : Int) / 2), V.int al] u2 = some (.int cnt) ∧ 0 ≤ cnt ∧ cnt ≤ 40 := by
        obtain ⟨z, hz, _, hz2⟩ := at_ints (zs := [0, u1, (al : Int) / 2, (al : Int)]) g2 (by simpa using g3)
        refine ⟨z, hz2, ?_⟩
        simp only [List.mem_cons, List.not_mem_nil, or_false] at hz
        omega
      repeat walk_at "rd"
      refine y_forR1 hc0 (by omega) ⟨fun i σ H7 => ∃ rows y5 y6 y7 y8 y10 y11 y12 y13, σ = [some (.ref p), some (.ref a), some (.int al), some (.ref R), some (.int way), y5, y6, y7, y8, some (.int fwd), y10, y11, y12, y13, none] ∧
        RowsI H H7 R rs rows (ls.take al) 40 ∧ Kx [p] H H7 ∧ PenAt H7 p c (n + 130 + 4 * i), ⟨_, _, _, _, _, none, none, none, none, rfl, I3, K3, P6.keep (Kx.refl [] H6) (by simp) (by simp) (by omega)⟩, fun _ _ _ _ _ => trivial, ?_, ?_⟩
      · rintro i x σ H7 H7' hi ⟨rows, y5, y6, y7, y8, y10, y11, y12, y13, rfl, I3, K3, P3⟩ ⟨rfl, rfl⟩
        have hi2 : i < 40 := by omega
        repeat walk_at "rd"
        refine x_draw P3 (by omega) (by omega) (by omega) fun d1 H4 a0 a1 k4 P4 => ?_
        replace K3 := K3.trans k4
        replace I3 := I3.keep k4 (by simpa using ⟨_, hp⟩)
        clear k4 P3
        repeat walk_at "rd"
        refine x_draw P4 (by omega) (by omega) (by omega) fun d2 H5 b0 b1 k5 P5 => ?_
        replace K3 := K3.trans k5
        replace I3 := I3.keep k5 (by simpa using ⟨_, hp⟩)
        clear k5 P4
        repeat walk_at "rd"
        refine ite2 (fun hf => ?A) (fun hf => ?B)
        case' A =>
          repeat walk_at "rd"
          generalize hone : (if d2 < d1 then d2 else d1) = one
          generalize hoth : (if d2 > d1 then d2 else d1) = oth
          have o0 : 0 ≤ one ∧ one < al := by split at hone <;> omega
          have p0 : 0 ≤ oth ∧ oth < al := by split at hoth <;> omega
        case' B =>
          repeat walk_at "rd"
          have o0 : 0 ≤ d1 ∧ d1 < al := ⟨a0, a1⟩
          have p0 : 0 ≤ d2 ∧ d2 < al := ⟨b0, b1⟩
          generalize d1 = one at o0 ⊢
          generalize d2 = oth at p0 ⊢
        all_goals
          obtain ⟨z, hz, hz0, hz1, hatz⟩ := hlab p0.1 p0.2
          obtain ⟨z', hz', hz0', hz1', hatz'⟩ := hlab o0.1 o0.2
          repeat walk_at "rd"
          rename_i q nq
          have nqp : q ≠ p := hnp q (K3.fresh (fun z => by rw [List.mem_singleton.mp z] at nq; obtain ⟨⟨o, ho⟩, _⟩ := P5.some; rw [ho] at nq; cases nq) nq)
          refine x_draw (P5.keep ((Kx.refl [] H5).new nq) (by simp) (by simp) (Nat.le_refl _)) (by omega) (by omega) (by omega) fun d3 H6 c0 c1 k6 P6 => ?_
          have hq6 : H6 q = some (.lst [V.int z, V.non]) := k6 q _ (by simpa using nqp) upd_same
          replace K3 := (K3.new nq).trans k6
          replace I3 := (I3.keep ((Kx.refl [] H5).new nq) (by simp)).keep k6 (by simpa using ⟨_, hp⟩)
          clear k6 P5
          have hR := I3.hR
          obtain ⟨j, r, row, rfl, hrs, hrow, hr, hatr, hr0⟩ := I3.get hz0' hz1'
          have nrp := hnp r hr0
          have hrow' := I3.good row (List.mem_of_getElem? hrow)
          have gN : V.non = .non ∨ ∃ z ∈ ls.take al, V.non = V.int z := .inl rfl
          have gZ : V.int z = .non ∨ ∃ z' ∈ ls.take al, V.int z = V.int z' := .inr ⟨z, hz, rfl⟩
          repeat walk_at "rd"
          refine ite2 (fun e3 => ?_) (fun e3 => ?_)
          all_goals repeat walk_at "rd"
          all_goals refine ite2 (fun e3 => ?_) (fun e3 => ?_)
          all_goals repeat walk_at "rd"
          any_goals
            generalize decide (V.int one = V.int oth) = bb
            cases bb
          all_goals repeat walk_at "rd"
          any_goals refine ite2 (fun e3 => ?_) (fun e3 => ?_)
          all_goals repeat walk_at "rd"
          any_goals exact ⟨rows, _, _, _, _, _, _, _, _, rfl, I3, K3, P6.keep (Kx.refl [] H6) (by simp) (by simp) (by omega)⟩
          all_goals
            refine ⟨ty_list (SqL.of hr), ?_⟩
            have hlen : (row.length : Int) < 40 := of_decide_eq_true e3
            repeat walk_at "rd"
            refine x_draw P6 (by omega) (by omega) (by omega) fun d4 H8 s0 s1 k8 P8 => ?_
            replace K3 := K3.trans k8
            replace I3 := I3.keep k8 (by simpa using ⟨_, hp⟩)
            have hr8 : H8 r = some (.lst row) := k8 r _ (by simpa using nrp) hr
            clear k8 P6
            repeat walk_at "rd"
            refine ⟨_, _, _, _, _, _, _, _, _, rfl, I3.wr hrs ?_ ?_, K3.wr (.inl hr0), P8.up (upd_ne nrp.symm) (upd_ne (fun e => by rw [← e, hc] at hr0; cases hr0)) (by omega)⟩
            · rw [ins_perm.length_eq, List.length_append, List.length_singleton]
              omega
            · intro v hv
              rcases List.mem_append.mp (ins_perm.mem_iff.mp hv) with hv | hv
              · exact hrow'.2 v hv
              · rw [List.mem_singleton.mp hv]
                first
                  | exact gN
                  | exact gZ
      · rintro σ H7 ⟨rows, y5, y6, y7, y8, y10, y11, y12, y13, rfl, I3, K3, P3⟩
        repeat walk_at "rd"
        exact k R rs rows H7 I3 e1 K3 (P3.keep (Kx.refl [] H7) (by simp) (by simp) (by omega))
end

section
variable {P : Program} {w : World} {K : PySem.W.Frag} {mg : Str → Option Value} {base : Heap}
/-- a row of slots as data, and as values -/
abbrev Rw := List (Option Nat)
def slotV : Option Nat → V
  | none => .non
  | some k => .int k
def rowV (l : Rw) : List V := l.map slotV
/-- a heap at D: its rows (none: free) and its outside references -/
structure HeapAt (K : PySem.W.Frag) (H : Hp) (D : Addr) (slots : List (Option Rw)) (outs : List Int) : Prop where
  ex : ∃ (S O : Addr) (vs : List V), SqT K H D [.ref S, .ref O] ∧ SqT K H S vs ∧ SqT K H O (outs.map V.int) ∧ vs.length = slots.length ∧
    ∀ (i : Nat) (o : Option Rw), slots[i]? = some o → (o = none ∧ vs[i]? = some V.non) ∨ ∃ r row, o = some row ∧ vs[i]? = some (.ref r) ∧ FT H r (rowV row)
structure WfB (b : Int) (slots : List (Option Rw)) (outs : List Int) : Prop where
  len : outs.length = slots.length
  most : slots.length ≤ 40
  free : ∀ m : Nat, slots[m]? = some none → outs[m]? = some 0
  outs : ∀ z ∈ outs, 0 ≤ z ∧ z ≤ b
  row : ∀ row, some row ∈ slots → row.length ≤ 40
  live : ∀ row, some row ∈ slots → ∀ k, some k ∈ row → ∃ r, slots[k]? = some (some r)
abbrev Wf := WfB 9
theorem HeapAt.keep {K : PySem.W.Frag} {H H' : Hp} {D : Addr} {slots : List (Option Rw)} {outs : List Int} (h : HeapAt K H D slots outs) (k : Same H H') : HeapAt K H' D slots outs := by
  obtain ⟨S, O, vs, h1, h2, h3, h4, h5⟩ := h.ex
  have k0 : Kx [] H H' := .same k []
  refine ⟨S, O, vs, k0.sqT (by simp) h1, k0.sqT (by simp) h2, k0.sqT (by simp) h3, h4, fun i o ho => ?_⟩
  rcases h5 i o ho with z | ⟨r, row, e1, e2, ob, e3, e4, e5⟩
  · exact .inl z
  · exact .inr ⟨r, row, e1, e2, ob, k _ _ e3, e4, e5⟩
def spBase (K : PySem.W.Frag) : Sp := fun vs H Q _ => ∃ (p c : Addr) (n : Nat), vs = [.ref p] ∧ PenAt H p c n ∧ n ≤ 800000 ∧
  ∀ (B D : Addr) (lab : Nat) (slots : List (Option Rw)) (outs : List Int) H', H' B = some (.tup [.ref D, .int lab]) → HeapAt K H' D slots outs → Wf slots outs → 1 ≤ slots.length → (∃ (row : Rw) (z : Int), slots[lab]? = some (some row) ∧ outs[lab]? = some z ∧ 1 ≤ z) → Kx [p] H H' → PenAt H' p c (n + 700) → Q (.ref B) H'
def toI : V → Int
  | .int i => i
  | _ => 0
theorem perm_ints {ys : List V} {zs : List Int} (h : ys.Perm (zs.map V.int)) : ∃ ls : List Int, ys = ls.map V.int ∧ ls.Perm zs := by
  refine ⟨ys.map toI, ?_, ?_⟩
  · rw [List.map_map]
    have : ∀ y ∈ ys, (V.int ∘ toI) y = y := by
      intro y hy
      obtain ⟨z, _, rfl⟩ := List.mem_map.mp (h.mem_iff.mp hy)
      rfl
    rw [List.map_congr_left this, List.map_id']
  · have e := h.map toI
    rw [List.map_map] at e
    have e2 : zs.map (toI ∘ V.int) = zs := by
      rw [show (toI ∘ V.int) = id from rfl, List.map_id]
    rwa [e2] at e
theorem rg_ints (N : Nat) : rgV 0 (N : Int) = ((List.range N).map fun (i : Nat) => (i : Int)).map V.int := by
  unfold rgV
  rw [List.map_map, show ((N : Int) - 0).toNat = N by omega]
  refine List.map_congr_left fun i _ => ?_
  show V.int (0 + (i : Int)) = V.int i
  rw [Int.zero_add]
def unV : V → Option Nat
  | .int z => some z.toNat
  | _ => none
theorem Kx.comb {S : List Addr} {H H1 H2 : Hp} {Z : Addr} (a : Kx S H H1) (b : Kx [Z] H1 H2) (n : H Z = none) : Kx S H H2 := fun q o hq h =>
  b q o (fun z => by rw [List.mem_singleton.mp z, n] at h; cases h) (a q o hq h)
theorem cut_from (xs : List V) (k : Nat) : cutV xs (some (k : Int)) none = xs.drop k := by
  unfold cutV
  rw [HT.sIx_none, show HT.sIx xs.length 0 (some (k : Int)) = min k xs.length from HT.sIx_nat xs.length 0 k]
  rcases Nat.le_total k xs.length with h | h
  · rw [Nat.min_eq_left h, List.take_of_length_le (by rw [List.length_drop]; exact Nat.le_refl _)]
  · rw [Nat.min_eq_right h, Nat.sub_self, List.take_zero, List.drop_of_length_le h]
theorem ix_nat {n j : Nat} (hj : j < n) : ixN n (j : Int) = some j := by
  unfold ixN
  rw [if_pos (by omega), if_pos (by omega), Int.toNat_natCast]
theorem RowsI.other {H0 H : Hp} {R A : Addr} {o : HO} {rs : List Addr} {rows : List (List V)} {live : List Int} {B : Nat} (h : RowsI H0 H R rs rows live B) (nR : A ≠ R) (n : A ∉ rs) : RowsI H0 (upd H A o) R rs rows live B :=
  ⟨(upd_ne nR.symm).trans h.hR, h.len, h.nd, h.fr, h.frR, h.nR, fun i r row h1 h2 => (upd_ne (fun e => n (by rw [← e]; exact List.mem_of_getElem? h1))).trans (h.at_ i r row h1 h2), h.good⟩
theorem ok_base {f : Addr} {fd : FuncData} (F : Fun K "_law_base" "_law_base" sQBase f fd) (T : Txt mg) (l_law_draw : Lo P w K mg base "_law_draw" 1 ["_law_pen_here", "_law_most_one"] spDraw)
    (l_law_shuffled : Lo P w K mg base "_law_shuffled" 2 ["_law_pen_here", "_law_row"] (spShuf K)) (l_law_linked : Lo P w K mg base "_law_linked" 2 ["_law_pen_here", "_law_labels", "_law_alive"] (spLinked K)) :
    FnOk P w K mg base CX0 3 f fd ["_law_pen_here"] (spBase K) := by
  refine F.ok scQBase (fun vs H Q E h => ?_) (fun cdv A outer s H vs Q E hr h => ?_)
  · obtain ⟨p, c, n, rfl, _⟩ := h
    rfl
  · obtain ⟨p, c, n, rfl, hpen, hn, k⟩ := h
    refine ⟨_, (pss_cons (ps_set (i := 1) scQBase.nd rfl (Or.inl rfl) (pe_ix ix_list (pe_lst (pa_cons (pe_op op_add pe_int (pe_lo l_law_draw (hr.mono (by decide)) (by rfl) (pa_cons (pv 0) (pa_cons pe_int pa_nil)))) (pa_cons (pe_op op_add pe_int (pe_lo l_law_draw (hr.mono (by decide)) (by rfl) (pa_cons (pv 0) (pa_cons pe_int pa_nil)))) (pa_cons pe_int (pa_cons (pe_op op_add pe_int (pe_lo l_law_draw (hr.mono (by decide)) (by rfl) (pa_cons (pv 0) (pa_cons pe_int pa_nil)))) pa_nil))))) (pe_lo l_law_draw (hr.mono (by decide)) (by rfl) (pa_cons (pv 0) (pa_cons pe_int pa_nil))) (fun _ _ => rfl)))
      (pss_cons (ps_set (i := 2) scQBase.nd rfl (Or.inl rfl) (pe_ix ix_list (pe_lst (pa_cons pe_int (pa_cons pe_int (pa_cons (pe_lo l_law_draw (hr.mono (by decide)) (by rfl) (pa_cons (pv 0) (pa_cons (pe_op op_sub pe_int (pv 1)) pa_nil))) (pa_cons (pe_callB (call_min2 rfl) (by rfl) T.b_min boot'_min (pa_cons pe_int (pa_cons (pe_op op_sub pe_int (pv 1)) pa_nil))) pa_nil))))) (pe_lo l_law_draw (hr.mono (by decide)) (by rfl) (pa_cons (pv 0) (pa_cons pe_int pa_nil))) (fun _ _ => rfl)))
      (pss_cons (ps_set (i := 3) scQBase.nd rfl (Or.inl rfl) (pe_lo l_law_shuffled (hr.mono (by decide)) (by rfl) (pa_cons (pv 0) (pa_cons (pe_listRg rfl (by rfl) T.b_list (prg_1 (by rfl) T.b_range (pe_op op_add (pv 1) (pv 2)))) pa_nil))))
      (pss_cons (ps_set (i := 4) scQBase.nd rfl (Or.inl rfl) (pe_lo l_law_linked (hr.mono (by decide)) (by rfl) (pa_cons (pv 0) (pa_cons (pv 3) (pa_cons (pv 1) pa_nil)))))
      (pss_cons (ps_setLc (i := 6) (own := [("_law_label", 5)]) rfl scQBase.nd rfl rfl (sw_true rfl rfl rfl (by decide +kernel)) (pi_list (pv 3)) (blkOk_by (N := ["_law_pen_here", "_law_alive", "_law_spare", "_law_labels", "_law_rows", "_law_label", "_law_handles", "_law_turn", "_law_row"]) (sc := defScope sQBase) (by decide +kernel)) (fun _ _ _ _ _ => (pg_name (i := 5) scQBase.nd rfl (Or.inl rfl))) (fun _ _ _ _ _ => pts_nil) (fun _ _ _ _ _ => pe_int))
      (pss_cons (ps_for PassesOwn.never rfl (pi_range1 (by rfl) T.b_range (pa_cons (pe_ix ix_list (pe_lst (pa_cons pe_int (pa_cons pe_int (pa_cons pe_int (pa_cons pe_int pa_nil))))) (pe_lo l_law_draw (hr.mono (by decide)) (by rfl) (pa_cons (pv 0) (pa_cons pe_int pa_nil))) (fun _ _ => rfl)) pa_nil)) (pg_name (i := 7) scQBase.nd rfl (Or.inl rfl))
      (pss_one (ps_asg (pe_op op_add pe_int (pe_lo l_law_draw (hr.mono (by decide)) (by rfl) (pa_cons (pv 0) (pa_cons pe_int pa_nil)))) (pg_sub (pv 6) (pe_ix ix_list (pv 3) (pe_lo l_law_draw (hr.mono (by decide)) (by rfl) (pa_cons (pv 0) (pa_cons (pv 1) pa_nil))) (fun _ _ => rfl)) set_list))))
      (pss_cons (ps_asg (pe_ix ix_list (pe_lst (pa_cons pe_int (pa_cons pe_int (pa_cons pe_int (pa_cons pe_int (pa_cons pe_int pa_nil)))))) (pe_lo l_law_draw (hr.mono (by decide)) (by rfl) (pa_cons (pv 0) (pa_cons pe_int pa_nil))) (fun _ _ => rfl)) (pg_sub (pv 6) (pe_ix ix_list (pv 3) pe_int (fun _ _ => rfl)) set_list))
      (pss_cons (ps_setLc (i := 4) (own := [("_law_row", 8)]) rfl scQBase.nd rfl rfl (sw_true rfl rfl rfl (by decide +kernel)) (pi_list (pv 4)) (blkOk_by (N := ["_law_pen_here", "_law_alive", "_law_spare", "_law_labels", "_law_rows", "_law_label", "_law_handles", "_law_turn", "_law_row"]) (sc := defScope sQBase) (by decide +kernel)) (fun _ _ _ _ _ => (pg_name (i := 8) scQBase.nd rfl (Or.inl rfl))) (fun _ _ _ _ _ => pts_nil) (fun _ _ _ _ _ => (pe_callTy (call_tupFK (K := K)) (by rfl) T.b_tuple boot'_tuple (pa_cons (pv 8) pa_nil))))
      (pss_cons (ps_for PassesOwn.never rfl (pi_list (pe_slice sl_list (pv 3) (po_some (pv 1)) po_none)) (pg_name (i := 5) scQBase.nd rfl (Or.inl rfl))
      (pss_one (ps_asg pe_non (pg_sub (pv 4) (pv 5) set_list))))
      (pss_one (ps_ret (pe_tup (pa_cons (pe_tup (pa_cons (pe_callTy call_tuple_of (by rfl) T.b_tuple boot'_tuple (pa_cons (pv 4) pa_nil)) (pa_cons (pe_callTy call_tuple_of (by rfl) T.b_tuple boot'_tuple (pa_cons (pv 6) pa_nil)) pa_nil))) (pa_cons (pe_ix ix_list (pv 3) pe_int (fun _ _ => rfl)) pa_nil)))))))))))))), ?_⟩
    refine x_start (σ' := [some (.ref p), none, none, none, none, none, none, none, none]) rfl ?_
    dsimp only [cxOf]
    obtain ⟨⟨op, hp⟩, oc, hc⟩ := hpen.some
    have hnp : ∀ b, H b = none → b ≠ p := fun b hb e => by
      rw [e, hp] at hb
      cases hb
    have npfree : ∀ {H1 : Hp} {q m}, PenAt H1 p c m → H1 q = none → q ≠ p := fun hp1 hq e => by
      obtain ⟨⟨o, ho⟩, _⟩ := hp1.some
      rw [e, ho] at hq
      cases hq
    repeat walk_at "rd"
    refine x_draw hpen (by omega) (by omega) (by omega) fun a1 H1 a1l a1h k1 P1 => ?_
    repeat walk_at "rd"
    refine x_draw P1 (by omega) (by omega) (by omega) fun a2 H2 a2l a2h k2 P2 => ?_
    replace k2 := k1.trans k2
    clear k1 P1
    repeat walk_at "rd"
    refine x_draw P2 (by omega) (by omega) (by omega) fun a3 H3 a3l a3h k3 P3 => ?_
    replace k3 := k2.trans k3
    clear k2 P2
    repeat walk_at "rd"
    rename_i q nq
    have nqp := npfree P3 nq
    refine x_draw (P3.keep ((Kx.refl [] H3).new nq) (by simp) (by simp) (Nat.le_refl _)) (by omega) (by omega) (by omega) fun a4 H4 a4l a4h k4 P4 => ?_
    have hq4 : H4 q = some (.lst [V.int (1 + a1), V.int (2 + a2), V.int 40, V.int (1 + a3)]) := k4 q _ (by simpa using nqp) upd_same
    have K4 := (k3.new nq).trans k4
    clear k4 P3 k3
    obtain ⟨al, hat, al0, al1⟩ : ∃ al : Nat, atI [V.int (1 + a1), V.int (2 + a2), V.int 40, V.int (1 + a3)] a4 = some (.int al) ∧ 1 ≤ al ∧ al ≤ 40 := by
      obtain ⟨z, hz, _, hz2⟩ := at_ints (zs := [1 + a1, 2 + a2, 40, 1 + a3]) a4l (by simpa using a4h)
      simp only [List.mem_cons, List.not_mem_nil, or_false] at hz
      refine ⟨z.toNat, ?_, by omega, by omega⟩
      rw [show ((z.toNat : Nat) : Int) = z by omega]
      exact hz2
    repeat walk_at "rd"
    refine x_draw P4 (by omega) (by omega) (by omega) fun s1 H5 s1l s1h k5 P5 => ?_
    replace K4 := K4.trans k5
    clear k5 P4
    repeat walk_at "rd"
    rename_i q2 nq2
    have nq2p := npfree P5 nq2
    refine x_draw (P5.keep ((Kx.refl [] H5).new nq2) (by simp) (by simp) (Nat.le_refl _)) (by omega) (by omega) (by omega) fun s2 H6 s2l s2h k6 P6 => ?_
    have hq6 : H6 q2 = some (.lst [V.int 0, V.int 0, V.int s1, V.int (if 40 - (al : Int) < 2 then 40 - (al : Int) else 2)]) := k6 q2 _ (by simpa using nq2p) upd_same
    have K6 := (K4.new nq2).trans k6
    clear k6 P5 K4
    obtain ⟨sp, hat2, sp1⟩ : ∃ sp : Nat, atI [V.int 0, V.int 0, V.int s1, V.int (if 40 - (al : Int) < 2 then 40 - (al : Int) else 2)] s2 = some (.int sp) ∧ sp + al ≤ 40 := by
      obtain ⟨z, hz, _, hz2⟩ := at_ints (zs := [0, 0, s1, if 40 - (al : Int) < 2 then 40 - (al : Int) else 2]) s2l (by simpa using s2h)
      simp only [List.mem_cons, List.not_mem_nil, or_false] at hz
      have hzz : 0 ≤ z ∧ z + al ≤ 40 := by
        split at hz <;> omega
      refine ⟨z.toNat, ?_, by omega⟩
      rw [show ((z.toNat : Nat) : Int) = z by omega]
      exact hz2
    repeat walk_at "rd"
    refine ⟨RgOk.of_le (by omega) (by omega) (by omega) (by omega), fun q3 nq3 => ?_⟩
    repeat walk_at "rd"
    have nq3p := npfree P6 nq3
    have eN : (al : Int) + (sp : Int) = ((al + sp : Nat) : Int) := by omega
    refine ⟨p, c, q3, n + 6, _, rfl, P6.keep ((Kx.refl [] H6).new nq3) (by simp) (by simp) (by omega), SqL.of upd_same, nq3p, by rw [rgV_length]; omega, by omega, fun L ys H7 nL hperm k7 hL P7 => ?_⟩
    rw [rgV_length] at P7
    rw [eN, rg_ints] at hperm
    obtain ⟨ls, rfl, hls⟩ := perm_ints hperm
    have hlen : ls.length = al + sp := by
      rw [hls.length_eq, List.length_map, List.length_range]
    have hmem : ∀ z ∈ ls, 0 ≤ z ∧ z < ls.length := by
      intro z hz
      obtain ⟨m, hm, rfl⟩ := List.mem_map.mp (hls.mem_iff.mp hz)
      have := List.mem_range.mp hm
      omega
    have hall : ∀ m : Nat, m < ls.length → (m : Int) ∈ ls := by
      intro m hm
      exact hls.mem_iff.mpr (List.mem_map.mpr ⟨m, List.mem_range.mpr (by omega), rfl⟩)
    have hnd : ls.Nodup := by
      refine hls.symm.nodup ?_
      refine List.Pairwise.map _ ?_ List.nodup_range
      intro a b hab e
      exact hab (by omega)
    have K7 := (K6.new nq3).trans k7
    have nLp := npfree (P6.keep ((Kx.refl [] H6).new nq3) (by simp) (by simp) (Nat.le_refl _)) nL
    clear k7 P6 K6 hq4 hq6 nqp nq2p hat hat2
    repeat walk_at "rd"
    refine ⟨p, c, L, _, ls, al, rfl, P7, SqL.of hL, nLp, by omega, hmem, al0, by omega, by omega, fun R rs rows H8 I8 e8 k8 P8 => ?_⟩
    have K8 := K7.trans k8
    have hL8 : H8 L = some (.lst (ls.map V.int)) := k8 L _ (by simpa using nLp) hL
    repeat walk_at "rd"
    have hlab : ∀ {w : Int}, 0 ≤ w → w < al → ∃ j : Nat, (j : Int) ∈ ls.take al ∧ j < ls.length ∧ atI (ls.map V.int) w = some (.int (j : Int)) := by
      intro w hw0 hw1
      obtain ⟨z, hz, hz1, hz2⟩ := at_ints (zs := ls) hw0 (by omega)
      have h3 := hmem z hz
      refine ⟨z.toNat, ?_, by omega, ?_⟩
      · rw [show ((z.toNat : Nat) : Int) = z by omega]
        exact List.mem_of_getElem? (i := w.toNat) (by rw [List.getElem?_take_of_lt (by omega)]; exact hz1)
      · rw [show ((z.toNat : Nat) : Int) = z by omega]
        exact hz2
    refine y_lcL (xs := ls.map V.int) (SqL.of hL8) (fun A nA => ⟨fun i H1 => Kx [] H8 H1 ∧ H1 A = some (.lst ((List.replicate i (0 : Int)).map V.int)), ⟨(Kx.refl _ _).new nA, upd_same⟩, ?_, ?_, ?_⟩)
    · rintro i H1 hi ⟨k1, _⟩
      exact k1.sqL (by simp) (SqL.of hL8)
    · rintro i x H1 H1' hi ⟨k1, e1⟩ ⟨rfl, hx⟩
      rw [List.length_map] at hi
      repeat walk_at "rd"
      refine ⟨rfl, ?_⟩
      repeat walk_at "rd"
      refine ⟨_, e1, small1000 (by rw [List.length_map, List.length_replicate]; omega), k1.wr (.inl nA), ?_⟩
      rw [upd_same, List.replicate_succ', List.map_append]
      rfl
    rintro H9 ⟨k9, hA⟩
    rw [List.length_map] at hA
    have K9 := K8.trans (k9.mono (by simp))
    have I9 := I8.keep k9 (by simp)
    have hL9 : H9 L = some (.lst (ls.map V.int)) := k9 L _ (by simp) hL8
    have P9 := P8.keep k9 (by simp) (by simp) (Nat.le_refl _)
    have nAp := npfree P8 nA
    have nAL : A ≠ L := fun e => by rw [e, hL8] at nA; cases nA
    have nAR : A ≠ R := fun e => by rw [e, I8.hR] at nA; cases nA
    have nArs : A ∉ rs := fun z => by
      obtain ⟨m, hm⟩ := List.mem_iff_getElem?.mp z
      obtain ⟨row, hrow⟩ : ∃ row, rows[m]? = some row := ⟨_, List.getElem?_eq_getElem (by rw [I8.len]; exact (List.getElem?_eq_some_iff.mp hm).1)⟩
      rw [I8.at_ m A row hm hrow] at nA
      cases nA
    have nA0 : H A = none := (K8.fresh (by simpa using nAp) nA)
    have P8' := P8
    clear k9 P8
    repeat walk_at "rd"
    rename_i q4 nq4
    have nq4p := npfree P9 nq4
    refine x_draw (P9.keep ((Kx.refl [] H9).new nq4) (by simp) (by simp) (Nat.le_refl _)) (by omega) (by omega) (by omega) fun s3 H10 s3l s3h k10 P10 => ?_
    have hq4 : H10 q4 = some (.lst [V.int 0, V.int 0, V.int 1, V.int 3]) := k10 q4 _ (by simpa using nq4p) upd_same
    have K10 := (K9.new nq4).trans k10
    have I10 := (I9.keep ((Kx.refl [] H9).new nq4) (by simp)).keep k10 (by simpa using P7.some.1)
    have hA10 : H10 A = some (.lst ((List.replicate ls.length (0 : Int)).map V.int)) := k10 A _ (by simpa using nAp) (lk_ne hA nq4)
    have hL10 : H10 L = some (.lst (ls.map V.int)) := k10 L _ (by simpa using nLp) (lk_ne hL9 nq4)
    clear k10 P9 I9 hA hL9
    obtain ⟨cnt, hat, hc0, hc1⟩ : ∃ cnt, atI [V.int 0, V.int 0, V.int 1, V.int 3] s3 = some (.int cnt) ∧ 0 ≤ cnt ∧ cnt ≤ 3 := by
      obtain ⟨z, hz, _, hz2⟩ := at_ints (zs := [0, 0, 1, 3]) s3l (by simpa using s3h)
      refine ⟨z, hz2, ?_⟩
      simp only [List.mem_cons, List.not_mem_nil, or_false] at hz
      omega
    repeat walk_at "rd"
    refine y_forR1 hc0 (by omega) ⟨fun i σ H11 => ∃ (hs : List Int) (y7 : Option V), σ = [some (.ref p), some (.int al), some (.int sp), some (.ref L), some (.ref R), none, some (.ref A), y7, none] ∧
      H11 A = some (.lst (hs.map V.int)) ∧ hs.length = ls.length ∧ (∀ z ∈ hs, 0 ≤ z ∧ z ≤ 9) ∧ (∀ m : Nat, m < ls.length → (m : Int) ∉ ls.take al → hs[m]? = some 0) ∧ H11 L = some (.lst (ls.map V.int)) ∧ RowsI H7 H11 R rs rows (ls.take al) 40 ∧ Kx [p] H H11 ∧ PenAt H11 p c (n + 600 + 2 * i),
      ⟨_, none, rfl, hA10, List.length_replicate, fun z hz => by rw [(List.mem_replicate.mp hz).2]; omega, fun m hm _ => by rw [List.getElem?_replicate, if_pos hm], hL10, I10, K10, P10.keep (Kx.refl [] H10) (by simp) (by simp) (by omega)⟩, fun _ _ _ _ _ => trivial, ?_, ?_⟩
    · rintro i x σ H11 H11' hi ⟨hs, y7, rfl, hA11, hhl, hhb, hhf, hL11, I11, K11, P11⟩ ⟨rfl, rfl⟩
      repeat walk_at "rd"
      refine x_draw P11 (by omega) (by omega) (by omega) fun v0 H12 v0l v0h k12 P12 => ?_
      have K12 := K11.trans k12
      have I12 := I11.keep k12 (by simpa using P7.some.1)
      have hA12 : H12 A = some (.lst (hs.map V.int)) := k12 A _ (by simpa using nAp) hA11
      have hL12 : H12 L = some (.lst (ls.map V.int)) := k12 L _ (by simpa using nLp) hL11
      clear k12 P11
      repeat walk_at "rd"
      refine x_draw P12 (by omega) (by omega) (by omega) fun v1 H13 v1l v1h k13 P13 => ?_
      have K13 := K12.trans k13
      have I13 := I12.keep k13 (by simpa using P7.some.1)
      have hA13 : H13 A = some (.lst (hs.map V.int)) := k13 A _ (by simpa using nAp) hA12
      have hL13 : H13 L = some (.lst (ls.map V.int)) := k13 L _ (by simpa using nLp) hL12
      clear k13 P12
      obtain ⟨j, hj, hj2, hatj⟩ := hlab v1l v1h
      have hix : ixN (hs.map V.int).length (j : Int) = some j := ix_nat (by rw [List.length_map]; omega)
      repeat walk_at "rd"
      refine ⟨hs.set j (1 + v0), _, rfl, ?_, by rw [List.length_set]; exact hhl, ?_, fun m hm hmt => by rw [List.getElem?_set_ne (fun e => hmt (by rw [← e]; exact hj))]; exact hhf m hm hmt, ?_, I13.other nAR nArs, K13.wr (.inl nA0), ?_⟩
      · rw [upd_same, List.map_set]
      · intro z hz
        rcases List.mem_or_eq_of_mem_set hz with hz | rfl
        · exact hhb z hz
        · omega
      · rw [upd_ne nAL.symm]
        exact hL13
      · exact P13.up (upd_ne nAp.symm) (upd_ne (fun e => by obtain ⟨_, o, ho⟩ := P8'.some; rw [← e, ho] at nA; cases nA)) (by omega)
    · rintro σ H11 ⟨hs, y7, rfl, hA11, hhl, hhb, hhf, hL11, I11, K11, P11⟩
      repeat walk_at "rd"
      rename_i q5 nq5
      have nq5p := npfree P11 nq5
      refine x_draw (P11.keep ((Kx.refl [] H11).new nq5) (by simp) (by simp) (Nat.le_refl _)) (by omega) (by omega) (by omega) fun s4 H12 s4l s4h k12 P12 => ?_
      have hq12 : H12 q5 = some (.lst [V.int 1, V.int 1, V.int 1, V.int 2, V.int 9]) := k12 q5 _ (by simpa using nq5p) upd_same
      have K12 := (K11.new nq5).trans k12
      have I12 := (I11.keep ((Kx.refl [] H11).new nq5) (by simp)).keep k12 (by simpa using P7.some.1)
      have hA12 : H12 A = some (.lst (hs.map V.int)) := k12 A _ (by simpa using nAp) (lk_ne hA11 nq5)
      have hL12 : H12 L = some (.lst (ls.map V.int)) := k12 L _ (by simpa using nLp) (lk_ne hL11 nq5)
      clear k12 P11 I11
      obtain ⟨hv, hat5, hv0, hv1⟩ : ∃ hv, atI [V.int 1, V.int 1, V.int 1, V.int 2, V.int 9] s4 = some (.int hv) ∧ 1 ≤ hv ∧ hv ≤ 9 := by
        obtain ⟨z, hz, _, hz2⟩ := at_ints (zs := [1, 1, 1, 2, 9]) s4l (by simpa using s4h)
        refine ⟨z, hz2, ?_⟩
        simp only [List.mem_cons, List.not_mem_nil, or_false] at hz
        omega
      obtain ⟨j0, hj0, hj02, hatj0⟩ := hlab (w := 0) (by omega) (by omega)
      have hix0 : ixN (hs.map V.int).length (j0 : Int) = some j0 := ix_nat (by rw [List.length_map]; omega)
      repeat walk_at "rd"
      have hA13 : upd H12 A (.lst ((hs.map V.int).set j0 (.int hv))) A = some (.lst ((hs.set j0 hv).map V.int)) := by rw [upd_same, List.map_set]
      have hL13 : upd H12 A (.lst ((hs.map V.int).set j0 (.int hv))) L = some (.lst (ls.map V.int)) := (upd_ne nAL.symm).trans hL12
      have I13 : RowsI H7 (upd H12 A (.lst ((hs.map V.int).set j0 (.int hv)))) R rs rows (ls.take al) 40 := I12.other nAR nArs
      have K13 : Kx [p] H (upd H12 A (.lst ((hs.map V.int).set j0 (.int hv)))) := K12.wr (.inl nA0)
      have P13 : PenAt (upd H12 A (.lst ((hs.map V.int).set j0 (.int hv)))) p c (n + 620) := P12.up (upd_ne nAp.symm) (upd_ne (fun e => by obtain ⟨_, o, ho⟩ := P8'.some; rw [← e, ho] at nA; cases nA)) (by omega)
      generalize upd H12 A (.lst ((hs.map V.int).set j0 (.int hv))) = H13 at *
      have hb2 : ∀ z ∈ hs.set j0 hv, 0 ≤ z ∧ z ≤ 9 := by
        intro z hz
        rcases List.mem_or_eq_of_mem_set hz with hz | rfl
        · exact hhb z hz
        · omega
      have hl2 : (hs.set j0 hv).length = ls.length := by rw [List.length_set]; exact hhl
      have hf2 : ∀ m : Nat, m < ls.length → (m : Int) ∉ ls.take al → (hs.set j0 hv)[m]? = some 0 := fun m hm hmt => by rw [List.getElem?_set_ne (fun e => hmt (by rw [← e]; exact hj0))]; exact hhf m hm hmt
      have hg2 : (hs.set j0 hv)[j0]? = some hv := List.getElem?_set_self (by omega)
      generalize hs.set j0 hv = hs2 at *
      clear hA12 hL12 I12 K12 P12 hq12
      refine y_lcL (xs := rs.map V.ref) (SqL.of I13.hR) (fun Z nZ => ⟨fun i H1 => Kx [] H13 H1 ∧ ∃ ts : List Addr, ts.length = i ∧ H1 Z = some (.lst (ts.map V.ref)) ∧ ∀ (m : Nat) (t : Addr) (row : List V), ts[m]? = some t → rows[m]? = some row → FT H1 t row,
        ⟨(Kx.refl _ _).new nZ, [], rfl, upd_same, by simp⟩, ?_, ?_, ?_⟩)
      · rintro i H1 hi ⟨k1, _⟩
        exact k1.sqL (by simp) (SqL.of I13.hR)
      · rintro i x H1 H1' hi ⟨k1, ts, et, eZ, hF⟩ ⟨rfl, hx⟩
        rw [List.length_map] at hi
        rw [List.getElem?_map, List.getElem?_eq_getElem hi] at hx
        cases Option.some.inj hx
        have hi3 : i < rows.length := by rw [I13.len]; exact hi
        have hrow := List.getElem?_eq_getElem hi3
        have hr1 : H1' rs[i] = some (.lst rows[i]) := k1 _ _ (by simp) (I13.at_ i _ _ (List.getElem?_eq_getElem hi) hrow)
        repeat walk_at "rd"
        refine ⟨rfl, ?_⟩
        repeat walk_at "rd"
        intro t o nt ho1 ho2
        have ntZ : t ≠ Z := (ne_of_none eZ nt).symm
        refine ⟨ts.map V.ref, lk_ne eZ nt, small1000 (by rw [List.length_map]; omega), (k1.new nt).wr (.inl nZ), ts ++ [t], by rw [List.length_append, et]; rfl, ?_, ?_⟩
        · rw [upd_same, List.map_append]
          rfl
        · intro m t' row' h1 h2
          by_cases hm : m < ts.length
          · rw [List.getElem?_append_left hm] at h1
            have f := hF m t' row' h1 h2
            have nt' : t' ≠ Z := by
              obtain ⟨ob, e, _⟩ := f
              exact ne_of e eZ (by intro z; cases z)
            obtain ⟨ob, e, f1, f2⟩ := f
            exact ⟨ob, lk_ne2 nt' (lk_ne e nt), f1, f2⟩
          · rw [List.getElem?_append_right (by omega)] at h1
            obtain ⟨e0, e1⟩ := List.getElem?_eq_some_iff.mp h1
            have em : m = i := by
              rw [List.length_singleton] at e0
              omega
            subst em
            rw [hrow] at h2
            simp only [et, Nat.sub_self, List.getElem_cons_zero] at e1
            rw [← e1, ← Option.some.inj h2]
            exact ⟨o, by rw [upd_ne ntZ]; exact upd_same, ho1, ho2⟩
      rintro H14 ⟨k14, ts, et, hZ, hF⟩
      rw [List.length_map, e8] at et
      have hA14 : H14 A = some (.lst (hs2.map V.int)) := k14 A _ (by simp) hA13
      have hL14 : H14 L = some (.lst (ls.map V.int)) := k14 L _ (by simp) hL13
      have K14 := K13.trans (k14.mono (by simp))
      have P14 := P13.keep k14 (by simp) (by simp) (Nat.le_refl _)
      have nZ0 : H Z = none := K13.fresh (by simpa using npfree P13 nZ) nZ
      have nZp := npfree P13 nZ
      have nAZ : A ≠ Z := fun e => by rw [← e, hA13] at nZ; cases nZ
      have nLZ : L ≠ Z := fun e => by rw [← e, hL13] at nZ; cases nZ
      repeat walk_at "rd"
      intro q6 nq6
      have nq6Z : q6 ≠ Z := (ne_of_none hZ nq6).symm
      rw [cut_from, ← List.map_drop]
      refine y_forL (xs := (ls.drop al).map V.int) (SqL.of upd_same) ⟨fun i σ Hx => ∃ (vs : List V) (y5 : Option V), σ = [some (.ref p), some (.int al), some (.int sp), some (.ref L), some (.ref Z), y5, some (.ref A), y7, none] ∧
        Hx Z = some (.lst vs) ∧ vs.length = ls.length ∧ (∀ (m : Nat) (t : Addr), ts[m]? = some t → vs[m]? = some (if (m : Int) ∈ (ls.drop al).take i then V.non else .ref t)) ∧ Kx [Z] (upd H14 q6 (.lst ((ls.drop al).map V.int))) Hx,
        ⟨ts.map V.ref, none, rfl, lk_ne hZ nq6, by rw [List.length_map]; exact et, ?_, Kx.refl _ _⟩, ?_, ?_, ?_⟩
      · intro m t ht
        rw [List.getElem?_map, ht, List.take_zero, if_neg (by simp)]
        rfl
      · rintro i σ Hx hi ⟨vs, y5, rfl, e1, e2, e3, kx⟩
        exact SqL.of (kx _ _ (by simpa using nq6Z) upd_same)
      · rintro i x σ Hx Hx' hi ⟨vs, y5, rfl, e1, e2, e3, kx⟩ ⟨rfl, hx⟩
        rw [List.length_map] at hi
        rw [List.getElem?_map, List.getElem?_eq_getElem hi] at hx
        cases Option.some.inj hx
        have hzm := hmem _ (List.mem_of_mem_drop (List.getElem_mem hi))
        obtain ⟨jz, hjz⟩ : ∃ jz : Nat, (ls.drop al)[i] = jz := ⟨((ls.drop al)[i]).toNat, by omega⟩
        rw [hjz] at hzm
        have hixz : ixN vs.length ((ls.drop al)[i]) = some jz := by
          rw [hjz]
          exact ix_nat (by omega)
        repeat walk_at "rd"
        refine ⟨vs.set jz .non, _, rfl, upd_same, by rw [List.length_set]; exact e2, ?_, kx.wr (.inr (by simp))⟩
        intro m t ht
        have et := List.take_add_one (l := ls.drop al) (i := i)
        rw [List.getElem?_eq_getElem hi] at et
        rw [et]
        by_cases hm : m = jz
        · subst hm
          rw [List.getElem?_set_self (by omega), if_pos (by simp [hjz])]
        · rw [List.getElem?_set_ne (Ne.symm hm), e3 m t ht]
          have : ((m : Int) ∈ (ls.drop al).take i ++ [(ls.drop al)[i]]) ↔ ((m : Int) ∈ (ls.drop al).take i) := by
            rw [List.mem_append, List.mem_singleton, hjz]
            constructor
            · rintro (z | z)
              · exact z
              · exact absurd (Int.ofNat.inj z) hm
            · exact .inl
          simp only [Option.toList_some, this]
      · rintro σ Hx ⟨vs, y5, rfl, e1, e2, e3, kx⟩
        rw [List.length_map, List.take_length] at e3
        have hAx : Hx A = some (.lst (hs2.map V.int)) := kx _ _ (by simpa using nAZ) (lk_ne hA14 nq6)
        have hLx : Hx L = some (.lst (ls.map V.int)) := kx _ _ (by simpa using nLZ) (lk_ne hL14 nq6)
        repeat walk_at "rd"
        intro S nS
        repeat walk_at "rd"
        intro O nO
        repeat walk_at "rd"
        rename_i D nD B nB
        have nZc : c ≠ Z := fun e => by
          obtain ⟨_, o, ho⟩ := P13.some
          rw [e, nZ] at ho
          cases ho
        have KX : Kx [p] H Hx := (K14.new nq6).comb kx nZ0
        have PX : PenAt Hx p c (n + 700) := (P14.keep ((Kx.refl [] H14).new nq6) (by simp) (by simp) (Nat.le_refl _)).keep kx (by simpa using nZp.symm) (by simpa using nZc) (by omega)
        have kf : Kx [] Hx (upd (upd (upd (upd Hx S (.tup vs)) O (.tup (hs2.map V.int))) D (.tup [.ref S, .ref O])) B (.tup [.ref D, .int j0])) := ((((Kx.refl [] Hx).new nS).new nO).new nD).new nB
        have hS : SqT K (upd (upd (upd (upd Hx S (.tup vs)) O (.tup (hs2.map V.int))) D (.tup [.ref S, .ref O])) B (.tup [.ref D, .int j0])) S vs := SqT.of (by walk_at "lk")
        have hO : SqT K (upd (upd (upd (upd Hx S (.tup vs)) O (.tup (hs2.map V.int))) D (.tup [.ref S, .ref O])) B (.tup [.ref D, .int j0])) O (hs2.map V.int) := SqT.of (by walk_at "lk")
        have hD : SqT K (upd (upd (upd (upd Hx S (.tup vs)) O (.tup (hs2.map V.int))) D (.tup [.ref S, .ref O])) B (.tup [.ref D, .int j0])) D [.ref S, .ref O] := SqT.of (by walk_at "lk")
        have hB : (upd (upd (upd (upd Hx S (.tup vs)) O (.tup (hs2.map V.int))) D (.tup [.ref S, .ref O])) B (.tup [.ref D, .int j0])) B = some (.tup [.ref D, .int j0]) := upd_same
        generalize (upd (upd (upd (upd Hx S (.tup vs)) O (.tup (hs2.map V.int))) D (.tup [.ref S, .ref O])) B (.tup [.ref D, .int j0])) = Hf at *
        have hrl : rows.length = ls.length := I13.len.trans e8
        have hsl : ((List.range ls.length).map fun m => if ((m : Nat) : Int) ∈ ls.drop al then (none : Option Rw) else some (((rows[m]?).getD []).map unV)).length = ls.length := by rw [List.length_map, List.length_range]
        have hget : ∀ m, m < ls.length → ((List.range ls.length).map fun m => if ((m : Nat) : Int) ∈ ls.drop al then (none : Option Rw) else some (((rows[m]?).getD []).map unV))[m]? = some (if ((m : Nat) : Int) ∈ ls.drop al then (none : Option Rw) else some (((rows[m]?).getD []).map unV)) := by
          intro m hm
          rw [List.getElem?_map, List.getElem?_range hm]
          rfl
        have hap : ∀ z, z ∈ ls.take al → z ∉ ls.drop al := by
          intro z hz hz2
          have := hnd
          rw [← List.take_append_drop al ls, List.nodup_append] at this
          exact this.2.2 z hz z hz2 rfl
        have hfr : ∀ m : Nat, ((List.range ls.length).map fun m => if ((m : Nat) : Int) ∈ ls.drop al then (none : Option Rw) else some (((rows[m]?).getD []).map unV))[m]? = some none → hs2[m]? = some 0 := by
          intro m hm
          have hm1 : m < ls.length := by
            have := (List.getElem?_eq_some_iff.mp hm).1
            rwa [hsl] at this
          rw [hget m hm1] at hm
          by_cases hd : (m : Int) ∈ ls.drop al
          · exact hf2 m hm1 fun z => hap _ z hd
          · rw [if_neg hd] at hm
            cases hm
        have hlb : ∃ (row : Rw) (z : Int), ((List.range ls.length).map fun m => if ((m : Nat) : Int) ∈ ls.drop al then (none : Option Rw) else some (((rows[m]?).getD []).map unV))[j0]? = some (some row) ∧ hs2[j0]? = some z ∧ 1 ≤ z := by
          refine ⟨((rows[j0]?).getD []).map unV, hv, ?_, hg2, hv0⟩
          rw [hget j0 hj02, if_neg (hap _ hj0)]
        refine k B D j0 _ hs2 Hf hB ⟨S, O, vs, hD, hS, hO, e2.trans hsl.symm, ?_⟩ ⟨hl2.trans hsl.symm, by rw [hsl]; omega, hfr, hb2, ?_, ?_⟩ (by rw [hsl]; omega) hlb (KX.trans (kf.mono (by simp))) (PX.keep kf (by simp) (by simp) (Nat.le_refl _))
        · intro m o ho
          have hm : m < ls.length := by
            have := (List.getElem?_eq_some_iff.mp ho).1
            rwa [hsl] at this
          rw [hget m hm] at ho
          have e4 := e3 m ts[m] (List.getElem?_eq_getElem (by omega))
          by_cases hd : (m : Int) ∈ ls.drop al
          · rw [if_pos hd] at ho e4
            exact .inl ⟨(Option.some.inj ho).symm, e4⟩
          · rw [if_neg hd] at ho e4
            have hm2 : m < rows.length := by omega
            have er := List.getElem?_eq_getElem hm2
            rw [er] at ho
            refine .inr ⟨ts[m], _, (Option.some.inj ho).symm, e4, ?_⟩
            obtain ⟨ob, f0, f1, f2⟩ := hF m ts[m] rows[m] (List.getElem?_eq_getElem (by omega)) er
            have nt : ts[m] ≠ Z := ne_of f0 hZ (by intro z; cases z)
            refine ⟨ob, kf _ _ (by simp) (kx _ _ (by simpa using nt) (lk_ne ?_ nq6)), f1, f2⟩
            rw [f0]
            have := (I13.good rows[m] (List.getElem_mem hm2)).2
            have ev : rowV ((some rows[m]).getD [] |>.map unV) = rows[m] := by
              unfold rowV
              show ((rows[m]).map unV).map slotV = rows[m]
              rw [List.map_map]
              have : ∀ v ∈ rows[m], (slotV ∘ unV) v = v := by
                intro v hv
                rcases this v hv with rfl | ⟨z, hz, rfl⟩
                · rfl
                · have := hmem z (List.mem_of_mem_take hz)
                  show V.int ((z.toNat : Nat) : Int) = V.int z
                  rw [show ((z.toNat : Nat) : Int) = z by omega]
              rw [List.map_congr_left this, List.map_id']
            rw [ev]
        · intro row hrow
          obtain ⟨m, hm, e⟩ := List.mem_map.mp hrow
          have hm := List.mem_range.mp hm
          by_cases hd : (m : Int) ∈ ls.drop al
          · rw [if_pos hd] at e
            cases e
          · rw [if_neg hd, List.getElem?_eq_getElem (show m < rows.length by omega)] at e
            rw [← Option.some.inj e, List.length_map]
            exact (I13.good _ (List.getElem_mem (show m < rows.length by omega))).1
        · intro row hrow k hk
          obtain ⟨m, hm, e⟩ := List.mem_map.mp hrow
          have hm := List.mem_range.mp hm
          by_cases hd : (m : Int) ∈ ls.drop al
          · rw [if_pos hd] at e
            cases e
          · rw [if_neg hd, List.getElem?_eq_getElem (show m < rows.length by omega)] at e
            rw [← Option.some.inj e] at hk
            obtain ⟨v, hv, ev⟩ := List.mem_map.mp hk
            rcases (I13.good _ (List.getElem_mem (show m < rows.length by omega))).2 v hv with rfl | ⟨z, hz, rfl⟩
            · cases ev
            · have h3 := hmem z (List.mem_of_mem_take hz)
              have ek : z.toNat = k := Option.some.inj ev
              have hk2 : (k : Int) = z := by omega
              have e9 := hget k (by omega)
              rw [if_neg (by rw [hk2]; exact hap z hz)] at e9
              exact ⟨_, e9⟩
end


/-- a heap at D, its rows any tuples -/
structure HeapT (K : PySem.W.Frag) (H : Hp) (D : Addr) (slots : List (Option Rw)) (outs : List Int) : Prop where
  ex : ∃ (S O : Addr) (vs : List V), SqT K H D [.ref S, .ref O] ∧ SqT K H S vs ∧ SqT K H O (outs.map V.int) ∧ vs.length = slots.length ∧
    ∀ (i : Nat) (o : Option Rw), slots[i]? = some o → (o = none ∧ vs[i]? = some V.non) ∨ ∃ r row, o = some row ∧ vs[i]? = some (.ref r) ∧ SqT K H r (rowV row)
theorem HeapAt.toT {K : PySem.W.Frag} {H : Hp} {D : Addr} {slots : List (Option Rw)} {outs : List Int} (h : HeapAt K H D slots outs) : HeapT K H D slots outs := by
  obtain ⟨S, O, vs, h1, h2, h3, h4, h5⟩ := h.ex
  refine ⟨S, O, vs, h1, h2, h3, h4, fun i o ho => ?_⟩
  rcases h5 i o ho with z | ⟨r, row, e1, e2, e3⟩
  · exact .inl z
  · exact .inr ⟨r, row, e1, e2, e3.seq⟩
theorem HeapT.keep {K : PySem.W.Frag} {H H' : Hp} {D : Addr} {slots : List (Option Rw)} {outs : List Int} (h : HeapT K H D slots outs) (k : Kx [] H H') : HeapT K H' D slots outs := by
  obtain ⟨S, O, vs, h1, h2, h3, h4, h5⟩ := h.ex
  refine ⟨S, O, vs, k.sqT (by simp) h1, k.sqT (by simp) h2, k.sqT (by simp) h3, h4, fun i o ho => ?_⟩
  rcases h5 i o ho with z | ⟨r, row, e1, e2, e3⟩
  · exact .inl z
  · exact .inr ⟨r, row, e1, e2, k.sqT (by simp) e3⟩
def slotD : Option Nat → PyData
  | none => .none
  | some k => .int k
def rowD : Option Rw → PyData
  | none => .none
  | some l => .tuple (l.map slotD)
def heapD (slots : List (Option Rw)) (outs : List Int) : PyData := .tuple [.tuple (slots.map rowD), .tuple (outs.map .int)]
theorem dp_slots {K : PySem.W.Frag} {H : Hp} : ∀ l : Rw, DpAll K H (rowV l) (l.map slotD)
  | [] => .nil
  | none :: r => .cons .non (dp_slots r)
  | some k :: r => .cons (.int k) (dp_slots r)
theorem dpAll_at {K : PySem.W.Frag} {H : Hp} : ∀ {vs : List V} {ds : List PyData}, vs.length = ds.length → (∀ (i : Nat) (d : PyData), ds[i]? = some d → ∃ v, vs[i]? = some v ∧ Dp K H v d) → DpAll K H vs ds
  | [], [], _, _ => .nil
  | [], _ :: _, h, _ => by cases h
  | _ :: _, [], h, _ => by cases h
  | v :: vs, d :: ds, h, q => by
    obtain ⟨v', e, hd⟩ := q 0 d rfl
    cases Option.some.inj e
    exact .cons hd (dpAll_at (Nat.succ.inj h) fun i d' hi => q (i + 1) d' hi)
theorem dp_intsT {K : PySem.W.Frag} {H : Hp} : ∀ cs : List Int, DpAll K H (cs.map V.int) (cs.map PyData.int)
  | [] => .nil
  | z :: r => .cons (.int z) (dp_intsT r)
theorem HeapT.dp {K : PySem.W.Frag} {H : Hp} {D : Addr} {slots : List (Option Rw)} {outs : List Int} (h : HeapT K H D slots outs) : Dp K H (.ref D) (heapD slots outs) := by
  obtain ⟨S, O, vs, h1, h2, h3, h4, h5⟩ := h.ex
  refine .tup h1 (.cons (.tup h2 (dpAll_at (by rw [List.length_map]; exact h4) ?_)) (.cons (.tup h3 (dp_intsT outs)) .nil))
  intro i d hd
  rw [List.getElem?_map] at hd
  cases e : slots[i]? with
  | none => rw [e] at hd; cases hd
  | some o =>
    rw [e] at hd
    cases Option.some.inj hd
    rcases h5 i o e with ⟨rfl, z⟩ | ⟨r, row, rfl, z, f⟩
    · exact ⟨_, z, .non⟩
    · exact ⟨_, z, .tup f (dp_slots row)⟩
theorem good_heap {slots : List (Option Rw)} {outs : List Int} (w : Wf slots outs) : Good (heapD slots outs) 3 (2 * (40 * (40 * 32 + 1) + 1)) := by
  have hrow : ∀ row, some row ∈ slots → Good (rowD (some row)) 1 (40 * 32) := by
    intro row hr
    refine Good.tuple (n := 40) ?_ (by rw [List.length_map]; exact w.row row hr)
    intro d hd
    obtain ⟨s, hs, rfl⟩ := List.mem_map.mp hd
    cases s with
    | none => exact Good.none.mono (Nat.le_refl _) (by decide)
    | some k =>
      obtain ⟨r, e⟩ := w.live row hr k hs
      have hk := (List.getElem?_eq_some_iff.mp e).1
      have := w.most
      exact Good.int (by show ((k : Int)).natAbs < _; omega)
  refine Good.tuple (n := 2) (k := 2) (w := 40 * (40 * 32 + 1)) ?_ (by simp)
  intro d hd
  simp only [List.mem_cons, List.not_mem_nil, or_false] at hd
  rcases hd with rfl | rfl
  · refine Good.tuple ?_ (by rw [List.length_map]; exact w.most)
    intro d hd
    obtain ⟨o, ho, rfl⟩ := List.mem_map.mp hd
    cases o with
    | none => exact Good.none.mono (by decide) (by decide)
    | some row => exact hrow row ho
  · refine (Good.tuple (k := 0) (w := 31) (n := 40) ?_ (by rw [List.length_map, w.len]; exact w.most)).mono (by decide) (by decide)
    intro d hd
    obtain ⟨z, hz, rfl⟩ := List.mem_map.mp hd
    have := w.outs z hz
    exact Good.int (by omega)
/-! ### what the program says of a heap -/
def isLive (slots : List (Option Rw)) (m : Nat) : Bool := ((slots[m]?).getD none).isSome
def liveUp (slots : List (Option Rw)) (n : Nat) : List Int := ((List.range n).filter (isLive slots)).map fun (m : Nat) => (m : Int)
theorem liveUp_succ (slots : List (Option Rw)) (n : Nat) : liveUp slots (n + 1) = if isLive slots n then liveUp slots n ++ [(n : Int)] else liveUp slots n := by
  unfold liveUp
  rw [List.range_succ, List.filter_append, List.map_append]
  cases h : isLive slots n
  · simp [List.filter, h]
  · simp [List.filter, h]
theorem liveUp_len (slots : List (Option Rw)) (n : Nat) : (liveUp slots n).length ≤ n := by
  unfold liveUp
  rw [List.length_map]
  exact Nat.le_trans (List.length_filter_le _ _) (by rw [List.length_range]; exact Nat.le_refl _)
def cntO (k : Nat) : Option Rw → Nat
  | none => 0
  | some row => row.count (some k)
/-- how many slots hold k -/
def useC (slots : List (Option Rw)) (k : Nat) : Nat := (slots.map (cntO k)).sum
def useL (slots : List (Option Rw)) : List Int := (List.range slots.length).map fun k => (useC slots k : Int)
def countV (slots : List (Option Rw)) (outs : List Int) (m : Nat) : V := if isLive slots m then .int ((outs[m]?).getD 0 + useC slots m) else .non
def countsV (slots : List (Option Rw)) (outs : List Int) : List V := (List.range slots.length).map (countV slots outs)
section
variable {P : Program} {w : World} {K : PySem.W.Frag} {mg : Str → Option Value} {base : Heap}
def spLive (K : PySem.W.Frag) : Sp := fun vs H Q _ => ∃ (D : Addr) (slots : List (Option Rw)) (outs : List Int), vs = [.ref D] ∧ HeapT K H D slots outs ∧ Wf slots outs ∧
  ∀ p H', H p = none → Kx [] H H' → H' p = some (.lst ((liveUp slots slots.length).map V.int)) → Q (.ref p) H'
end

/-! ### the machine, as a function of plain data -/
def rowOf (slots : List (Option Rw)) (h : Nat) : Rw := ((slots[h]?).getD none).getD []
theorem rowOf_some {slots : List (Option Rw)} {h : Nat} {row : Rw} (e : slots[h]? = some (some row)) : rowOf slots h = row := by simp [rowOf, e]
theorem live_lt {slots : List (Option Rw)} {m : Nat} (h : isLive slots m = true) : ∃ row, slots[m]? = some (some row) ∧ m < slots.length := by
  unfold isLive at h
  cases e : slots[m]? with
  | none => rw [e] at h; cases h
  | some o =>
    cases o with
    | none => rw [e] at h; cases h
    | some row => exact ⟨row, rfl, (List.getElem?_eq_some_iff.mp e).1⟩
/-- a release that waits: holder and slot that held the node, its depth -/
structure Pd where
  holder : Option Nat
  slot : Option Nat
  node : Nat
  depth : Nat
inductive Ev
  | release (holder slot : Option Nat) (node : Nat) (left : Int)
  | destroy (node depth : Nat)
  | shelve (node size : Nat)
  | take (node size : Nat)
def Ev.dead : Ev → Option Nat
  | .destroy n _ => some n
  | _ => none
def Ev.size : Ev → Option Int
  | .shelve _ k => some k
  | _ => none
structure FS where
  pend : List Pd
  shelf : List Nat
  evs : List Ev
def FS.log (s : FS) : List Nat := s.evs.filterMap Ev.dead
section
variable (slots : List (Option Rw)) (outs : List Int)
def cntH (log : List Nat) (m : Nat) : Nat := ((List.range slots.length).map fun h => if h ∈ log then 0 else (rowOf slots h).count (some m)).sum
def pendC (p : List Pd) (m : Nat) : Nat := (p.map (·.node)).count m
def tal (log : List Nat) (pend : List Pd) (m : Nat) : Int := (outs[m]?).getD 0 + cntH slots log m + pendC pend m
def kidsAt (n d : Nat) : Nat → Rw → List Pd
  | _, [] => []
  | j, none :: r => kidsAt n d (j + 1) r
  | j, some m :: r => ⟨some n, some j, m, d⟩ :: kidsAt n d (j + 1) r
def kids (n d : Nat) : List Pd := kidsAt n d 0 (rowOf slots n)
def stepF (lim : Int) (s : FS) : Option FS :=
  match s.pend with
  | p :: rest =>
    if 0 < tal slots outs s.log rest p.node then some ⟨rest, s.shelf, s.evs ++ [.release p.holder p.slot p.node (tal slots outs s.log rest p.node)]⟩
    else if (p.depth : Int) < lim then some ⟨kids slots p.node (p.depth + 1) ++ rest, s.shelf, s.evs ++ [.release p.holder p.slot p.node (tal slots outs s.log rest p.node), .destroy p.node p.depth]⟩
    else some ⟨rest, s.shelf ++ [p.node], s.evs ++ [.release p.holder p.slot p.node (tal slots outs s.log rest p.node), .shelve p.node (s.shelf.length + 1)]⟩
  | [] => match s.shelf.getLast? with
    | none => none
    | some n => some ⟨kids slots n 1, s.shelf.dropLast, s.evs ++ [.take n s.shelf.dropLast.length, .destroy n 0]⟩
def run (lim : Int) : Nat → FS → Option FS
  | 0, s => some s
  | n + 1, s => (run lim n s).bind (stepF slots outs lim)
/-- s' is reached from s -/
def Steps (lim : Int) (s s' : FS) : Prop := ∃ n, run slots outs lim n s = some s'
end
section
variable {slots : List (Option Rw)} {outs : List Int} {lim : Int}
theorem Steps.refl (s : FS) : Steps slots outs lim s s := ⟨0, rfl⟩
theorem Steps.tail {s t u : FS} (h : Steps slots outs lim s t) (e : stepF slots outs lim t = some u) : Steps slots outs lim s u := by
  obtain ⟨n, hn⟩ := h
  exact ⟨n + 1, by show (run slots outs lim n s).bind _ = _; rw [hn]; exact e⟩
theorem run_past {s t : FS} {n : Nat} (h : run slots outs lim n s = some t) (e : stepF slots outs lim t = none) : ∀ k, run slots outs lim (n + 1 + k) s = none
  | 0 => by show (run slots outs lim n s).bind _ = none; rw [h]; exact e
  | k + 1 => by
    show (run slots outs lim (n + 1 + k) s).bind _ = none
    rw [run_past h e k]
    rfl
/-- where it ends is told -/
theorem Steps.det {s t u : FS} (h : Steps slots outs lim s t) (e : stepF slots outs lim t = none) (h' : Steps slots outs lim s u) (e' : stepF slots outs lim u = none) : t = u := by
  obtain ⟨n, hn⟩ := h
  obtain ⟨m, hm⟩ := h'
  rcases Nat.lt_trichotomy n m with l | l | l
  · have := run_past hn e (m - (n + 1))
    rw [show n + 1 + (m - (n + 1)) = m by omega, hm] at this
    cases this
  · subst l
    rw [hn] at hm
    exact Option.some.inj hm
  · have := run_past hm e' (n - (m + 1))
    rw [show m + 1 + (n - (m + 1)) = n by omega, hn] at this
    cases this
theorem Steps.trans {s t u : FS} (h : Steps slots outs lim s t) (h' : Steps slots outs lim t u) : Steps slots outs lim s u := by
  obtain ⟨m, hm⟩ := h'
  induction m generalizing u with
  | zero => cases Option.some.inj (hm : some t = some u); exact h
  | succ m ih =>
    have hm : (run slots outs lim m t).bind (stepF slots outs lim) = some u := hm
    cases e : run slots outs lim m t with
    | none => rw [e] at hm; cases hm
    | some v => rw [e] at hm; exact (ih e).tail hm
theorem kidsAt_count (n d m : Nat) : ∀ (r : Rw) (j : Nat), pendC (kidsAt n d j r) m = r.count (some m)
  | [], _ => rfl
  | none :: r, j => by
    show pendC (kidsAt n d (j + 1) r) m = _
    rw [kidsAt_count n d m r, List.count_cons]
    simp
  | some k :: r, j => by
    have ih := kidsAt_count n d m r (j + 1)
    unfold pendC at ih ⊢
    show ((⟨some n, some j, k, d⟩ :: kidsAt n d (j + 1) r : List Pd).map (·.node)).count m = _
    rw [List.map_cons, List.count_cons, List.count_cons, ih]
    by_cases e : k = m <;> simp [e]
theorem kidsAt_mem {n d : Nat} : ∀ {r : Rw} {j : Nat} {p : Pd}, p ∈ kidsAt n d j r → some p.node ∈ r
  | [], _, _, h => by cases h
  | none :: r, j, p, h => List.mem_cons_of_mem _ (kidsAt_mem (r := r) (j := j + 1) h)
  | some k :: r, j, p, h => by
    rcases List.mem_cons.mp (show p ∈ (⟨some n, some j, k, d⟩ :: kidsAt n d (j + 1) r : List Pd) from h) with e | h
    · rw [e]
      exact List.mem_cons_self
    · exact List.mem_cons_of_mem _ (kidsAt_mem h)
theorem kidsAt_len (n d : Nat) : ∀ (r : Rw) (j : Nat), (kidsAt n d j r).length ≤ r.length
  | [], _ => Nat.le_refl _
  | none :: r, j => Nat.le_succ_of_le (kidsAt_len n d r (j + 1))
  | some k :: r, j => Nat.succ_le_succ (kidsAt_len n d r (j + 1))
theorem pendC_app (a b : List Pd) (m : Nat) : pendC (a ++ b) m = pendC a m + pendC b m := by
  unfold pendC
  rw [List.map_append, List.count_append]
theorem pendC_cons (p : Pd) (b : List Pd) (m : Nat) : pendC (p :: b) m = pendC b m + if p.node = m then 1 else 0 := by
  unfold pendC
  rw [List.map_cons, List.count_cons]
  by_cases e : p.node = m <;> simp [e]
theorem sum_drop1 {f g : Nat → Nat} {n N : Nat} (hn : n < N) (hg : g n = 0) (he : ∀ h, h ≠ n → g h = f h) : ((List.range N).map g).sum + f n = ((List.range N).map f).sum := by
  induction N with
  | zero => omega
  | succ N ih =>
    rw [List.range_succ, List.map_append, List.map_append, List.sum_append, List.sum_append]
    simp only [List.map_cons, List.map_nil, List.sum_cons, List.sum_nil, Nat.add_zero]
    by_cases e : n = N
    · subst e
      have : (List.range n).map g = (List.range n).map f := List.map_congr_left fun h hh => he h (Nat.ne_of_lt (List.mem_range.mp hh))
      rw [this, hg]
      omega
    · have := ih (by omega)
      rw [he N (Ne.symm e)]
      omega
theorem cntH_dead {log : List Nat} {n : Nat} (hn : n < slots.length) (hl : n ∉ log) (m : Nat) : cntH slots (log ++ [n]) m + (rowOf slots n).count (some m) = cntH slots log m := by
  have := sum_drop1 (f := fun h => if h ∈ log then 0 else (rowOf slots h).count (some m)) (g := fun h => if h ∈ log ++ [n] then 0 else (rowOf slots h).count (some m)) hn (by simp) (fun h e => by
    have : (h ∈ log ++ [n]) ↔ h ∈ log := by simp [e]
    simp only [this])
  simp only [if_neg hl] at this
  exact this
theorem tal_pop (log : List Nat) (p : Pd) (rest : List Pd) (m : Nat) : tal slots outs log (p :: rest) m = tal slots outs log rest m + if p.node = m then 1 else 0 := by
  unfold tal
  rw [pendC_cons]
  by_cases e : p.node = m
  · simp only [e, if_true]
    omega
  · simp only [e, if_false]
    omega
theorem tal_dead {log : List Nat} {n : Nat} (hn : n < slots.length) (hl : n ∉ log) (d : Nat) (rest : List Pd) (m : Nat) : tal slots outs (log ++ [n]) (kids slots n d ++ rest) m = tal slots outs log rest m := by
  have h1 := cntH_dead (slots := slots) hn hl m
  have h2 := kidsAt_count n d m (rowOf slots n) 0
  unfold tal
  rw [pendC_app, show pendC (kids slots n d) m = (rowOf slots n).count (some m) from h2]
  omega
theorem tal_nonneg (ho : ∀ z ∈ outs, 0 ≤ z) (log : List Nat) (pend : List Pd) (m : Nat) : (pendC pend m : Int) ≤ tal slots outs log pend m := by
  have : 0 ≤ (outs[m]?).getD 0 := by
    cases e : outs[m]? with
    | none => exact Int.le_refl 0
    | some z => exact ho z (List.mem_of_getElem? e)
  unfold tal
  omega
/-- what holds of every state -/
structure SOk (slots : List (Option Rw)) (outs : List Int) (s : FS) : Prop where
  pl : ∀ p ∈ s.pend, isLive slots p.node = true
  nd : (s.log ++ s.shelf).Nodup
  z : ∀ n ∈ s.log ++ s.shelf, tal slots outs s.log s.pend n = 0
  lv : ∀ n ∈ s.log ++ s.shelf, isLive slots n = true
theorem kids_live (wl : ∀ row, some row ∈ slots → ∀ k, some k ∈ row → ∃ r, slots[k]? = some (some r)) {n d : Nat} (hl : isLive slots n = true) : ∀ p ∈ kids slots n d, isLive slots p.node = true := by
  intro p hp
  obtain ⟨row, e, _⟩ := live_lt hl
  have h := kidsAt_mem hp
  rw [rowOf_some e] at h
  obtain ⟨r, er⟩ := wl row (List.mem_of_getElem? e) _ h
  simp [isLive, er]
theorem SOk.new {s : FS} (o : SOk slots outs s) (ho : ∀ z ∈ outs, 0 ≤ z) {p : Pd} {rest : List Pd} (hp : s.pend = p :: rest) : p.node ∉ s.log ++ s.shelf := by
  intro h
  have h1 := o.z _ h
  have h2 := tal_nonneg (slots := slots) ho s.log s.pend p.node
  rw [hp, pendC_cons] at h2
  rw [hp] at h1
  simp only [if_true] at h2
  omega
theorem nodup_snoc {a b : List Nat} {n : Nat} (h : (a ++ b).Nodup) (hn : n ∉ a ++ b) : ((a ++ [n]) ++ b).Nodup ∧ (a ++ (b ++ [n])).Nodup := by
  have p1 : ((a ++ [n]) ++ b).Perm (n :: (a ++ b)) := by
    rw [List.append_assoc]
    exact List.perm_middle
  have p2 : (a ++ (b ++ [n])).Perm (n :: (a ++ b)) := by
    rw [← List.append_assoc]
    exact List.perm_append_comm
  have h2 : (n :: (a ++ b)).Nodup := List.nodup_cons.mpr ⟨hn, h⟩
  exact ⟨p1.symm.nodup h2, p2.symm.nodup h2⟩
theorem log_app (a b : List Ev) : (⟨[], [], a ++ b⟩ : FS).log = (⟨[], [], a⟩ : FS).log ++ (⟨[], [], b⟩ : FS).log := List.filterMap_append
theorem SOk.step {s s' : FS} (o : SOk slots outs s) (ho : ∀ z ∈ outs, 0 ≤ z) (wl : ∀ row, some row ∈ slots → ∀ k, some k ∈ row → ∃ r, slots[k]? = some (some r)) (e : stepF slots outs lim s = some s') : SOk slots outs s' := by
  cases hp : s.pend with
  | nil =>
    unfold stepF at e
    rw [hp] at e
    simp only at e
    cases hs : s.shelf.getLast? with
    | none => rw [hs] at e; cases e
    | some n =>
      rw [hs] at e
      cases Option.some.inj e
      have hsp : s.shelf = s.shelf.dropLast ++ [n] := by
        obtain ⟨ys, hy⟩ := List.getLast?_eq_some_iff.mp hs
        rw [hy, List.dropLast_concat]
      have hlog : FS.log ⟨kids slots n 1, s.shelf.dropLast, s.evs ++ [.take n s.shelf.dropLast.length, .destroy n 0]⟩ = s.log ++ [n] := by
        unfold FS.log
        rw [List.filterMap_append]
        rfl
      have hmem : n ∈ s.log ++ s.shelf := by rw [hsp]; simp
      have hlv := o.lv n hmem
      obtain ⟨_, _, hlt⟩ := live_lt hlv
      have hnd := o.nd
      rw [hsp] at hnd
      have hnl : n ∉ s.log := fun h => (List.nodup_append.mp hnd).2.2 n h n (by simp) rfl
      have hsub : ∀ m, m ∈ (s.log ++ [n]) ++ s.shelf.dropLast → m ∈ s.log ++ s.shelf := by
        intro m hm
        rw [hsp]
        simp only [List.mem_append, List.mem_singleton] at hm ⊢
        rcases hm with (h | h) | h
        · exact .inl h
        · exact .inr (.inr h)
        · exact .inr (.inl h)
      refine ⟨kids_live wl hlv, ?_, fun m hm => ?_, fun m hm => ?_⟩
      · rw [hlog]
        show ((s.log ++ [n]) ++ s.shelf.dropLast).Nodup
        have hnd2 : (s.log ++ s.shelf.dropLast ++ [n]).Nodup := by rwa [List.append_assoc]
        have hn2 : n ∉ s.log ++ s.shelf.dropLast := fun h => (List.nodup_append.mp hnd2).2.2 n h n (by simp) rfl
        exact (nodup_snoc (List.nodup_append.mp hnd2).1 hn2).1
      · rw [hlog] at hm ⊢
        show tal slots outs (s.log ++ [n]) (kids slots n 1) m = 0
        have := tal_dead (slots := slots) (outs := outs) hlt hnl 1 [] m
        rw [List.append_nil] at this
        rw [this, ← hp]
        exact o.z m (hsub m hm)
      · rw [hlog] at hm
        exact o.lv m (hsub m hm)
  | cons p rest =>
    have hn := o.new ho hp
    have hl := o.pl p (by rw [hp]; exact List.mem_cons_self)
    obtain ⟨_, _, hlt⟩ := live_lt hl
    have hrest : ∀ q ∈ rest, isLive slots q.node = true := fun q hq => o.pl q (by rw [hp]; exact List.mem_cons_of_mem _ hq)
    have hz : ∀ m ∈ s.log ++ s.shelf, tal slots outs s.log rest m = 0 := by
      intro m hm
      have h1 := o.z m hm
      rw [hp, tal_pop, if_neg (fun e => hn (by rw [e]; exact hm))] at h1
      omega
    have hge : 0 ≤ tal slots outs s.log rest p.node := by
      have := tal_nonneg (slots := slots) ho s.log rest p.node
      omega
    unfold stepF at e
    rw [hp] at e
    simp only at e
    by_cases h0 : 0 < tal slots outs s.log rest p.node
    · rw [if_pos h0] at e
      cases Option.some.inj e
      have hlog : FS.log ⟨rest, s.shelf, s.evs ++ [.release p.holder p.slot p.node (tal slots outs s.log rest p.node)]⟩ = s.log := by
        unfold FS.log
        rw [List.filterMap_append]
        exact List.append_nil _
      exact ⟨hrest, by rw [hlog]; exact o.nd, fun m hm => by rw [hlog] at hm ⊢; exact hz m hm, fun m hm => by rw [hlog] at hm; exact o.lv m hm⟩
    · rw [if_neg h0] at e
      have hzero : tal slots outs s.log rest p.node = 0 := by omega
      by_cases hd : (p.depth : Int) < lim
      · rw [if_pos hd] at e
        cases Option.some.inj e
        have hlog : FS.log ⟨kids slots p.node (p.depth + 1) ++ rest, s.shelf, s.evs ++ [.release p.holder p.slot p.node (tal slots outs s.log rest p.node), .destroy p.node p.depth]⟩ = s.log ++ [p.node] := by
          unfold FS.log
          rw [List.filterMap_append]
          rfl
        have hnl : p.node ∉ s.log := fun h => hn (List.mem_append_left _ h)
        have hsplit : ∀ m, m ∈ (s.log ++ [p.node]) ++ s.shelf → m = p.node ∨ m ∈ s.log ++ s.shelf := by
          intro m hm
          simp only [List.mem_append, List.mem_singleton] at hm ⊢
          rcases hm with (h | h) | h
          · exact .inr (.inl h)
          · exact .inl h
          · exact .inr (.inr h)
        refine ⟨fun q hq => ?_, by rw [hlog]; exact (nodup_snoc o.nd hn).1, fun m hm => ?_, fun m hm => ?_⟩
        · rcases List.mem_append.mp hq with hq | hq
          · exact kids_live wl hl q hq
          · exact hrest q hq
        · rw [hlog] at hm ⊢
          show tal slots outs (s.log ++ [p.node]) (kids slots p.node (p.depth + 1) ++ rest) m = 0
          rw [tal_dead hlt hnl]
          rcases hsplit m hm with rfl | h
          · exact hzero
          · exact hz m h
        · rw [hlog] at hm
          rcases hsplit m hm with rfl | h
          · exact hl
          · exact o.lv m h
      · rw [if_neg hd] at e
        cases Option.some.inj e
        have hlog : FS.log ⟨rest, s.shelf ++ [p.node], s.evs ++ [.release p.holder p.slot p.node (tal slots outs s.log rest p.node), .shelve p.node (s.shelf.length + 1)]⟩ = s.log := by
          unfold FS.log
          rw [List.filterMap_append]
          exact List.append_nil _
        have hsplit : ∀ m, m ∈ s.log ++ (s.shelf ++ [p.node]) → m = p.node ∨ m ∈ s.log ++ s.shelf := by
          intro m hm
          simp only [List.mem_append, List.mem_singleton] at hm ⊢
          rcases hm with h | h | h
          · exact .inr (.inl h)
          · exact .inr (.inr h)
          · exact .inl h
        refine ⟨hrest, by rw [hlog]; exact (nodup_snoc o.nd hn).2, fun m hm => ?_, fun m hm => ?_⟩
        · rw [hlog] at hm ⊢
          rcases hsplit m hm with rfl | h
          · exact hzero
          · exact hz m h
        · rw [hlog] at hm
          rcases hsplit m hm with rfl | h
          · exact hl
          · exact o.lv m h
theorem SOk.steps {s s' : FS} (o : SOk slots outs s) (ho : ∀ z ∈ outs, 0 ≤ z) (wl : ∀ row, some row ∈ slots → ∀ k, some k ∈ row → ∃ r, slots[k]? = some (some r)) (h : Steps slots outs lim s s') : SOk slots outs s' := by
  obtain ⟨n, hn⟩ := h
  induction n generalizing s' with
  | zero => cases Option.some.inj (hn : some s = some s'); exact o
  | succ n ih =>
    have hn : (run slots outs lim n s).bind (stepF slots outs lim) = some s' := hn
    cases e : run slots outs lim n s with
    | none => rw [e] at hn; cases hn
    | some v => rw [e] at hn; exact (ih e).step ho wl hn
/-- what is left to do -/
def left (slots : List (Option Rw)) (log : List Nat) : Nat := ((List.range slots.length).map fun h => if h ∈ log then 0 else (rowOf slots h).length + 2).sum
theorem left_dead {log : List Nat} {n : Nat} (hn : n < slots.length) (hl : n ∉ log) : left slots (log ++ [n]) + ((rowOf slots n).length + 2) = left slots log := by
  have := sum_drop1 (f := fun h => if h ∈ log then 0 else (rowOf slots h).length + 2) (g := fun h => if h ∈ log ++ [n] then 0 else (rowOf slots h).length + 2) hn (by simp) (fun h e => by
    have : (h ∈ log ++ [n]) ↔ h ∈ log := by simp [e]
    simp only [this])
  simp only [if_neg hl] at this
  exact this
def FS.mu (slots : List (Option Rw)) (s : FS) : Nat := left slots s.log + s.pend.length
end

theorem step_mu {slots : List (Option Rw)} {outs : List Int} {lim : Int} {s s' : FS} (o : SOk slots outs s) (ho : ∀ z ∈ outs, 0 ≤ z) (e : stepF slots outs lim s = some s') : s'.mu slots < s.mu slots ∧ s'.evs.length ≤ s.evs.length + 2 := by
  cases hp : s.pend with
  | nil =>
    unfold stepF at e
    rw [hp] at e
    simp only at e
    cases hs : s.shelf.getLast? with
    | none => rw [hs] at e; cases e
    | some n =>
      rw [hs] at e
      cases Option.some.inj e
      have hsp : s.shelf = s.shelf.dropLast ++ [n] := by
        obtain ⟨ys, hy⟩ := List.getLast?_eq_some_iff.mp hs
        rw [hy, List.dropLast_concat]
      have hlog : FS.log ⟨kids slots n 1, s.shelf.dropLast, s.evs ++ [.take n s.shelf.dropLast.length, .destroy n 0]⟩ = s.log ++ [n] := by
        unfold FS.log
        rw [List.filterMap_append]
        rfl
      have hmem : n ∈ s.log ++ s.shelf := by rw [hsp]; simp
      obtain ⟨_, _, hlt⟩ := live_lt (o.lv n hmem)
      have hnd := o.nd
      rw [hsp] at hnd
      have hnl : n ∉ s.log := fun h => (List.nodup_append.mp hnd).2.2 n h n (by simp) rfl
      have h1 := left_dead (slots := slots) hlt hnl
      have h2 := kidsAt_len n 1 (rowOf slots n) 0
      unfold FS.mu
      rw [hlog, hp]
      refine ⟨?_, by simp⟩
      show left slots (s.log ++ [n]) + (kids slots n 1).length < left slots s.log + 0
      unfold kids
      omega
  | cons p rest =>
    have hn := o.new ho hp
    have hl := o.pl p (by rw [hp]; exact List.mem_cons_self)
    obtain ⟨_, _, hlt⟩ := live_lt hl
    unfold stepF at e
    rw [hp] at e
    simp only at e
    by_cases h0 : 0 < tal slots outs s.log rest p.node
    · rw [if_pos h0] at e
      cases Option.some.inj e
      have hlog : FS.log ⟨rest, s.shelf, s.evs ++ [.release p.holder p.slot p.node (tal slots outs s.log rest p.node)]⟩ = s.log := by
        unfold FS.log
        rw [List.filterMap_append]
        exact List.append_nil _
      unfold FS.mu
      rw [hlog, hp]
      exact ⟨by show _ + rest.length < _ + (rest.length + 1); omega, by simp⟩
    · rw [if_neg h0] at e
      by_cases hd : (p.depth : Int) < lim
      · rw [if_pos hd] at e
        cases Option.some.inj e
        have hlog : FS.log ⟨kids slots p.node (p.depth + 1) ++ rest, s.shelf, s.evs ++ [.release p.holder p.slot p.node (tal slots outs s.log rest p.node), .destroy p.node p.depth]⟩ = s.log ++ [p.node] := by
          unfold FS.log
          rw [List.filterMap_append]
          rfl
        have hnl : p.node ∉ s.log := fun h => hn (List.mem_append_left _ h)
        have h1 := left_dead (slots := slots) hlt hnl
        have h2 := kidsAt_len p.node (p.depth + 1) (rowOf slots p.node) 0
        unfold FS.mu
        rw [hlog, hp]
        refine ⟨?_, by simp⟩
        show left slots (s.log ++ [p.node]) + (kids slots p.node (p.depth + 1) ++ rest).length < left slots s.log + (rest.length + 1)
        rw [List.length_append]
        unfold kids
        omega
      · rw [if_neg hd] at e
        cases Option.some.inj e
        have hlog : FS.log ⟨rest, s.shelf ++ [p.node], s.evs ++ [.release p.holder p.slot p.node (tal slots outs s.log rest p.node), .shelve p.node (s.shelf.length + 1)]⟩ = s.log := by
          unfold FS.log
          rw [List.filterMap_append]
          exact List.append_nil _
        unfold FS.mu
        rw [hlog, hp]
        exact ⟨by show _ + rest.length < _ + (rest.length + 1); omega, by simp⟩
theorem big_line {n : Nat} (h : n ≤ 1000000) : n < sizeLine := by rw [sizeLine_eq]; omega
/-! ### tuples in a list -/
structure TupsAt (H : Hp) (ts : List Addr) (vss : List (List V)) : Prop where
  len : ts.length = vss.length
  at_ : ∀ (j : Nat) (vs : List V), vss[j]? = some vs → ∃ t, ts[j]? = some t ∧ H t = some (.tup vs)
theorem TupsAt.nil {H : Hp} : TupsAt H [] [] := ⟨rfl, fun j vs h => by simp at h⟩
theorem TupsAt.kx {S : List Addr} {H H' : Hp} {ts : List Addr} {vss : List (List V)} (h : TupsAt H ts vss) (k : Kx S H H') (l : ∀ b ∈ S, ∃ ys : List V, H b = some (.lst ys)) : TupsAt H' ts vss := by
  refine ⟨h.len, fun j vs hj => ?_⟩
  obtain ⟨t, e1, e2⟩ := h.at_ j vs hj
  exact ⟨t, e1, k t _ (fun z => by obtain ⟨ys, e⟩ := l t z; rw [e2] at e; cases e) e2⟩
theorem TupsAt.wr {H : Hp} {a : Addr} {ys : List V} {o : HO} {ts : List Addr} {vss : List (List V)} (h : TupsAt H ts vss) (l : H a = some (.lst ys)) : TupsAt (upd H a o) ts vss := by
  refine ⟨h.len, fun j vs hj => ?_⟩
  obtain ⟨t, e1, e2⟩ := h.at_ j vs hj
  exact ⟨t, e1, lk_ne2 (fun z => by rw [z, l] at e2; cases e2) e2⟩
theorem TupsAt.new {H : Hp} {a : Addr} {o : HO} {ts : List Addr} {vss : List (List V)} (h : TupsAt H ts vss) (n : H a = none) : TupsAt (upd H a o) ts vss := by
  refine ⟨h.len, fun j vs hj => ?_⟩
  obtain ⟨t, e1, e2⟩ := h.at_ j vs hj
  exact ⟨t, e1, lk_ne e2 n⟩
theorem TupsAt.snoc {H : Hp} {ts : List Addr} {vss : List (List V)} (h : TupsAt H ts vss) {t : Addr} {vs : List V} (e : H t = some (.tup vs)) : TupsAt H (ts ++ [t]) (vss ++ [vs]) := by
  refine ⟨by rw [List.length_append, List.length_append, h.len]; rfl, fun j us hj => ?_⟩
  by_cases hl : j < vss.length
  · rw [List.getElem?_append_left hl] at hj
    rw [List.getElem?_append_left (by rw [h.len]; exact hl)]
    exact h.at_ j us hj
  · rw [List.getElem?_append_right (by omega)] at hj
    rw [List.getElem?_append_right (by rw [h.len]; omega), h.len]
    cases e2 : j - vss.length with
    | zero =>
      rw [e2] at hj
      cases Option.some.inj (hj : some vs = some us)
      exact ⟨t, rfl, e⟩
    | succ k => rw [e2] at hj; cases hj
theorem TupsAt.last {H : Hp} {ts : List Addr} {vss : List (List V)} {vs : List V} (h : TupsAt H ts (vss ++ [vs])) : ∃ ts' t, ts = ts' ++ [t] ∧ H t = some (.tup vs) ∧ TupsAt H ts' vss := by
  have hl := h.len
  rw [List.length_append] at hl
  rcases List.eq_nil_or_concat ts with rfl | ⟨ts', t, e⟩
  · exact absurd hl (Nat.ne_of_lt (Nat.succ_pos _))
  · rw [List.concat_eq_append] at e
    subst e
    rw [List.length_append] at hl
    have hl2 : ts'.length = vss.length := by
      have : [t].length = [vs].length := rfl
      omega
    obtain ⟨t2, e1, e2⟩ := h.at_ vss.length vs (by rw [List.getElem?_append_right (Nat.le_refl _), Nat.sub_self]; rfl)
    rw [← hl2, List.getElem?_append_right (Nat.le_refl _), Nat.sub_self] at e1
    cases Option.some.inj (e1 : some t = some t2)
    refine ⟨ts', t, rfl, e2, hl2, fun j us hj => ?_⟩
    have hjl := (List.getElem?_eq_some_iff.mp hj).1
    obtain ⟨t3, f1, f2⟩ := h.at_ j us (by rw [List.getElem?_append_left hjl]; exact hj)
    rw [List.getElem?_append_left (by rw [hl2]; exact hjl)] at f1
    exact ⟨t3, f1, f2⟩
/-! ### the machine in the heap -/
def optV : Option Nat → V
  | none => .non
  | some n => .int n
def pdV (p : Pd) : List V := [optV p.holder, optV p.slot, .int p.node, .int p.depth]
def evV : Ev → List V
  | .release h s n l => [.str "release", optV h, optV s, .int n, .int l]
  | .destroy n d => [.str "destroy", .int n, .int d]
  | .shelve n k => [.str "shelve", .int n, .int k]
  | .take n k => [.str "take", .int n, .int k]
def mf (aS aO aR : Addr) (lim : Int) (aE aH aV : Addr) : List (Str × V) := [("slots", .ref aS), ("outside", .ref aO), ("references", .ref aR), ("limit", .int lim), ("emptied", .ref aE), ("shelf", .ref aH), ("events", .ref aV)]
section
variable (aS aO aR : Addr) (lim : Int) (aE aH aV : Addr)
theorem mf_slots : List.lookup ("slots" : Str) (mf aS aO aR lim aE aH aV) = some (V.ref aS) := by with_unfolding_all rfl
theorem mf_outside : List.lookup ("outside" : Str) (mf aS aO aR lim aE aH aV) = some (V.ref aO) := by with_unfolding_all rfl
theorem mf_references : List.lookup ("references" : Str) (mf aS aO aR lim aE aH aV) = some (V.ref aR) := by with_unfolding_all rfl
theorem mf_limit : List.lookup ("limit" : Str) (mf aS aO aR lim aE aH aV) = some (V.int lim) := by with_unfolding_all rfl
theorem mf_emptied : List.lookup ("emptied" : Str) (mf aS aO aR lim aE aH aV) = some (V.ref aE) := by with_unfolding_all rfl
theorem mf_shelf : List.lookup ("shelf" : Str) (mf aS aO aR lim aE aH aV) = some (V.ref aH) := by with_unfolding_all rfl
theorem mf_events : List.lookup ("events" : Str) (mf aS aO aR lim aE aH aV) = some (V.ref aV) := by with_unfolding_all rfl
theorem mf_release : List.lookup ("_release" : Str) (mf aS aO aR lim aE aH aV) = none := by with_unfolding_all rfl
theorem mf_release_all : List.lookup ("_release_all" : Str) (mf aS aO aR lim aE aH aV) = none := by with_unfolding_all rfl
theorem mf_destroy : List.lookup ("_destroy" : Str) (mf aS aO aR lim aE aH aV) = none := by with_unfolding_all rfl
theorem mf_drop : List.lookup ("drop" : Str) (mf aS aO aR lim aE aH aV) = none := by with_unfolding_all rfl
theorem mf_result : List.lookup ("result" : Str) (mf aS aO aR lim aE aH aV) = none := by with_unfolding_all rfl
end
/-- the class -/
structure ClR (K : PySem.W.Frag) (C : Addr) : Prop where
  cl : Cls K C
  n_slots : NoAttr K C "slots"
  n_outside : NoAttr K C "outside"
  n_references : NoAttr K C "references"
  n_limit : NoAttr K C "limit"
  n_emptied : NoAttr K C "emptied"
  n_shelf : NoAttr K C "shelf"
  n_events : NoAttr K C "events"
/-- its places: what never changes -/
structure MS (slots : List (Option Rw)) (C : Addr) (H1 : Hp) (p dx aS aO aR aE aH aV : Addr) (ra : Nat → Addr) (lim : Int) : Prop where
  ins : H1 p = some (.ins C dx (mf aS aO aR lim aE aH aV))
  rows : ∀ (i : Nat) (row : Rw), slots[i]? = some (some row) → H1 (ra i) = some (.lst (rowV row)) ∧ ra i ∉ [aS, aO, aR, aE, aH, aV]
  dis : [aS, aO, aR, aE, aH, aV].Nodup
  pW : p ∉ [aS, aO, aR, aE, aH, aV]
  inj : ∀ (i j : Nat) (r r' : Rw), slots[i]? = some (some r) → slots[j]? = some (some r') → ra i = ra j → i = j
def slotR (slots : List (Option Rw)) (ra : Nat → Addr) (log : List Nat) (i : Nat) : V := if isLive slots i = true ∧ i ∉ log then .ref (ra i) else .non
def refR (slots : List (Option Rw)) (tf : Nat → Int) (i : Nat) : V := if isLive slots i = true then .int (tf i) else .non
/-- what it holds -/
structure MD (slots : List (Option Rw)) (H1 H : Hp) (aS aO aR aE aH aV : Addr) (ra : Nat → Addr) (outs : List Int) (tf : Nat → Int) (log : List Nat) (pend : List Pd) (shelf : List Nat) (evs : List Ev) : Prop where
  k : Kx [aS, aO, aR, aE, aH, aV] H1 H
  eS : H aS = some (.lst ((List.range slots.length).map (slotR slots ra log)))
  eO : H aO = some (.lst (outs.map V.int))
  eR : H aR = some (.lst ((List.range slots.length).map (refR slots tf)))
  eE : ∃ ts : List Addr, H aE = some (.lst (ts.map V.ref)) ∧ TupsAt H ts (pend.reverse.map pdV)
  eH : H aH = some (.lst (shelf.map fun n : Nat => V.int n))
  eV : ∃ us : List Addr, H aV = some (.lst (us.map V.ref)) ∧ TupsAt H us (evs.map evV)
section
variable {slots : List (Option Rw)} {C : Addr} {H1 H : Hp} {p dx aS aO aR aE aH aV : Addr} {ra : Nat → Addr} {lim : Int} {outs : List Int} {tf : Nat → Int} {log : List Nat} {pend : List Pd} {shelf : List Nat} {evs : List Ev}
/-- the six lists are six -/
structure Six (aS aO aR aE aH aV : Addr) : Prop where
  so : aS ≠ aO
  sr : aS ≠ aR
  se : aS ≠ aE
  sh : aS ≠ aH
  sv : aS ≠ aV
  or_ : aO ≠ aR
  oe : aO ≠ aE
  oh : aO ≠ aH
  ov : aO ≠ aV
  re : aR ≠ aE
  rh : aR ≠ aH
  rv : aR ≠ aV
  eh : aE ≠ aH
  ev : aE ≠ aV
  hv : aH ≠ aV
theorem MS.six (ms : MS slots C H1 p dx aS aO aR aE aH aV ra lim) : Six aS aO aR aE aH aV := by
  have D := ms.dis
  simp only [List.nodup_cons, List.mem_cons, List.not_mem_nil, or_false, not_or, not_false_eq_true, List.nodup_nil, and_true] at D
  obtain ⟨⟨a1, a2, a3, a4, a5⟩, ⟨b1, b2, b3, b4⟩, ⟨c1, c2, c3⟩, ⟨d1, d2⟩, e1⟩ := D
  exact ⟨a1, a2, a3, a4, a5, b1, b2, b3, b4, c1, c2, c3, d1, d2, e1⟩
theorem MD.new (m : MD slots H1 H aS aO aR aE aH aV ra outs tf log pend shelf evs) {q : Addr} {o : HO} (n : H q = none) : MD slots H1 (upd H q o) aS aO aR aE aH aV ra outs tf log pend shelf evs := by
  obtain ⟨ts, h1, h2⟩ := m.eE
  obtain ⟨us, h3, h4⟩ := m.eV
  exact ⟨m.k.new n, lk_ne m.eS n, lk_ne m.eO n, lk_ne m.eR n, ⟨ts, lk_ne h1 n, h2.new n⟩, lk_ne m.eH n, ⟨us, lk_ne h3 n, h4.new n⟩⟩
theorem MD.keep (m : MD slots H1 H aS aO aR aE aH aV ra outs tf log pend shelf evs) {H' : Hp} (k : Kx [] H H') : MD slots H1 H' aS aO aR aE aH aV ra outs tf log pend shelf evs := by
  obtain ⟨ts, h1, h2⟩ := m.eE
  obtain ⟨us, h3, h4⟩ := m.eV
  exact ⟨m.k.trans (k.mono (by simp)), k _ _ (by simp) m.eS, k _ _ (by simp) m.eO, k _ _ (by simp) m.eR, ⟨ts, k _ _ (by simp) h1, h2.kx k (by simp)⟩, k _ _ (by simp) m.eH, ⟨us, k _ _ (by simp) h3, h4.kx k (by simp)⟩⟩
theorem MD.wV (m : MD slots H1 H aS aO aR aE aH aV ra outs tf log pend shelf evs) (x : Six aS aO aR aE aH aV) {us : List Addr} (h : H aV = some (.lst (us.map V.ref))) (tu : TupsAt H us (evs.map evV)) {t : Addr} {e : Ev} (ht : H t = some (.tup (evV e))) :
    MD slots H1 (upd H aV (.lst (us.map V.ref ++ [V.ref t]))) aS aO aR aE aH aV ra outs tf log pend shelf (evs ++ [e]) := by
  obtain ⟨ts, h1, h2⟩ := m.eE
  exact ⟨m.k.wr (.inr (by simp)), lk_ne2 x.sv m.eS, lk_ne2 x.ov m.eO, lk_ne2 x.rv m.eR, ⟨ts, lk_ne2 x.ev h1, h2.wr h⟩, lk_ne2 x.hv m.eH,
    ⟨us ++ [t], by rw [upd_same, List.map_append]; rfl, by rw [List.map_append]; exact (tu.wr h).snoc (lk_ne2 (fun z => by rw [z, h] at ht; cases ht) ht)⟩⟩
theorem MD.wE (m : MD slots H1 H aS aO aR aE aH aV ra outs tf log pend shelf evs) (x : Six aS aO aR aE aH aV) {ts : List Addr} (h : H aE = some (.lst (ts.map V.ref))) (tu : TupsAt H ts (pend.reverse.map pdV)) {t : Addr} {q : Pd} (ht : H t = some (.tup (pdV q))) :
    MD slots H1 (upd H aE (.lst (ts.map V.ref ++ [V.ref t]))) aS aO aR aE aH aV ra outs tf log (q :: pend) shelf evs := by
  obtain ⟨us, h1, h2⟩ := m.eV
  exact ⟨m.k.wr (.inr (by simp)), lk_ne2 x.se m.eS, lk_ne2 x.oe m.eO, lk_ne2 x.re m.eR, ⟨ts ++ [t], by rw [upd_same, List.map_append]; rfl, by rw [List.reverse_cons, List.map_append]; exact (tu.wr h).snoc (lk_ne2 (fun z => by rw [z, h] at ht; cases ht) ht)⟩, lk_ne2 x.eh.symm m.eH,
    ⟨us, lk_ne2 x.ev.symm h1, h2.wr h⟩⟩
/-- what the popping of emptied leaves -/
theorem MD.pE {q : Pd} (m : MD slots H1 H aS aO aR aE aH aV ra outs tf log (q :: pend) shelf evs) (x : Six aS aO aR aE aH aV) : ∃ (ts : List Addr) (t : Addr), H aE = some (.lst (ts.map V.ref ++ [V.ref t])) ∧ H t = some (.tup (pdV q)) ∧
    MD slots H1 (upd H aE (.lst (ts.map V.ref))) aS aO aR aE aH aV ra outs tf log pend shelf evs := by
  obtain ⟨us, h1, h2⟩ := m.eV
  obtain ⟨ts, h3, h4⟩ := m.eE
  rw [List.reverse_cons, List.map_append] at h4
  obtain ⟨ts', t, rfl, ht, h5⟩ := h4.last
  rw [List.map_append] at h3
  exact ⟨ts', t, h3, ht, m.k.wr (.inr (by simp)), lk_ne2 x.se m.eS, lk_ne2 x.oe m.eO, lk_ne2 x.re m.eR, ⟨ts', upd_same, h5.wr h3⟩, lk_ne2 x.eh.symm m.eH, ⟨us, lk_ne2 x.ev.symm h1, h2.wr h3⟩⟩
theorem MD.wH (m : MD slots H1 H aS aO aR aE aH aV ra outs tf log pend shelf evs) (x : Six aS aO aR aE aH aV) (shelf' : List Nat) : MD slots H1 (upd H aH (.lst (shelf'.map fun n : Nat => V.int n))) aS aO aR aE aH aV ra outs tf log pend shelf' evs := by
  obtain ⟨us, h1, h2⟩ := m.eV
  obtain ⟨ts, h3, h4⟩ := m.eE
  exact ⟨m.k.wr (.inr (by simp)), lk_ne2 x.sh m.eS, lk_ne2 x.oh m.eO, lk_ne2 x.rh m.eR, ⟨ts, lk_ne2 x.eh h3, h4.wr m.eH⟩, upd_same, ⟨us, lk_ne2 x.hv.symm h1, h2.wr m.eH⟩⟩
theorem MD.wO (m : MD slots H1 H aS aO aR aE aH aV ra outs tf log pend shelf evs) (x : Six aS aO aR aE aH aV) (outs' : List Int) : MD slots H1 (upd H aO (.lst (outs'.map V.int))) aS aO aR aE aH aV ra outs' tf log pend shelf evs := by
  obtain ⟨us, h1, h2⟩ := m.eV
  obtain ⟨ts, h3, h4⟩ := m.eE
  exact ⟨m.k.wr (.inr (by simp)), lk_ne2 x.so m.eS, upd_same, lk_ne2 x.or_.symm m.eR, ⟨ts, lk_ne2 x.oe.symm h3, h4.wr m.eO⟩, lk_ne2 x.oh.symm m.eH, ⟨us, lk_ne2 x.ov.symm h1, h2.wr m.eO⟩⟩
theorem MD.wR (m : MD slots H1 H aS aO aR aE aH aV ra outs tf log pend shelf evs) (x : Six aS aO aR aE aH aV) (tf' : Nat → Int) : MD slots H1 (upd H aR (.lst ((List.range slots.length).map (refR slots tf')))) aS aO aR aE aH aV ra outs tf' log pend shelf evs := by
  obtain ⟨us, h1, h2⟩ := m.eV
  obtain ⟨ts, h3, h4⟩ := m.eE
  exact ⟨m.k.wr (.inr (by simp)), lk_ne2 x.sr m.eS, lk_ne2 x.or_ m.eO, upd_same, ⟨ts, lk_ne2 x.re.symm h3, h4.wr m.eR⟩, lk_ne2 x.rh.symm m.eH, ⟨us, lk_ne2 x.rv.symm h1, h2.wr m.eR⟩⟩
theorem MD.wS (m : MD slots H1 H aS aO aR aE aH aV ra outs tf log pend shelf evs) (x : Six aS aO aR aE aH aV) (log' : List Nat) : MD slots H1 (upd H aS (.lst ((List.range slots.length).map (slotR slots ra log')))) aS aO aR aE aH aV ra outs tf log' pend shelf evs := by
  obtain ⟨us, h1, h2⟩ := m.eV
  obtain ⟨ts, h3, h4⟩ := m.eE
  exact ⟨m.k.wr (.inr (by simp)), upd_same, lk_ne2 x.so.symm m.eO, lk_ne2 x.sr.symm m.eR, ⟨ts, lk_ne2 x.se.symm h3, h4.wr m.eS⟩, lk_ne2 x.sh.symm m.eH, ⟨us, lk_ne2 x.sv.symm h1, h2.wr m.eS⟩⟩
end
/-- one place of a list of values by number -/
theorem range_set {N n : Nat} {f : Nat → V} {v : V} (hn : n < N) {g : Nat → V} (hg : g n = v) (he : ∀ i, i ≠ n → g i = f i) : ((List.range N).map f).set n v = (List.range N).map g := by
  refine List.ext_getElem? fun i => ?_
  by_cases e : n = i
  · subst e
    rw [List.getElem?_set_self (by rw [List.length_map, List.length_range]; exact hn), List.getElem?_map, List.getElem?_range hn]
    exact congrArg some hg.symm
  · rw [List.getElem?_set_ne e, List.getElem?_map, List.getElem?_map]
    by_cases hi : i < N
    · rw [List.getElem?_range hi]
      exact congrArg some (he i (Ne.symm e)).symm
    · rw [List.getElem?_eq_none (by rw [List.length_range]; omega)]
      rfl
theorem range_at {N n : Nat} {f : Nat → V} (hn : n < N) : atI ((List.range N).map f) (n : Int) = some (f n) := atI_nat (by rw [List.getElem?_map, List.getElem?_range hn]; rfl)
theorem range_ix {N n : Nat} {f : Nat → V} (hn : n < N) : ixN ((List.range N).map f).length (n : Int) = some n := ix_nat (by rw [List.length_map, List.length_range]; exact hn)

local macro_rules | `(tactic| walk_at "na") => `(tactic| first | exact ClR.n_slots (by assumption) | exact ClR.n_outside (by assumption) | exact ClR.n_references (by assumption) | exact ClR.n_limit (by assumption) | exact ClR.n_emptied (by assumption) | exact ClR.n_shelf (by assumption) | exact ClR.n_events (by assumption))
local macro_rules | `(tactic| walk_at "fl") => `(tactic| first | exact mf_slots .. | exact mf_outside .. | exact mf_references .. | exact mf_limit .. | exact mf_emptied .. | exact mf_shelf .. | exact mf_events ..)
local macro_rules | `(tactic| walk_at "ml") => `(tactic| first | exact mf_release .. | exact mf_release_all .. | exact mf_destroy .. | exact mf_drop .. | exact mf_result ..)
local macro_rules | `(tactic| walk_at "rd") => `(tactic| ((with_reducible refine' x_fld  ?_)))
local macro_rules | `(tactic| walk_at "rd") => `(tactic| ((with_reducible refine' x_meth  ?_)))
local macro_rules | `(tactic| walk_at "rd") => `(tactic| ((with_reducible refine' x_ckw  ?_)))
local macro_rules | `(tactic| walk_at "rd") => `(tactic| ((with_reducible refine' x_iR3  ?_)))
local macro_rules | `(tactic| walk_at "rd") => `(tactic| ((with_reducible refine' x_make  ?_)))
local macro_rules | `(tactic| walk_at "rd") => `(tactic| ((with_reducible refine' x_par3  ?_); try simp only [List.set_cons_zero, List.set_cons_succ]))
local macro_rules | `(tactic| walk_at "rd") => `(tactic| ((with_reducible refine' x_three  ?_); try simp only [List.set_cons_zero, List.set_cons_succ]))
local macro_rules | `(tactic| walk_at "rd") => `(tactic| ((with_reducible refine' x_orT  ?_)))
local macro_rules | `(tactic| walk_at "rd") => `(tactic| ((with_reducible refine' x_truN  ?_)))
local macro_rules | `(tactic| walk_at "rd") => `(tactic| ((with_reducible refine' x_truT ?s0 ?_); (case s0 => walk_at "lkT")))
local macro_rules | `(tactic| walk_at "rd") => `(tactic| ((with_reducible refine' x_glst ?s0 ?s1 ?_); (case s0 => walk_at "lkL"); (case s1 => exact rfl)))
local macro_rules | `(tactic| walk_at "rd") => `(tactic| ((with_reducible refine' x_chain  ?_)))
local macro_rules | `(tactic| walk_at "rd") => `(tactic| ((with_reducible refine' x_isiII  ?_)))
local macro_rules | `(tactic| walk_at "rd") => `(tactic| ((with_reducible refine' x_isiIB  ?_)))
local macro_rules | `(tactic| walk_at "rd") => `(tactic| ((with_reducible refine' x_insF ?s0 ?s1 ?s2 ?s3 ?_); (case s0 => walk_at "lk"); (case s1 => exact ClR.cl (by assumption)); (case s2 => walk_at "na"); (case s3 => walk_at "fl")))
local macro_rules | `(tactic| walk_at "rd") => `(tactic| ((with_reducible refine' x_insM ?s0 ?s1 ?_); (case s0 => walk_at "lk"); (case s1 => walk_at "ml")))

section
variable {P : Program} {w : World} {K : PySem.W.Frag} {mg : Str → Option Value} {base : Heap}

/-- _destroy -/
def spDestroy (K : PySem.W.Frag) (C : Addr) : Sp := fun vs H Q _ => ∃ (slots : List (Option Rw)) (H1 : Hp) (p dx aS aO aR aE aH aV : Addr) (ra : Nat → Addr) (lim : Int) (outs : List Int) (tf : Nat → Int) (log : List Nat) (pend : List Pd) (shelf : List Nat) (evs : List Ev) (n d : Nat),
  vs = [.ref p, .int n, .int d] ∧ MS slots C H1 p dx aS aO aR aE aH aV ra lim ∧ MD slots H1 H aS aO aR aE aH aV ra outs tf log pend shelf evs ∧ ClR K C ∧ isLive slots n = true ∧ n ∉ log ∧ pend.length ≤ 100000 ∧ evs.length ≤ 100000 ∧ (rowOf slots n).length ≤ 100000 ∧
  ∀ H', MD slots H1 H' aS aO aR aE aH aV ra outs tf (log ++ [n]) (kids slots n (d + 1) ++ pend) shelf (evs ++ [.destroy n d]) → Q .non H'
theorem ok_destroy {C : Addr} {f : Addr} {fd : FuncData} (F : Fun K "_destroy" "Releasing._destroy" sReleasingDestroy f fd) (T : Txt mg) : FnOk P w K mg base CX0 1 f fd ["self", "node", "depth"] (spDestroy K C) := by
  refine F.ok scReleasingDestroy (fun vs H Q E h => ?_) (fun cdv A outer s H vs Q E hr h => ?_)
  · obtain ⟨slots, H1, p, dx, aS, aO, aR, aE, aH, aV, ra, lim, outs, tf, log, pend, shelf, evs, n, d, rfl, _⟩ := h
    rfl
  · obtain ⟨slots, H1, p, dx, aS, aO, aR, aE, aH, aV, ra, lim, outs, tf, log, pend, shelf, evs, n, d, rfl, ms, md, hC, hl, hn, hp1, hp2, hp3, k⟩ := h
    refine ⟨_, (pss_cons (ps_expr (pe_bm PySem.F.plainAttrs_list PySem.F.slot_list_append PySem.F.type_list_append mt_append (pe_fld (pv 0) rfl) (pa_cons (pe_tup (pa_cons pe_str (pa_cons (pv 1) (pa_cons (pv 2) pa_nil)))) pa_nil)))
      (pss_cons (ps_set (i := 3) scReleasingDestroy.nd rfl (Or.inl rfl) (pe_ix ix_list (pe_fld (pv 0) rfl) (pv 1) (fun _ _ => rfl)))
      (pss_cons (ps_asg pe_non (pg_sub (pe_fld (pv 0) rfl) (pv 1) set_list))
      (pss_one (ps_for PassesOwn.never rfl (pi_range3 (by rfl) T.b_range (pa_cons (pe_op op_sub (pe_callB call_len_seq (by rfl) T.b_len boot'_len (pa_cons (pv 3) pa_nil)) pe_int) (pa_cons (pe_un un_neg pe_int) (pa_cons (pe_un un_neg pe_int) pa_nil)))) (pg_name (i := 4) scReleasingDestroy.nd rfl (Or.inl rfl))
      (pss_one (ps_if (pt_cmpR op_notN1 (pe_ix ix_list (pv 3) (pv 4) (fun _ _ => rfl)) pe_non (nomark _)) (pss_one (ps_expr (pe_bm PySem.F.plainAttrs_list PySem.F.slot_list_append PySem.F.type_list_append mt_append (pe_fld (pv 0) rfl) (pa_cons (pe_tup (pa_cons (pv 1) (pa_cons (pv 4) (pa_cons (pe_ix ix_list (pv 3) (pv 4) (fun _ _ => rfl)) (pa_cons (pe_op op_add (pv 2) pe_int) pa_nil))))) pa_nil)))) pss_nil))))))), ?_⟩
    refine x_start (σ' := [some (.ref p), some (.int n), some (.int d), none, none]) rfl ?_
    dsimp only [cxOf]
    have hins := md.k _ _ ms.pW ms.ins
    obtain ⟨us, eV, tV⟩ := md.eV
    repeat walk_at "rd"
    refine ⟨ty_list (SqL.of eV), ?_⟩
    have six := ms.six
    have hz0 : (us.map V.ref).length < sizeLine := big_line (by rw [List.length_map, tV.len, List.length_map]; omega)
    repeat walk_at "rd"
    rename_i t nt
    have md1 := (md.new (o := .tup (evV (.destroy n d))) nt).wV six (lk_ne eV nt) (tV.new nt) (t := t) (e := .destroy n d) upd_same
    replace md1 : MD slots H1 (upd (upd H t (.tup [.str "destroy", .int n, .int d])) aV (.lst (us.map V.ref ++ [V.ref t]))) aS aO aR aE aH aV ra outs tf log pend shelf (evs ++ [.destroy n d]) := md1
    generalize (upd (upd H t (.tup [.str "destroy", .int n, .int d])) aV (.lst (us.map V.ref ++ [V.ref t]))) = H2 at *
    have hins2 := md1.k _ _ ms.pW ms.ins
    have eS2 := md1.eS
    obtain ⟨row, er, hlt⟩ := live_lt hl
    obtain ⟨hr1, hrW⟩ := ms.rows n row er
    have hrow2 : H2 (ra n) = some (.lst (rowV row)) := md1.k _ _ hrW hr1
    have at1 : atI ((List.range slots.length).map (slotR slots ra log)) (n : Int) = some (.ref (ra n)) := by
      rw [range_at hlt]
      unfold slotR
      rw [if_pos ⟨hl, hn⟩]
    have ix1 := range_ix (f := slotR slots ra log) hlt
    repeat walk_at "rd"
    have md2 := md1.wS six (log ++ [n])
    rw [← range_set (v := V.non) hlt (f := slotR slots ra log) (by unfold slotR; rw [if_neg (by simp)]) (fun i hi => by unfold slotR; simp [hi])] at md2
    generalize upd H2 aS (.lst (((List.range slots.length).map (slotR slots ra log)).set n V.non)) = H3 at *
    have hrow3 : H3 (ra n) = some (.lst (rowV row)) := md2.k _ _ hrW hr1
    have hlen : (rowV row).length = row.length := by unfold rowV; exact List.length_map _
    rw [rowOf_some er] at hp3
    repeat walk_at "rd"
    rw [hlen]
    refine y_forDown (by omega) (by omega) ⟨fun i σ H4 => ∃ (y4 : Option V), σ = [some (.ref p), some (.int n), some (.int d), some (.ref (ra n)), y4] ∧
      MD slots H1 H4 aS aO aR aE aH aV ra outs tf (log ++ [n]) (kidsAt n (d + 1) (row.length - i) (row.drop (row.length - i)) ++ pend) shelf (evs ++ [.destroy n d]),
      ⟨none, rfl, by rw [Nat.sub_zero, List.drop_length]; exact md2⟩, fun _ _ _ _ _ => trivial, ?_, ?_⟩
    · rintro i x σ H4 H4' hi ⟨y4, rfl, md4⟩ ⟨rfl, hx⟩
      have hi2 : i < row.length := by omega
      obtain ⟨j, hj⟩ : ∃ j : Nat, j = row.length - (i + 1) := ⟨_, rfl⟩
      have hjl : j < row.length := by omega
      replace hx : x = V.int ((row.length : Int) - 1 + (i : Int) * (-1)) := hx
      obtain rfl : x = V.int (j : Int) := by rw [hx]; congr 1; omega
      have hdrop : row.drop j = row[j] :: row.drop (j + 1) := List.drop_eq_getElem_cons hjl
      rw [show row.length - i = j + 1 by omega] at md4
      have hrow4 : H4' (ra n) = some (.lst (rowV row)) := md4.k _ _ hrW hr1
      have hins4 := md4.k _ _ ms.pW ms.ins
      obtain ⟨ts, eE, tE⟩ := md4.eE
      have hatj : atI (rowV row) (j : Int) = some (slotV row[j]) := atI_nat (by unfold rowV; rw [List.getElem?_map, List.getElem?_eq_getElem hjl]; rfl)
      have hz1 : (ts.map V.ref).length < sizeLine := big_line (by
        have := kidsAt_len n (d + 1) (row.drop (j + 1)) (j + 1)
        rw [List.length_drop] at this
        rw [List.length_map, tE.len, List.length_map, List.length_reverse, List.length_append]
        omega)
      cases hc : row[j] with
      | none =>
        rw [hc] at hatj hdrop
        replace hatj : atI (rowV row) (j : Int) = some V.non := hatj
        repeat walk_at "rd"
        refine iteF ?_
        repeat walk_at "rd"
        exact ⟨_, rfl, by rw [← hj, hdrop]; exact md4⟩
      | some m =>
        rw [hc] at hatj hdrop
        replace hatj : atI (rowV row) (j : Int) = some (V.int (m : Int)) := hatj
        repeat walk_at "rd"
        refine iteT ?_
        repeat walk_at "rd"
        refine ⟨ty_list (SqL.of eE), ?_⟩
        repeat walk_at "rd"
        rename_i t2 nt2
        refine ⟨_, rfl, ?_⟩
        rw [← hj, hdrop]
        exact (md4.new (o := .tup (pdV ⟨some n, some j, m, d + 1⟩)) nt2).wE six (lk_ne eE nt2) (tE.new nt2) (t := t2) (q := ⟨some n, some j, m, d + 1⟩) upd_same
    · rintro σ H4 ⟨y4, rfl, md4⟩
      rw [show row.length - ((row.length : Int) - 1 + 1).toNat = 0 by omega, List.drop_zero] at md4
      refine k H4 ?_
      unfold kids
      rw [rowOf_some er]
      exact md4
end


section
variable {P : Program} {w : World} {K : PySem.W.Frag} {mg : Str → Option Value} {base : Heap}

theorem tal_pop_self (slots : List (Option Rw)) (outs : List Int) (log : List Nat) (q : Pd) (rest : List Pd) : tal slots outs log (q :: rest) q.node - 1 = tal slots outs log rest q.node := by
  rw [tal_pop, if_pos rfl]
  omega
theorem tal_pop_other (slots : List (Option Rw)) (outs : List Int) (log : List Nat) (q : Pd) (rest : List Pd) {m : Nat} (h : m ≠ q.node) : tal slots outs log rest m = tal slots outs log (q :: rest) m := by
  rw [tal_pop, if_neg (Ne.symm h)]
  omega
/-- the facts that a walk of the machine takes along -/
structure Wk (slots : List (Option Rw)) (outs : List Int) (s : FS) : Prop where
  ok : SOk slots outs s
  ho : ∀ z ∈ outs, 0 ≤ z
  wl : ∀ row, some row ∈ slots → ∀ k, some k ∈ row → ∃ r, slots[k]? = some (some r)
  rl : ∀ row, some row ∈ slots → row.length ≤ 40
  most : slots.length ≤ 40
  sz : s.evs.length + 2 * s.mu slots ≤ 90000
theorem Wk.step {slots : List (Option Rw)} {outs : List Int} {lim : Int} {s s' : FS} (k : Wk slots outs s) (e : stepF slots outs lim s = some s') : Wk slots outs s' := by
  have h := step_mu k.ok k.ho e
  have := k.sz
  exact ⟨k.ok.step k.ho k.wl e, k.ho, k.wl, k.rl, k.most, by omega⟩
theorem Wk.shelf {slots : List (Option Rw)} {outs : List Int} {s : FS} (k : Wk slots outs s) : s.shelf.length ≤ slots.length := by
  have hn := (List.nodup_append.mp k.ok.nd).2.1
  have := hn.length_le_of_subset (l₂ := List.range slots.length) fun n hn => List.mem_range.mpr (live_lt (k.ok.lv n (List.mem_append_right _ hn))).choose_spec.2
  rwa [List.length_range] at this
theorem Wk.row {slots : List (Option Rw)} {outs : List Int} {s : FS} (k : Wk slots outs s) (n : Nat) : (rowOf slots n).length ≤ 40 := by
  unfold rowOf
  cases e : slots[n]? with
  | none => simp
  | some o =>
    cases o with
    | none => simp
    | some row => exact k.rl row (List.mem_of_getElem? e)
def spRelease (K : PySem.W.Frag) (C : Addr) : Sp := fun vs H Q _ => ∃ (slots : List (Option Rw)) (H1 : Hp) (p dx aS aO aR aE aH aV : Addr) (ra : Nat → Addr) (lim : Int) (outs : List Int) (s : FS) (q : Pd) (rest : List Pd),
  vs = [.ref p, optV q.holder, optV q.slot, .int q.node, .int q.depth] ∧ MS slots C H1 p dx aS aO aR aE aH aV ra lim ∧ s.pend = q :: rest ∧ MD slots H1 H aS aO aR aE aH aV ra outs (tal slots outs s.log s.pend) s.log rest s.shelf s.evs ∧ ClR K C ∧ Wk slots outs s ∧
  ∀ s' H', stepF slots outs lim s = some s' → MD slots H1 H' aS aO aR aE aH aV ra outs (tal slots outs s'.log s'.pend) s'.log s'.pend s'.shelf s'.evs → Q .non H'
theorem ok_release {C : Addr} {f : Addr} {fd : FuncData} (F : Fun K "_release" "Releasing._release" sReleasingRelease f fd) (T : Txt mg) (m_destroy : Lm P w K mg base C "_destroy" 1 ["self", "node", "depth"] (spDestroy K C)) (cR : Cls K C) :
    FnOk P w K mg base CX0 2 f fd ["self", "holder", "slot", "node", "depth"] (spRelease K C) := by
  refine F.ok scReleasingRelease (fun vs H Q E h => ?_) (fun cdv A outer s H vs Q E hr h => ?_)
  · obtain ⟨slots, H1, p, dx, aS, aO, aR, aE, aH, aV, ra, lim, outs, s, q, rest, rfl, _⟩ := h
    rfl
  · obtain ⟨slots, H1, p, dx, aS, aO, aR, aE, aH, aV, ra, lim, outs, st, q, rest, rfl, ms, hp, md, hC, wk, k⟩ := h
    refine ⟨_, (pss_cons (ps_augS (pe_fld (pv 0) rfl) (pv 3) get_list pe_int ip_sub set_list)
      (pss_cons (ps_set (i := 5) scReleasingRelease.nd rfl (Or.inl rfl) (pe_ix ix_list (pe_fld (pv 0) rfl) (pv 3) (fun _ _ => rfl)))
      (pss_cons (ps_expr (pe_bm PySem.F.plainAttrs_list PySem.F.slot_list_append PySem.F.type_list_append mt_append (pe_fld (pv 0) rfl) (pa_cons (pe_tup (pa_cons pe_str (pa_cons (pv 1) (pa_cons (pv 2) (pa_cons (pv 3) (pa_cons (pv 5) pa_nil)))))) pa_nil)))
      (pss_cons (ps_if (pt_cmpR op_gt (pv 5) pe_int (nomark _)) (pss_one ps_retN) pss_nil)
      (pss_one (ps_if (pt_cmpR op_lt (pv 4) (pe_fld (pv 0) rfl) (nomark _)) (pss_one (ps_expr (pe_lm m_destroy cR (hr.mono (by decide)) (pv 0) (pa_cons (pv 3) (pa_cons (pv 4) pa_nil))))) (pss_cons (ps_expr (pe_bm PySem.F.plainAttrs_list PySem.F.slot_list_append PySem.F.type_list_append mt_append (pe_fld (pv 0) rfl) (pa_cons (pv 3) pa_nil)))
      (pss_one (ps_expr (pe_bm PySem.F.plainAttrs_list PySem.F.slot_list_append PySem.F.type_list_append mt_append (pe_fld (pv 0) rfl) (pa_cons (pe_tup (pa_cons pe_str (pa_cons (pv 3) (pa_cons (pe_callB call_len_seq (by rfl) T.b_len boot'_len (pa_cons (pe_fld (pv 0) rfl) pa_nil)) pa_nil)))) pa_nil))))))))))), ?_⟩
    refine x_start (σ' := [some (.ref p), some (optV q.holder), some (optV q.slot), some (.int q.node), some (.int q.depth), none]) rfl ?_
    dsimp only [cxOf]
    have six := ms.six
    have hl := wk.ok.pl q (by rw [hp]; exact List.mem_cons_self)
    have hnew := wk.ok.new wk.ho hp
    obtain ⟨row, er, hlt⟩ := live_lt hl
    have hins := md.k _ _ ms.pW ms.ins
    have eR := md.eR
    have at1 : atI ((List.range slots.length).map (refR slots (tal slots outs st.log st.pend))) (q.node : Int) = some (.int (tal slots outs st.log st.pend q.node)) := by
      rw [range_at hlt]
      unfold refR
      rw [if_pos hl]
    have ix1 := range_ix (f := refR slots (tal slots outs st.log st.pend)) hlt
    have hset : ((List.range slots.length).map (refR slots (tal slots outs st.log st.pend))).set q.node (V.int (tal slots outs st.log st.pend q.node - 1)) = (List.range slots.length).map (refR slots (tal slots outs st.log rest)) :=
      range_set hlt (by unfold refR; rw [if_pos hl, hp, tal_pop_self]) (fun i hi => by unfold refR; rw [hp, tal_pop_other _ _ _ _ _ hi])
    repeat walk_at "rd"
    rw [hset]
    have md1 := md.wR six (tal slots outs st.log rest)
    have eR2 := md1.eR
    generalize upd H aR (.lst ((List.range slots.length).map (refR slots (tal slots outs st.log rest)))) = H2 at *
    have hins2 := md1.k _ _ ms.pW ms.ins
    have at2 : atI ((List.range slots.length).map (refR slots (tal slots outs st.log rest))) (q.node : Int) = some (.int (tal slots outs st.log rest q.node)) := by
      rw [range_at hlt]
      unfold refR
      rw [if_pos hl]
    obtain ⟨us, eV, tV⟩ := md1.eV
    have hsz := wk.sz
    have hz1 : (us.map V.ref).length < sizeLine := big_line (by rw [List.length_map, tV.len, List.length_map]; omega)
    repeat walk_at "rd"
    refine ⟨ty_list (SqL.of eV), ?_⟩
    repeat walk_at "rd"
    rename_i t nt
    have md2 := (md1.new (o := .tup (evV (.release q.holder q.slot q.node (tal slots outs st.log rest q.node)))) nt).wV six (lk_ne eV nt) (tV.new nt) (t := t) (e := .release q.holder q.slot q.node (tal slots outs st.log rest q.node)) upd_same
    replace md2 : MD slots H1 (upd (upd H2 t (.tup [.str "release", optV q.holder, optV q.slot, .int q.node, .int (tal slots outs st.log rest q.node)])) aV (.lst (us.map V.ref ++ [V.ref t]))) aS aO aR aE aH aV ra outs (tal slots outs st.log rest) st.log rest st.shelf (st.evs ++ [.release q.holder q.slot q.node (tal slots outs st.log rest q.node)]) := md2
    generalize (upd (upd H2 t (.tup [.str "release", optV q.holder, optV q.slot, .int q.node, .int (tal slots outs st.log rest q.node)])) aV (.lst (us.map V.ref ++ [V.ref t]))) = H3 at *
    by_cases h0 : 0 < tal slots outs st.log rest q.node
    · have hstep : stepF slots outs lim st = some ⟨rest, st.shelf, st.evs ++ [.release q.holder q.slot q.node (tal slots outs st.log rest q.node)]⟩ := by
        unfold stepF
        rw [hp]
        simp only
        rw [if_pos h0]
      have hlog : FS.log ⟨rest, st.shelf, st.evs ++ [.release q.holder q.slot q.node (tal slots outs st.log rest q.node)]⟩ = st.log := by
        unfold FS.log
        rw [List.filterMap_append]
        exact List.append_nil _
      refine iteP (decide_eq_true h0) ?_
      repeat walk_at "rd"
      refine k _ H3 hstep ?_
      rw [hlog]
      exact md2
    · refine iteN (decide_eq_false h0) ?_
      have hins3 := md2.k _ _ ms.pW ms.ins
      repeat walk_at "rd"
      by_cases hd : (q.depth : Int) < lim
      · have hstep : stepF slots outs lim st = some ⟨kids slots q.node (q.depth + 1) ++ rest, st.shelf, st.evs ++ [.release q.holder q.slot q.node (tal slots outs st.log rest q.node), .destroy q.node q.depth]⟩ := by
          unfold stepF
          rw [hp]
          simp only
          rw [if_neg h0, if_pos hd]
        have hlog : FS.log ⟨kids slots q.node (q.depth + 1) ++ rest, st.shelf, st.evs ++ [.release q.holder q.slot q.node (tal slots outs st.log rest q.node), .destroy q.node q.depth]⟩ = st.log ++ [q.node] := by
          unfold FS.log
          rw [List.filterMap_append]
          rfl
        have hnl : q.node ∉ st.log := fun h => hnew (List.mem_append_left _ h)
        refine iteP (decide_eq_true hd) ?_
        repeat walk_at "rd"
        have hrl := wk.row q.node
        have hmu : st.mu slots = left slots st.log + (rest.length + 1) := by unfold FS.mu; rw [hp]; rfl
        refine ⟨slots, H1, p, dx, aS, aO, aR, aE, aH, aV, ra, lim, outs, _, st.log, rest, st.shelf, _, q.node, q.depth, rfl, ms, md2, hC, hl, hnl, by omega, by rw [List.length_append]; show st.evs.length + 1 ≤ 100000; omega, by omega, fun H4 md4 => ?_⟩
        repeat walk_at "rd"
        refine k _ H4 hstep ?_
        rw [hlog]
        show MD slots H1 H4 aS aO aR aE aH aV ra outs (tal slots outs (st.log ++ [q.node]) (kids slots q.node (q.depth + 1) ++ rest)) (st.log ++ [q.node]) (kids slots q.node (q.depth + 1) ++ rest) st.shelf _
        rw [show tal slots outs (st.log ++ [q.node]) (kids slots q.node (q.depth + 1) ++ rest) = tal slots outs st.log rest from funext fun m => tal_dead hlt hnl _ _ m]
        rw [List.append_assoc] at md4
        exact md4
      · have hstep : stepF slots outs lim st = some ⟨rest, st.shelf ++ [q.node], st.evs ++ [.release q.holder q.slot q.node (tal slots outs st.log rest q.node), .shelve q.node (st.shelf.length + 1)]⟩ := by
          unfold stepF
          rw [hp]
          simp only
          rw [if_neg h0, if_neg hd]
        have hlog : FS.log ⟨rest, st.shelf ++ [q.node], st.evs ++ [.release q.holder q.slot q.node (tal slots outs st.log rest q.node), .shelve q.node (st.shelf.length + 1)]⟩ = st.log := by
          unfold FS.log
          rw [List.filterMap_append]
          exact List.append_nil _
        refine iteN (decide_eq_false hd) ?_
        have eH3 := md2.eH
        have hsl := wk.shelf
        have hm40 := wk.most
        have hz2 : (st.shelf.map fun n : Nat => V.int n).length < sizeLine := big_line (by rw [List.length_map]; omega)
        repeat walk_at "rd"
        refine ⟨ty_list (SqL.of eH3), ?_⟩
        repeat walk_at "rd"
        have md3 := md2.wH six (st.shelf ++ [q.node])
        rw [List.map_append] at md3
        replace md3 : MD slots H1 (upd H3 aH (.lst ((st.shelf.map fun n : Nat => V.int n) ++ [V.int q.node]))) aS aO aR aE aH aV ra outs (tal slots outs st.log rest) st.log rest (st.shelf ++ [q.node]) (st.evs ++ [.release q.holder q.slot q.node (tal slots outs st.log rest q.node)]) := md3
        generalize upd H3 aH (.lst ((st.shelf.map fun n : Nat => V.int n) ++ [V.int q.node])) = H4 at *
        have hins4 := md3.k _ _ ms.pW ms.ins
        have eH4 := md3.eH
        obtain ⟨us4, eV4, tV4⟩ := md3.eV
        have hz3 : (us4.map V.ref).length < sizeLine := big_line (by rw [List.length_map, tV4.len, List.length_map, List.length_append]; show st.evs.length + 1 ≤ 1000000; omega)
        repeat walk_at "rd"
        refine ⟨ty_list (SqL.of eV4), ?_⟩
        repeat walk_at "rd"
        rename_i t4 nt4
        refine k _ _ hstep ?_
        rw [hlog]
        have hls : V.int ((((st.shelf ++ [q.node]).map fun n : Nat => V.int n)).length : Int) = V.int ((st.shelf.length + 1 : Nat) : Int) := by rw [List.length_map, List.length_append]; rfl
        rw [hls]
        have md4 := (md3.new (o := .tup (evV (.shelve q.node (st.shelf.length + 1)))) nt4).wV six (lk_ne eV4 nt4) (tV4.new nt4) (t := t4) (e := .shelve q.node (st.shelf.length + 1)) upd_same
        rw [List.append_assoc] at md4
        exact md4
def spReleaseAll (K : PySem.W.Frag) (C : Addr) : Sp := fun vs H Q _ => ∃ (slots : List (Option Rw)) (H1 : Hp) (p dx aS aO aR aE aH aV : Addr) (ra : Nat → Addr) (lim : Int) (outs : List Int) (s : FS),
  vs = [.ref p] ∧ MS slots C H1 p dx aS aO aR aE aH aV ra lim ∧ MD slots H1 H aS aO aR aE aH aV ra outs (tal slots outs s.log s.pend) s.log s.pend s.shelf s.evs ∧ ClR K C ∧ Wk slots outs s ∧
  ∀ s' H', Steps slots outs lim s s' → s'.pend = [] → Wk slots outs s' → s'.mu slots ≤ s.mu slots → MD slots H1 H' aS aO aR aE aH aV ra outs (tal slots outs s'.log s'.pend) s'.log s'.pend s'.shelf s'.evs → Q .non H'
theorem ok_releaseAll {C : Addr} {f : Addr} {fd : FuncData} (F : Fun K "_release_all" "Releasing._release_all" sReleasingReleaseAll f fd) (T : Txt mg) (m_release : Lm P w K mg base C "_release" 2 ["self", "holder", "slot", "node", "depth"] (spRelease K C)) (cR : Cls K C) :
    FnOk P w K mg base CX0 3 f fd ["self"] (spReleaseAll K C) := by
  refine F.ok scReleasingReleaseAll (fun vs H Q E h => ?_) (fun cdv A outer s H vs Q E hr h => ?_)
  · obtain ⟨slots, H1, p, dx, aS, aO, aR, aE, aH, aV, ra, lim, outs, s, rfl, _⟩ := h
    rfl
  · obtain ⟨slots, H1, p, dx, aS, aO, aR, aE, aH, aV, ra, lim, outs, st, rfl, ms, md, hC, wk, k⟩ := h
    refine ⟨_, (pss_one (ps_while PassesOwn.never (pt_truth' (pe_fld (pv 0) rfl))
      (pss_cons (ps_asg (pe_bm0 PySem.F.plainAttrs_list PySem.F.slot_list_pop PySem.F.type_list_pop mt_pop (pe_fld (pv 0) rfl)) (pg_tup rfl (pgs_cons (pg_name (i := 1) scReleasingReleaseAll.nd rfl (Or.inl rfl)) (pgs_cons (pg_name (i := 2) scReleasingReleaseAll.nd rfl (Or.inl rfl)) (pgs_cons (pg_name (i := 3) scReleasingReleaseAll.nd rfl (Or.inl rfl)) (pgs_cons (pg_name (i := 4) scReleasingReleaseAll.nd rfl (Or.inl rfl)) pgs_nil))))))
      (pss_one (ps_expr (pe_lm m_release cR (hr.mono (by decide)) (pv 0) (pa_cons (pv 1) (pa_cons (pv 2) (pa_cons (pv 3) (pa_cons (pv 4) pa_nil)))))))))), ?_⟩
    refine x_start (σ' := [some (.ref p), none, none, none, none]) rfl ?_
    dsimp only [cxOf]
    have six := ms.six
    repeat walk_at "rd"
    refine ⟨fun m σ H2 => ∃ (s2 : FS) (y1 y2 y3 y4 : Option V), σ = [some (.ref p), y1, y2, y3, y4] ∧ MD slots H1 H2 aS aO aR aE aH aV ra outs (tal slots outs s2.log s2.pend) s2.log s2.pend s2.shelf s2.evs ∧ Wk slots outs s2 ∧ Steps slots outs lim st s2 ∧ s2.mu slots ≤ st.mu slots ∧ m = s2.mu slots,
      ⟨_, st, none, none, none, none, rfl, md, wk, .refl _, Nat.le_refl _, rfl⟩, ?_⟩
    rintro m σ H2 ⟨s2, y1, y2, y3, y4, rfl, md2, wk2, hs2, hm2, rfl⟩
    have hins := md2.k _ _ ms.pW ms.ins
    cases hp : s2.pend with
    | nil =>
      obtain ⟨ts, eE, tE⟩ := md2.eE
      have hts : ts = [] := by
        have := tE.len
        rw [hp] at this
        exact List.eq_nil_of_length_eq_zero this
      subst hts
      repeat walk_at "rd"
      refine iteF ?_
      exact k s2 H2 hs2 hp wk2 hm2 md2
    | cons q rest =>
      have md2' := md2
      rw [hp] at md2'
      obtain ⟨ts, t, eE, ht, md3'⟩ := md2'.pE six
      rw [← hp] at md3'
      have eat : (ts.map V.ref ++ [V.ref t])[(ts.map V.ref ++ [V.ref t]).length - 1]? = some (V.ref t) := by simp
      have nt : t ≠ aE := fun z => by
        rw [z, eE] at ht
        cases ht
      replace ht : H2 t = some (.tup [optV q.holder, optV q.slot, .int q.node, .int q.depth]) := ht
      have npE : p ≠ aE := fun z => by
        rw [z, eE] at hins
        cases hins
      repeat walk_at "rd"
      refine iteP (by simp) (x_turn ?_)
      repeat walk_at "rd"
      refine ⟨ty_list (SqL.of eE), ?_⟩
      repeat walk_at "rd"
      rw [List.dropLast_concat]
      refine ⟨slots, H1, p, dx, aS, aO, aR, aE, aH, aV, ra, lim, outs, s2, q, rest, rfl, ms, hp, md3', hC, wk2, fun s' H3 hst md4 => ?_⟩
      have hmu := (step_mu wk2.ok wk2.ho hst).1
      repeat walk_at "rd"
      exact ⟨s'.mu slots, hmu, s', _, _, _, _, rfl, md4, wk2.step hst, hs2.tail hst, by omega, rfl⟩
end


section
variable {P : Program} {w : World} {K : PySem.W.Frag} {mg : Str → Option Value} {base : Heap}

theorem tal_start {slots : List (Option Rw)} {outs : List Int} {n : Nat} {z : Int} (hz : outs[n]? = some z) (log : List Nat) (m : Nat) : tal slots (outs.set n (z - 1)) log [⟨none, none, n, 0⟩] m = tal slots outs log [] m := by
  unfold tal
  rw [pendC_cons, show pendC [] m = 0 from rfl]
  by_cases e : n = m
  · subst e
    rw [List.getElem?_set_self (List.getElem?_eq_some_iff.mp hz).1, hz]
    simp only [if_true, Option.getD_some]
    omega
  · rw [List.getElem?_set_ne e, if_neg e]
theorem set_nonneg {outs : List Int} {n : Nat} {z : Int} (ho : ∀ z ∈ outs, 0 ≤ z) (h : 1 ≤ z) : ∀ y ∈ outs.set n (z - 1), 0 ≤ y := by
  intro y hy
  rcases List.mem_or_eq_of_mem_set hy with hy | rfl
  · exact ho y hy
  · omega
theorem Wk.start {slots : List (Option Rw)} {outs : List Int} {s : FS} (k : Wk slots outs s) (hp : s.pend = []) (hs : s.shelf = []) {n : Nat} {z : Int} (hz : outs[n]? = some z) (h1 : 1 ≤ z) (hl : isLive slots n = true) (hsz : s.evs.length + 2 * s.mu slots ≤ 89000) :
    Wk slots (outs.set n (z - 1)) ⟨[⟨none, none, n, 0⟩], [], s.evs⟩ := by
  have hlog : FS.log ⟨[⟨none, none, n, 0⟩], [], s.evs⟩ = s.log := rfl
  refine ⟨⟨fun q hq => ?_, ?_, fun m hm => ?_, fun m hm => ?_⟩, set_nonneg k.ho h1, k.wl, k.rl, k.most, ?_⟩
  · rw [List.mem_singleton.mp hq]
    exact hl
  · rw [hlog]
    have := k.ok.nd
    rwa [hs] at this
  · rw [hlog] at hm ⊢
    show tal slots (outs.set n (z - 1)) s.log [⟨none, none, n, 0⟩] m = 0
    rw [tal_start hz, ← hp]
    exact k.ok.z m (by rw [hs]; exact hm)
  · rw [hlog] at hm
    exact k.ok.lv m (by rw [hs]; exact hm)
  · have h2 : s.mu slots = left slots s.log + 0 := by unfold FS.mu; rw [hp]; rfl
    have h3 : FS.mu slots ⟨[⟨none, none, n, 0⟩], [], s.evs⟩ = left slots s.log + 1 := rfl
    rw [h3]
    show s.evs.length + 2 * (left slots s.log + 1) ≤ 90000
    omega
def spMDrop (K : PySem.W.Frag) (C : Addr) : Sp := fun vs H Q _ => ∃ (slots : List (Option Rw)) (H1 : Hp) (p dx aS aO aR aE aH aV : Addr) (ra : Nat → Addr) (lim : Int) (outs : List Int) (s : FS) (n : Nat) (z : Int),
  vs = [.ref p, .int n] ∧ MS slots C H1 p dx aS aO aR aE aH aV ra lim ∧ MD slots H1 H aS aO aR aE aH aV ra outs (tal slots outs s.log []) s.log [] [] s.evs ∧ ClR K C ∧ Wk slots outs s ∧ s.pend = [] ∧ s.shelf = [] ∧ outs.length = slots.length ∧ outs[n]? = some z ∧ 1 ≤ z ∧ isLive slots n = true ∧ s.evs.length + 2 * s.mu slots ≤ 89000 ∧ 0 < lim ∧
  ∀ s' H', Steps slots (outs.set n (z - 1)) lim ⟨[⟨none, none, n, 0⟩], [], s.evs⟩ s' → s'.pend = [] → s'.shelf = [] → Wk slots (outs.set n (z - 1)) s' → MD slots H1 H' aS aO aR aE aH aV ra (outs.set n (z - 1)) (tal slots (outs.set n (z - 1)) s'.log []) s'.log [] [] s'.evs → Q .non H'
theorem ok_mdrop {C : Addr} {f : Addr} {fd : FuncData} (F : Fun K "drop" "Releasing.drop" sReleasingDrop f fd) (T : Txt mg) (m_release_all : Lm P w K mg base C "_release_all" 3 ["self"] (spReleaseAll K C)) (m_destroy : Lm P w K mg base C "_destroy" 1 ["self", "node", "depth"] (spDestroy K C)) (cR : Cls K C) :
    FnOk P w K mg base CX0 4 f fd ["self", "node"] (spMDrop K C) := by
  refine F.ok scReleasingDrop (fun vs H Q E h => ?_) (fun cdv A outer s H vs Q E hr h => ?_)
  · obtain ⟨slots, H1, p, dx, aS, aO, aR, aE, aH, aV, ra, lim, outs, s, n, z, rfl, _⟩ := h
    rfl
  · obtain ⟨slots, H1, p, dx, aS, aO, aR, aE, aH, aV, ra, lim, outs, st, n, z, rfl, ms, md, hC, wk, hp, hs, hol, hz, h1, hl, hsz, hlim, k⟩ := h
    refine ⟨_, (pss_cons (ps_augS (pe_fld (pv 0) rfl) (pv 1) get_list pe_int ip_sub set_list)
      (pss_cons (ps_expr (pe_bm PySem.F.plainAttrs_list PySem.F.slot_list_append PySem.F.type_list_append mt_append (pe_fld (pv 0) rfl) (pa_cons (pe_tup (pa_cons pe_non (pa_cons pe_non (pa_cons (pv 1) (pa_cons pe_int pa_nil))))) pa_nil)))
      (pss_cons (ps_expr (pe_lm0 m_release_all cR (hr.mono (by decide)) (pv 0)))
      (pss_one (ps_while PassesOwn.never (pt_truth' (pe_fld (pv 0) rfl))
      (pss_cons (ps_set (i := 2) scReleasingDrop.nd rfl (Or.inl rfl) (pe_bm0 PySem.F.plainAttrs_list PySem.F.slot_list_pop PySem.F.type_list_pop mt_pop (pe_fld (pv 0) rfl)))
      (pss_cons (ps_expr (pe_bm PySem.F.plainAttrs_list PySem.F.slot_list_append PySem.F.type_list_append mt_append (pe_fld (pv 0) rfl) (pa_cons (pe_tup (pa_cons pe_str (pa_cons (pv 2) (pa_cons (pe_callB call_len_seq (by rfl) T.b_len boot'_len (pa_cons (pe_fld (pv 0) rfl) pa_nil)) pa_nil)))) pa_nil)))
      (pss_cons (ps_expr (pe_lm m_destroy cR (hr.mono (by decide)) (pv 0) (pa_cons (pv 2) (pa_cons pe_int pa_nil))))
      (pss_one (ps_expr (pe_lm0 m_release_all cR (hr.mono (by decide)) (pv 0)))))))))))), ?_⟩
    refine x_start (σ' := [some (.ref p), some (.int n), none]) rfl ?_
    dsimp only [cxOf]
    have six := ms.six
    have hins := md.k _ _ ms.pW ms.ins
    have eO := md.eO
    obtain ⟨hnl, hze⟩ := List.getElem?_eq_some_iff.mp hz
    have at1 : atI (outs.map V.int) (n : Int) = some (.int z) := atI_nat (by rw [List.getElem?_map, hz]; rfl)
    have ix1 : ixN (outs.map V.int).length (n : Int) = some n := ix_nat (by rw [List.length_map]; exact hnl)
    repeat walk_at "rd"
    have md1 := md.wO six (outs.set n (z - 1))
    rw [List.map_set] at md1
    generalize upd H aO (.lst ((outs.map V.int).set n (V.int (z - 1)))) = H2 at *
    have hins2 := md1.k _ _ ms.pW ms.ins
    obtain ⟨ts, eE, tE⟩ := md1.eE
    have hz0 : (ts.map V.ref).length < sizeLine := big_line (by rw [List.length_map, tE.len]; simp)
    repeat walk_at "rd"
    refine ⟨ty_list (SqL.of eE), ?_⟩
    repeat walk_at "rd"
    rename_i t nt
    have md2 := (md1.new (o := .tup (pdV ⟨none, none, n, 0⟩)) nt).wE six (lk_ne eE nt) (tE.new nt) (t := t) (q := ⟨none, none, n, 0⟩) upd_same
    replace md2 : MD slots H1 (upd (upd H2 t (.tup [.non, .non, .int n, .int 0])) aE (.lst (ts.map V.ref ++ [V.ref t]))) aS aO aR aE aH aV ra (outs.set n (z - 1)) (tal slots outs st.log []) st.log [⟨none, none, n, 0⟩] [] st.evs := md2
    generalize (upd (upd H2 t (.tup [.non, .non, .int n, .int 0])) aE (.lst (ts.map V.ref ++ [V.ref t]))) = H3 at *
    rw [← show tal slots (outs.set n (z - 1)) st.log [⟨none, none, n, 0⟩] = tal slots outs st.log [] from funext fun m => tal_start hz _ m] at md2
    have wk2 := wk.start hp hs hz h1 hl hsz
    have hins3 := md2.k _ _ ms.pW ms.ins
    repeat walk_at "rd"
    refine ⟨slots, H1, p, dx, aS, aO, aR, aE, aH, aV, ra, lim, outs.set n (z - 1), ⟨[⟨none, none, n, 0⟩], [], st.evs⟩, rfl, ms, md2, hC, wk2, fun s3 H4 hs3 hp3 wk3 hm3 md3 => ?_⟩
    repeat walk_at "rd"
    refine ⟨fun m σ H5 => ∃ (s5 : FS) (y2 : Option V), σ = [some (.ref p), some (.int n), y2] ∧ MD slots H1 H5 aS aO aR aE aH aV ra (outs.set n (z - 1)) (tal slots (outs.set n (z - 1)) s5.log s5.pend) s5.log s5.pend s5.shelf s5.evs ∧ Wk slots (outs.set n (z - 1)) s5 ∧ s5.pend = [] ∧ Steps slots (outs.set n (z - 1)) lim ⟨[⟨none, none, n, 0⟩], [], st.evs⟩ s5 ∧ m = s5.mu slots,
      ⟨_, s3, none, rfl, md3, wk3, hp3, hs3, rfl⟩, ?_⟩
    rintro m σ H5 ⟨s5, y2, rfl, md5, wk5, hp5, hs5, rfl⟩
    have hins5 := md5.k _ _ ms.pW ms.ins
    have eH5 := md5.eH
    rcases List.eq_nil_or_concat s5.shelf with he | ⟨ss, a, he⟩
    · rw [he] at eH5
      repeat walk_at "rd"
      refine iteF ?_
      refine k s5 H5 hs5 hp5 he wk5 ?_
      rw [hp5, he] at md5
      exact md5
    · rw [List.concat_eq_append] at he
      rw [he, List.map_append] at eH5
      replace eH5 : H5 aH = some (.lst ((ss.map fun n : Nat => V.int n) ++ [V.int (a : Int)])) := eH5
      have eat : ((ss.map fun n : Nat => V.int n) ++ [V.int (a : Int)])[((ss.map fun n : Nat => V.int n) ++ [V.int (a : Int)]).length - 1]? = some (V.int (a : Int)) := by simp
      repeat walk_at "rd"
      refine iteP (by simp) (x_turn ?_)
      repeat walk_at "rd"
      refine ⟨ty_list (SqL.of eH5), ?_⟩
      repeat walk_at "rd"
      rw [List.dropLast_concat]
      have md6 := md5.wH six ss
      generalize upd H5 aH (.lst (ss.map fun n : Nat => V.int n)) = H6 at *
      have hins6 := md6.k _ _ ms.pW ms.ins
      have eH6 := md6.eH
      obtain ⟨us, eV, tV⟩ := md6.eV
      have hsz5 := wk5.sz
      have hz1 : (us.map V.ref).length < sizeLine := big_line (by rw [List.length_map, tV.len, List.length_map]; omega)
      have ham : a ∈ s5.log ++ s5.shelf := by rw [he]; simp
      have hla := wk5.ok.lv a ham
      have hnd := wk5.ok.nd
      rw [he] at hnd
      have hna : a ∉ s5.log := fun h => (List.nodup_append.mp hnd).2.2 a h a (by simp) rfl
      obtain ⟨_, _, hlta⟩ := live_lt hla
      have hstep : stepF slots (outs.set n (z - 1)) lim s5 = some ⟨kids slots a 1, ss, s5.evs ++ [.take a ss.length, .destroy a 0]⟩ := by
        unfold stepF
        rw [hp5, he]
        simp
      have wk6 := wk5.step hstep
      have hmu6 := (step_mu wk5.ok wk5.ho hstep).1
      repeat walk_at "rd"
      refine ⟨ty_list (SqL.of eV), ?_⟩
      repeat walk_at "rd"
      rename_i t2 nt2
      have md7 := (md6.new (o := .tup (evV (.take a ss.length))) nt2).wV six (lk_ne eV nt2) (tV.new nt2) (t := t2) (e := .take a ss.length) upd_same
      have hls : V.int ((ss.map fun n : Nat => V.int n).length : Int) = V.int (ss.length : Int) := by rw [List.length_map]
      rw [hls]
      replace md7 : MD slots H1 (upd (upd H6 t2 (.tup [.str "take", .int a, .int ss.length])) aV (.lst (us.map V.ref ++ [V.ref t2]))) aS aO aR aE aH aV ra (outs.set n (z - 1)) (tal slots (outs.set n (z - 1)) s5.log s5.pend) s5.log s5.pend ss (s5.evs ++ [.take a ss.length]) := md7
      generalize (upd (upd H6 t2 (.tup [.str "take", .int a, .int ss.length])) aV (.lst (us.map V.ref ++ [V.ref t2]))) = H7 at *
      have hins7 := md7.k _ _ ms.pW ms.ins
      have hrl := wk5.row a
      repeat walk_at "rd"
      refine ⟨slots, H1, p, dx, aS, aO, aR, aE, aH, aV, ra, lim, outs.set n (z - 1), _, s5.log, s5.pend, ss, _, a, 0, rfl, ms, md7, hC, hla, hna, by rw [hp5]; simp, by rw [List.length_append]; show s5.evs.length + 1 ≤ 100000; omega, by omega, fun H8 md8 => ?_⟩
      have hins8 := md8.k _ _ ms.pW ms.ins
      repeat walk_at "rd"
      have hlog6 : FS.log ⟨kids slots a 1, ss, s5.evs ++ [.take a ss.length, .destroy a 0]⟩ = s5.log ++ [a] := by
        unfold FS.log
        rw [List.filterMap_append]
        rfl
      have md9 : MD slots H1 H8 aS aO aR aE aH aV ra (outs.set n (z - 1)) (tal slots (outs.set n (z - 1)) (FS.log ⟨kids slots a 1, ss, s5.evs ++ [.take a ss.length, .destroy a 0]⟩) (kids slots a 1)) (FS.log ⟨kids slots a 1, ss, s5.evs ++ [.take a ss.length, .destroy a 0]⟩) (kids slots a 1) ss (s5.evs ++ [.take a ss.length, .destroy a 0]) := by
        rw [hlog6]
        have := md8
        rw [hp5, List.append_assoc, List.append_nil] at this
        rw [show tal slots (outs.set n (z - 1)) (s5.log ++ [a]) (kids slots a 1) = tal slots (outs.set n (z - 1)) s5.log [] from funext fun m => by
          have := tal_dead (slots := slots) (outs := outs.set n (z - 1)) hlta hna 1 [] m
          rwa [List.append_nil] at this]
        exact this
      refine ⟨slots, H1, p, dx, aS, aO, aR, aE, aH, aV, ra, lim, outs.set n (z - 1), _, rfl, ms, md9, hC, wk6, fun s9 H9 hs9 hp9 wk9 hm9 mdA => ?_⟩
      repeat walk_at "rd"
      exact ⟨s9.mu slots, by omega, s9, _, rfl, mdA, wk9, hp9, (hs5.tail hstep).trans hs9, rfl⟩
end


section
variable {P : Program} {w : World} {K : PySem.W.Frag} {mg : Str → Option Value} {base : Heap}
def usesF (f : Nat → Nat) (N : Nat) : List Int := (List.range N).map fun k => (f k : Int)
theorem usesF_len (f : Nat → Nat) (N : Nat) : (usesF f N).length = N := by
  unfold usesF
  rw [List.length_map, List.length_range]
theorem usesF_at {f : Nat → Nat} {N h : Nat} (hh : h < N) : (usesF f N)[h]? = some (f h : Int) := by
  unfold usesF
  rw [List.getElem?_map, List.getElem?_range hh]
  rfl
theorem usesF_ext {f g : Nat → Nat} {N : Nat} (h : ∀ k, k < N → f k = g k) : usesF f N = usesF g N := by
  unfold usesF
  refine List.map_congr_left fun k hk => ?_
  rw [h k (List.mem_range.mp hk)]
theorem usesF_set {f : Nat → Nat} {N h : Nat} (hh : h < N) : (usesF f N).set h ((f h : Int) + 1) = usesF (fun k => f k + if k = h then 1 else 0) N := by
  refine List.ext_getElem? fun m => ?_
  by_cases hm : m = h
  · subst hm
    rw [List.getElem?_set_self (by rw [usesF_len]; exact hh), usesF_at hh, if_pos rfl]
    rfl
  · rw [List.getElem?_set_ne (Ne.symm hm)]
    by_cases hN : m < N
    · rw [usesF_at hN, usesF_at hN, if_neg hm, Nat.add_zero]
    · rw [List.getElem?_eq_none (by rw [usesF_len]; omega), List.getElem?_eq_none (by rw [usesF_len]; omega)]
def cntUp (slots : List (Option Rw)) (i k : Nat) : Nat := ((slots.take i).map (cntO k)).sum
theorem cntUp_succ {slots : List (Option Rw)} {i : Nat} {o : Option Rw} (h : slots[i]? = some o) (k : Nat) : cntUp slots (i + 1) k = cntUp slots i k + cntO k o := by
  unfold cntUp
  rw [List.take_add_one, h, List.map_append, List.sum_append]
  simp
theorem count_succ {row : Rw} {j k : Nat} {o : Option Nat} (h : row[j]? = some o) : (row.take (j + 1)).count (some k) = (row.take j).count (some k) + if o = some k then 1 else 0 := by
  rw [List.take_add_one, h, List.count_append]
  simp [List.count_singleton]
theorem flat_rep (n : Nat) (v : V) : (List.replicate n [v]).flatten = List.replicate n v := by
  induction n with
  | zero => rfl
  | succ n ih => rw [List.replicate_succ, List.flatten_cons, ih, List.replicate_succ]; rfl
def spUses (K : PySem.W.Frag) : Sp := fun vs H Q _ => ∃ (S : Addr) (xs : List V) (slots : List (Option Rw)) (outs : List Int), vs = [.ref S] ∧ SqT K H S xs ∧ xs.length = slots.length ∧
  (∀ (i : Nat) (o : Option Rw), slots[i]? = some o → (o = none ∧ xs[i]? = some V.non) ∨ ∃ r row, o = some row ∧ xs[i]? = some (.ref r) ∧ SqT K H r (rowV row)) ∧ Wf slots outs ∧
  ∀ p H', H p = none → Kx [] H H' → H' p = some (.lst ((useL slots).map V.int)) → Q (.ref p) H'
theorem ok_uses {f : Addr} {fd : FuncData} (F : Fun K "slot_uses" "slot_uses" sSlotUses f fd) (T : Txt mg) : FnOk P w K mg base CX0 1 f fd ["slots"] (spUses K) := by
  refine F.ok scSlotUses (fun vs H Q E h => ?_) (fun cdv A outer s H vs Q E hr h => ?_)
  · obtain ⟨S, xs, slots, outs, rfl, _⟩ := h
    rfl
  · obtain ⟨S, xs, slots, outs, rfl, hS, hl, hv, wf, k⟩ := h
    refine ⟨_, (pss_cons (ps_set (i := 1) scSlotUses.nd rfl (Or.inl rfl) (pe_op op_rep (pe_lst (pa_cons pe_int pa_nil)) (pe_callB call_len_seq (by rfl) T.b_len boot'_len (pa_cons (pv 0) pa_nil))))
      (pss_cons (ps_for PassesOwn.never rfl (pi_tup (pv 0)) (pg_name (i := 2) scSlotUses.nd rfl (Or.inl rfl))
      (pss_one (ps_if (pt_cmpR op_notN1 (pv 2) pe_non (nomark _)) (pss_one (ps_for PassesOwn.never rfl (pi_tup (pv 2)) (pg_name (i := 3) scSlotUses.nd rfl (Or.inl rfl))
      (pss_one (ps_if (pt_cmpR op_notN1 (pv 3) pe_non (nomark _)) (pss_one (ps_augS (pv 1) (pv 3) get_list pe_int ip_add set_list)) pss_nil)))) pss_nil)))
      (pss_one (ps_ret (pv 1))))), ?_⟩
    refine x_start (σ' := [some (.ref S), none, none, none]) rfl ?_
    dsimp only [cxOf]
    have h40 := wf.most
    repeat walk_at "rd"
    rename_i q nq
    refine x_rep (xs := [V.int 0]) (k := (xs.length : Int)) upd_same (by omega) (by omega) (Nat.le_of_lt (small1000 (by simp; omega))) fun U nU => ?_
    rw [flat_rep]
    have nU0 : H U = none := ((Kx.refl [] H).new nq).fresh (by simp) nU
    have k0 := ((Kx.refl [] H).new nq).new (o := .lst (List.replicate (xs.length : Int).toNat (V.int 0))) nU
    have e0 : List.replicate (xs.length : Int).toNat (V.int 0) = (usesF (cntUp slots 0) slots.length).map V.int := by
      rw [Int.toNat_natCast, hl]
      refine List.ext_getElem? fun m => ?_
      rw [List.getElem?_map]
      by_cases hm : m < slots.length
      · rw [usesF_at hm, List.getElem?_replicate, if_pos hm]
        rfl
      · rw [List.getElem?_eq_none (by rw [List.length_replicate]; omega), List.getElem?_eq_none (by rw [usesF_len]; omega)]
        rfl
    repeat walk_at "rd"
    refine y_forT (xs := xs) (k0.sqT (by simp) hS) ⟨fun i σ H1 => ∃ (y2 y3 : Option V), σ = [some (.ref S), some (.ref U), y2, y3] ∧ Kx [] H H1 ∧ H1 U = some (.lst ((usesF (cntUp slots i) slots.length).map V.int)),
      ⟨none, none, rfl, k0, by rw [upd_same, e0]⟩, ?_, ?_, ?_⟩
    · rintro i σ H1 hi ⟨y2, y3, rfl, k1, e1⟩
      exact k1.sqT (by simp) hS
    · rintro i x σ H1 H1' hi ⟨y2, y3, rfl, k1, e1⟩ ⟨rfl, hx⟩
      have hs : i < slots.length := by omega
      have es := List.getElem?_eq_getElem hs
      repeat walk_at "rd"
      rcases hv i _ es with ⟨e, z⟩ | ⟨r, row, e, z, hF⟩
      · cases Option.some.inj (z.symm.trans hx)
        refine iteF ?_
        repeat walk_at "rd"
        refine ⟨_, _, rfl, k1, ?_⟩
        rw [e1]
        congr 3
        exact usesF_ext fun k _ => by rw [cntUp_succ es, e]; rfl
      · cases Option.some.inj (z.symm.trans hx)
        refine iteT ?_
        have hrow : some row ∈ slots := by rw [← e]; exact List.getElem_mem hs
        repeat walk_at "rd"
        refine y_forT (xs := rowV row) (k1.sqT (by simp) hF) ⟨fun j σ H2 => ∃ (y3 : Option V), σ = [some (.ref S), some (.ref U), some (.ref r), y3] ∧ Kx [] H H2 ∧ H2 U = some (.lst ((usesF (fun k => cntUp slots i k + (row.take j).count (some k)) slots.length).map V.int)),
          ⟨_, rfl, k1, by rw [e1]; rfl⟩, ?_, ?_, ?_⟩
        · rintro j σ H2 hj ⟨y3, rfl, k2, e2⟩
          exact (k2.sqT (by simp) hF)
        · rintro j x σ H2 H2' hj ⟨y3, rfl, k2, e2⟩ ⟨rfl, hx2⟩
          have hj2 : j < row.length := by
            unfold rowV at hj
            rwa [List.length_map] at hj
          have er := List.getElem?_eq_getElem hj2
          unfold rowV at hx2
          rw [List.getElem?_map, er] at hx2
          cases Option.some.inj hx2
          repeat walk_at "rd"
          cases ho : row[j] with
          | none =>
            refine iteF ?_
            repeat walk_at "rd"
            refine ⟨_, rfl, k2, ?_⟩
            rw [e2]
            congr 3
            exact usesF_ext fun k _ => by rw [count_succ er, ho]; simp
          | some hd =>
            obtain ⟨r2, e9⟩ := wf.live row hrow hd (by rw [← ho]; exact List.getElem_mem hj2)
            have hh := (List.getElem?_eq_some_iff.mp e9).1
            refine iteT ?_
            have hat : atI ((usesF (fun k => cntUp slots i k + (row.take j).count (some k)) slots.length).map V.int) (hd : Int) = some (.int ((cntUp slots i hd + (row.take j).count (some hd) : Nat) : Int)) := atI_nat (by rw [List.getElem?_map, usesF_at hh]; rfl)
            have hix : ixN ((usesF (fun k => cntUp slots i k + (row.take j).count (some k)) slots.length).map V.int).length (hd : Int) = some hd := ix_nat (by rw [List.length_map, usesF_len]; exact hh)
            show tAugS _ _ _ _ _ _ _ [some (.ref S), some (.ref U), some (.ref r), some (.int (hd : Int))] _
            repeat walk_at "rd"
            refine ⟨_, rfl, k2.wr (.inl nU0), ?_⟩
            rw [upd_same, ← List.map_set, usesF_set hh]
            congr 3
            exact usesF_ext fun k _ => by
              rw [count_succ er, ho]
              by_cases hk : k = hd
              · subst hk
                simp [Nat.add_assoc]
              · rw [if_neg hk, if_neg (fun e => hk (Option.some.inj e).symm), Nat.add_zero, Nat.add_zero]
        · rintro σ H2 ⟨y3, rfl, k2, e2⟩
          refine ⟨_, _, rfl, k2, ?_⟩
          rw [e2]
          congr 3
          refine usesF_ext fun k _ => ?_
          rw [cntUp_succ es, e, show (rowV row).length = row.length by unfold rowV; rw [List.length_map], List.take_length]
          rfl
    · rintro σ H1 ⟨y2, y3, rfl, k1, e1⟩
      repeat walk_at "rd"
      refine k U H1 nU0 k1 ?_
      rw [e1, hl]
      unfold useL usesF
      congr 3
      refine List.map_congr_left fun k _ => ?_
      unfold cntUp useC
      rw [List.take_length]
def spCounts (K : PySem.W.Frag) : Sp := fun vs H Q _ => ∃ (D : Addr) (slots : List (Option Rw)) (outs : List Int), vs = [.ref D] ∧ HeapT K H D slots outs ∧ Wf slots outs ∧
  ∀ p H', H p = none → Kx [] H H' → H' p = some (.tup (countsV slots outs)) → Q (.ref p) H'
theorem ok_counts {f : Addr} {fd : FuncData} (F : Fun K "counts" "counts" sCounts f fd) (T : Txt mg) (l_slot_uses : Lo P w K mg base "slot_uses" 1 ["slots"] (spUses K)) : FnOk P w K mg base CX0 2 f fd ["heap"] (spCounts K) := by
  refine F.ok scCounts (fun vs H Q E h => ?_) (fun cdv A outer s H vs Q E hr h => ?_)
  · obtain ⟨D, slots, outs, rfl, _⟩ := h
    rfl
  · obtain ⟨D, slots, outs, rfl, ⟨S, O, vs, hD, hS, hO, hl, hv⟩, wf, k⟩ := h
    refine ⟨_, (pss_cons (ps_asg (pv 0) (pg_tup rfl (pgs_cons (pg_name (i := 1) scCounts.nd rfl (Or.inl rfl)) (pgs_cons (pg_name (i := 2) scCounts.nd rfl (Or.inr rfl)) pgs_nil))))
      (pss_cons (ps_set (i := 3) scCounts.nd rfl (Or.inr rfl) (pe_lo l_slot_uses (hr.mono (by decide)) (by rfl) (pa_cons (pv 1) pa_nil)))
      (pss_one (ps_ret (pe_callTy call_tuple_of (by rfl) T.b_tuple boot'_tuple (pa_cons (pe_lc (own := [("node", 4), ("row", 5)]) rfl scCounts.nd (pi_enumT (by rfl) T.b_enumerate (pa_cons (pv 1) pa_nil)) (blkOk_by (N := ["heap", "slots", "outside", "uses", "node", "row"]) (sc := defScope sCounts) (by decide +kernel)) (fun _ _ _ _ _ => (pg_tupK (K := K) (n := 2) rfl rfl (pgs_cons (pg_name (i := 4) scCounts.nd rfl (Or.inl rfl)) (pgs_cons (pg_name (i := 5) scCounts.nd rfl (Or.inl rfl)) pgs_nil)))) (fun _ _ _ _ _ => pts_nil) (fun _ _ _ _ _ => (pe_ifExp (pt_cmpR op_isN1 (pv 5) pe_non (nomark _)) pe_non (pe_op op_add (pe_ix (ix_tupK (K := K)) (pv 2) (pv 4) (fun _ _ => rfl)) (pe_ix (ix_listK (K := K)) (pv 3) (pv 4) (fun _ _ => rfl)))))) pa_nil)))))), ?_⟩
    refine x_start (σ' := [some (.ref D), none, none, none, none, none]) rfl ?_
    dsimp only [cxOf]
    have h40 := wf.most
    repeat walk_at "rd"
    refine ⟨S, vs, slots, outs, rfl, hS, hl, hv, wf, fun U H1 nU k1 e1 => ?_⟩
    have hS1 : SqT K H1 S vs := k1.sqT (by simp) hS
    have hO1 : SqT K H1 O (outs.map V.int) := k1.sqT (by simp) hO
    repeat walk_at "rd"
    refine y_lcET (xs := vs) hS1 (fun Z nZ => ⟨fun i H2 => Kx [] H1 H2 ∧ H2 Z = some (.lst ((List.range i).map (countV slots outs))), ⟨(Kx.refl _ _).new nZ, upd_same⟩, ?_, ?_, ?_⟩)
    · rintro i H2 hi ⟨k2, _⟩
      exact k2.sqT (by simp) hS1
    · rintro i x H2 H2' hi ⟨k2, e2⟩ ⟨W, x1, x2, rfl, nW, rfl, f1, f2⟩
      cases f1
      have nWZ : Z ≠ W := ne_of_none e2 nW
      repeat walk_at "rd"
      refine ⟨rfl, ?_⟩
      have hs : i < slots.length := by omega
      have es := List.getElem?_eq_getElem hs
      have e3 : (upd H2 W (.tup [.int (i : Int), x2])) Z = some (.lst ((List.range i).map (countV slots outs))) := lk_ne e2 nW
      have hO2 : SqT K (upd H2 W (.tup [.int (i : Int), x2])) O (outs.map V.int) := (k2.new nW).sqT (by simp) hO1
      have hU2 : SqL K (upd H2 W (.tup [.int (i : Int), x2])) U ((useL slots).map V.int) := SqL.of ((k2.new nW) _ _ (by simp) e1)
      have hout : i < outs.length := by rw [wf.len]; exact hs
      have at1 : atI (outs.map V.int) (i : Int) = some (.int outs[i]) := atI_nat (by rw [List.getElem?_map, List.getElem?_eq_getElem hout]; rfl)
      have at2 : atI ((useL slots).map V.int) (i : Int) = some (.int (useC slots i : Int)) := atI_nat (by
        unfold useL
        rw [List.getElem?_map, List.getElem?_map, List.getElem?_range hs]
        rfl)
      have hnew : (List.range (i + 1)).map (countV slots outs) = (List.range i).map (countV slots outs) ++ [countV slots outs i] := by rw [List.range_succ, List.map_append]; rfl
      repeat walk_at "rd"
      rcases hv i _ es with ⟨e, z⟩ | ⟨r, row, e, z, _⟩
      · cases Option.some.inj (z.symm.trans f2)
        refine iteT ?_
        repeat walk_at "rd"
        refine ⟨_, e3, small1000 (by rw [List.length_map, List.length_range]; omega), (k2.new nW).wr (.inl nZ), ?_⟩
        rw [upd_same, hnew, show countV slots outs i = V.non by simp [countV, isLive, es, e]]
      · cases Option.some.inj (z.symm.trans f2)
        refine iteF ?_
        repeat walk_at "rd"
        refine ⟨_, e3, small1000 (by rw [List.length_map, List.length_range]; omega), (k2.new nW).wr (.inl nZ), ?_⟩
        rw [upd_same, hnew, show countV slots outs i = V.int (outs[i] + (useC slots i : Int)) by simp [countV, isLive, es, e, List.getElem?_eq_getElem hout]]
    · rintro H2 ⟨k2, e2⟩
      rw [hl] at e2
      repeat walk_at "rd"
      intro l nl
      repeat walk_at "rd"
      exact k l _ ((k1.trans k2).fresh (by simp) nl) ((k1.trans k2).new nl) upd_same

def spIsInt : Sp := fun vs H Q _ => ∃ i : Int, vs = [.int i] ∧ Q (.bl true) H
theorem ok_isInt {f : Addr} {fd : FuncData} (F : Fun K "is_integer" "is_integer" sIsInteger f fd) (T : Txt mg) : FnOk P w K mg base CX0 1 f fd ["value"] spIsInt := by
  refine F.ok scIsInteger (fun vs H Q E h => ?_) (fun cdv A outer s H vs Q E hr h => ?_)
  · obtain ⟨i, rfl, _⟩ := h
    rfl
  · obtain ⟨i, rfl, k⟩ := h
    refine ⟨_, (pss_one (ps_ret (pe_and (pe_callB call_isi (by rfl) T.b_isinstance boot'_isinstance (pa_cons (pv 0) (pa_cons (pe_bltn (v := .ty "int") (by rfl) T.b_int boot'_int rfl) pa_nil))) (pe_one (pe_not (pe_callB call_isi (by rfl) T.b_isinstance boot'_isinstance (pa_cons (pv 0) (pa_cons (pe_bltn (v := .ty "bool") (by rfl) T.b_bool boot'_bool rfl) pa_nil)))))))), ?_⟩
    refine x_start (σ' := [some (.int i)]) rfl ?_
    try dsimp only [cxOf]
    repeat walk_at "rd"
    exact k
def spBetween : Sp := fun vs H Q _ => ∃ i a b : Int, vs = [.int i, .int a, .int b] ∧ a ≤ i ∧ i ≤ b ∧ Q (.bl true) H
theorem ok_between {f : Addr} {fd : FuncData} (F : Fun K "is_between" "is_between" sIsBetween f fd) (T : Txt mg) (l_is_integer : Lo P w K mg base "is_integer" 1 ["value"] spIsInt) : FnOk P w K mg base CX0 2 f fd ["value", "low", "high"] spBetween := by
  refine F.ok scIsBetween (fun vs H Q E h => ?_) (fun cdv A outer s H vs Q E hr h => ?_)
  · obtain ⟨i, a, b, rfl, _⟩ := h
    rfl
  · obtain ⟨i, a, b, rfl, h1, h2, k⟩ := h
    refine ⟨_, (pss_one (ps_ret (pe_and (pe_lo l_is_integer (hr.mono (by decide)) (by rfl) (pa_cons (pv 0) pa_nil)) (pe_one (pe_chain op_le op_le (pv 1) (pv 0) (pv 2)))))), ?_⟩
    refine x_start (σ' := [some (.int i), some (.int a), some (.int b)]) rfl ?_
    try dsimp only [cxOf]
    repeat walk_at "rd"
    refine ⟨i, rfl, ?_⟩
    repeat walk_at "rd"
    refine iteP (decide_eq_true h1) ?_
    repeat walk_at "rd"
    rw [decide_eq_true h2]
    exact k
def spIsLive (K : PySem.W.Frag) : Sp := fun vs H Q _ => ∃ (D : Addr) (slots : List (Option Rw)) (outs : List Int) (n : Nat), vs = [.ref D, .int n] ∧ HeapT K H D slots outs ∧ isLive slots n = true ∧ slots.length ≤ 40 ∧ Q (.bl true) H
theorem ok_isLive {f : Addr} {fd : FuncData} (F : Fun K "is_live" "is_live" sIsLive f fd) (T : Txt mg) (l_is_between : Lo P w K mg base "is_between" 2 ["value", "low", "high"] spBetween) : FnOk P w K mg base CX0 3 f fd ["heap", "value"] (spIsLive K) := by
  refine F.ok scIsLive (fun vs H Q E h => ?_) (fun cdv A outer s H vs Q E hr h => ?_)
  · obtain ⟨D, slots, outs, n, rfl, _⟩ := h
    rfl
  · obtain ⟨D, slots, outs, n, rfl, hT, hl, h40, k⟩ := h
    obtain ⟨S, O, vs, hD, hS, hO, hvl, hv⟩ := hT.ex
    obtain ⟨row, er, hlt⟩ := live_lt hl
    refine ⟨_, (pss_cons (ps_set (i := 2) scIsLive.nd rfl (Or.inl rfl) (pe_ix ix_tup (pv 0) pe_int (fun _ _ => rfl)))
      (pss_one (ps_ret (pe_and (pe_lo l_is_between (hr.mono (by decide)) (by rfl) (pa_cons (pv 1) (pa_cons pe_int (pa_cons (pe_op op_sub (pe_callB call_len_seq (by rfl) T.b_len boot'_len (pa_cons (pv 2) pa_nil)) pe_int) pa_nil)))) (pe_one (pe_cmpR op_notN1 (pe_ix ix_tup (pv 2) (pv 1) (fun _ _ => rfl)) pe_non (nomark _))))))), ?_⟩
    refine x_start (σ' := [some (.ref D), some (.int n), none]) rfl ?_
    try dsimp only [cxOf]
    rcases hv n _ er with ⟨e', _⟩ | ⟨r, _, _, z, _⟩
    · cases e'
    have at2 : atI vs (n : Int) = some (.ref r) := atI_nat z
    repeat walk_at "rd"
    refine ⟨n, 0, _, rfl, by omega, by omega, ?_⟩
    repeat walk_at "rd"
    exact k
def spNeedLive (K : PySem.W.Frag) : Sp := fun vs H Q _ => ∃ (D : Addr) (slots : List (Option Rw)) (outs : List Int) (n : Nat), vs = [.ref D, .int n] ∧ HeapT K H D slots outs ∧ isLive slots n = true ∧ slots.length ≤ 40 ∧ Q .non H
theorem ok_needLive {f : Addr} {fd : FuncData} (F : Fun K "need_live" "need_live" sNeedLive f fd) (T : Txt mg) (l_is_live : Lo P w K mg base "is_live" 3 ["heap", "value"] (spIsLive K)) : FnOk P w K mg base CX0 4 f fd ["heap", "node"] (spNeedLive K) := by
  refine F.ok scNeedLive (fun vs H Q E h => ?_) (fun cdv A outer s H vs Q E hr h => ?_)
  · obtain ⟨D, slots, outs, n, rfl, _⟩ := h
    rfl
  · obtain ⟨D, slots, outs, n, rfl, hT, hl, h40, k⟩ := h
    refine ⟨_, (pss_one (ps_if (pt_not (pt_val (pe_lo l_is_live (hr.mono (by decide)) (by rfl) (pa_cons (pv 0) (pa_cons (pv 1) pa_nil))))) (pss_one ps_never) pss_nil)), ?_⟩
    refine x_start (σ' := [some (.ref D), some (.int n)]) rfl ?_
    try dsimp only [cxOf]
    repeat walk_at "rd"
    refine ⟨D, slots, outs, n, rfl, hT, hl, h40, ?_⟩
    repeat walk_at "rd"
    refine iteF ?_
    repeat walk_at "rd"
    exact k
def spNeedRef (K : PySem.W.Frag) : Sp := fun vs H Q _ => ∃ (D : Addr) (slots : List (Option Rw)) (outs : List Int) (n : Nat) (z : Int), vs = [.ref D, .int n] ∧ HeapT K H D slots outs ∧ isLive slots n = true ∧ slots.length ≤ 40 ∧ outs[n]? = some z ∧ 1 ≤ z ∧ Q .non H
theorem ok_needRef {f : Addr} {fd : FuncData} (F : Fun K "need_reference" "need_reference" sNeedReference f fd) (T : Txt mg) (l_need_live : Lo P w K mg base "need_live" 4 ["heap", "node"] (spNeedLive K)) : FnOk P w K mg base CX0 5 f fd ["heap", "node"] (spNeedRef K) := by
  refine F.ok scNeedReference (fun vs H Q E h => ?_) (fun cdv A outer s H vs Q E hr h => ?_)
  · obtain ⟨D, slots, outs, n, z, rfl, _⟩ := h
    rfl
  · obtain ⟨D, slots, outs, n, z, rfl, hT, hl, h40, hz, h1, k⟩ := h
    obtain ⟨S, O, vs, hD, hS, hO, hvl, hv⟩ := id hT.ex
    refine ⟨_, (pss_cons (ps_expr (pe_lo l_need_live (hr.mono (by decide)) (by rfl) (pa_cons (pv 0) (pa_cons (pv 1) pa_nil))))
      (pss_one (ps_if (pt_cmpR op_eq (pe_ix ix_tup (pe_ix ix_tup (pv 0) pe_int (fun _ _ => rfl)) (pv 1) (fun _ _ => rfl)) pe_int (nomark _)) (pss_one ps_never) pss_nil))), ?_⟩
    refine x_start (σ' := [some (.ref D), some (.int n)]) rfl ?_
    try dsimp only [cxOf]
    have at1 : atI (outs.map V.int) (n : Int) = some (.int z) := atI_nat (by rw [List.getElem?_map, hz]; rfl)
    repeat walk_at "rd"
    refine ⟨D, slots, outs, n, rfl, hT, hl, h40, ?_⟩
    repeat walk_at "rd"
    refine iteN (decide_eq_false (fun e => by have := V.int.inj e; omega)) ?_
    repeat walk_at "rd"
    exact k
end


theorem pf1 {v : V} : putF ("slots" : Str) v [] = [(("slots" : Str), v)] := rfl
theorem pf2 {a v : V} : putF ("outside" : Str) v [(("slots" : Str), a)] = [(("slots" : Str), a), (("outside" : Str), v)] := by with_unfolding_all rfl
theorem pf3 {a b v : V} : putF ("references" : Str) v [(("slots" : Str), a), (("outside" : Str), b)] = [(("slots" : Str), a), (("outside" : Str), b), (("references" : Str), v)] := by with_unfolding_all rfl
theorem pf4 {a b c v : V} : putF ("limit" : Str) v [(("slots" : Str), a), (("outside" : Str), b), (("references" : Str), c)] = [(("slots" : Str), a), (("outside" : Str), b), (("references" : Str), c), (("limit" : Str), v)] := by with_unfolding_all rfl
theorem pf5 {a b c d v : V} : putF ("emptied" : Str) v [(("slots" : Str), a), (("outside" : Str), b), (("references" : Str), c), (("limit" : Str), d)] = [(("slots" : Str), a), (("outside" : Str), b), (("references" : Str), c), (("limit" : Str), d), (("emptied" : Str), v)] := by with_unfolding_all rfl
theorem pf6 {a b c d e v : V} : putF ("shelf" : Str) v [(("slots" : Str), a), (("outside" : Str), b), (("references" : Str), c), (("limit" : Str), d), (("emptied" : Str), e)] = [(("slots" : Str), a), (("outside" : Str), b), (("references" : Str), c), (("limit" : Str), d), (("emptied" : Str), e), (("shelf" : Str), v)] := by with_unfolding_all rfl
theorem pf7 {a b c d e f v : V} : putF ("events" : Str) v [(("slots" : Str), a), (("outside" : Str), b), (("references" : Str), c), (("limit" : Str), d), (("emptied" : Str), e), (("shelf" : Str), f)] = [(("slots" : Str), a), (("outside" : Str), b), (("references" : Str), c), (("limit" : Str), d), (("emptied" : Str), e), (("shelf" : Str), f), (("events" : Str), v)] := by with_unfolding_all rfl
theorem x_insS {K : PySem.W.Frag} {H : Hp} {C a dx : Addr} {fs : List (Str × V)} {f : Str} {R : Addr → Addr → Addr → List (Str × V) → Prop} (h : H a = some (.ins C dx fs)) (c : Cls K C) (n : NoAttr K C f) (l : fs.length < 1000) (q : R a C dx fs) :
    ∃ a' C' dx' fs', V.ref a = .ref a' ∧ H a' = some (.ins C' dx' fs') ∧ Cls K C' ∧ NoAttr K C' f ∧ List.length fs' < 1000 ∧ R a' C' dx' fs' := ⟨a, C, dx, fs, rfl, h, c, n, l, q⟩
local macro_rules | `(tactic| walk_at "rd") => `(tactic| with_reducible refine' x_sfld ?_) --keep
section
variable {P : Program} {w : World} {K : PySem.W.Frag} {mg : Str → Option Value} {base : Heap}

def spMInit (K : PySem.W.Frag) (C : Addr) : Sp := fun vs H Q _ => ∃ (p dx D : Addr) (slots : List (Option Rw)) (outs : List Int) (lim : Int), vs = [.ref p, .ref D, .int lim] ∧ H p = some (.ins C dx []) ∧ HeapT K H D slots outs ∧ Wf slots outs ∧ ClR K C ∧
  ∀ H' aS aO aR aE aH aV ra, MS slots C H' p dx aS aO aR aE aH aV ra lim → MD slots H' H' aS aO aR aE aH aV ra outs (tal slots outs [] []) [] [] [] [] → Kx [p] H H' → (∀ b ∈ [aS, aO, aR, aE, aH, aV], H b = none) → (∀ (i : Nat) (r : Rw), slots[i]? = some (some r) → H (ra i) = none) → Q .non H'
theorem cntH_use (slots : List (Option Rw)) (m : Nat) : cntH slots [] m = useC slots m := by
  unfold cntH useC
  congr 1
  refine List.ext_getElem? fun i => ?_
  rw [List.getElem?_map, List.getElem?_map]
  by_cases hi : i < slots.length
  · rw [List.getElem?_range hi, List.getElem?_eq_getElem hi]
    simp only [Option.map_some, List.not_mem_nil, if_false]
    unfold rowOf
    rw [List.getElem?_eq_getElem hi]
    cases slots[i] <;> rfl
  · rw [List.getElem?_eq_none (by rw [List.length_range]; omega), List.getElem?_eq_none (by omega)]
    rfl
theorem counts_ref {slots : List (Option Rw)} {outs : List Int} : countsV slots outs = (List.range slots.length).map (refR slots (tal slots outs [] [])) := by
  unfold countsV
  refine List.map_congr_left fun m _ => ?_
  unfold countV refR tal
  rw [cntH_use, show pendC [] m = 0 from rfl]
  simp
theorem sqT_ins {S : List Addr} {H H' : Hp} {a p C dx : Addr} {fs : List (Str × V)} {xs : List V} (h : SqT K H a xs) (hp : H p = some (.ins C dx fs)) (k : Kx [p] H H') : SqT K H' a xs := by
  rcases h with h | h
  · refine .inl ?_
    rcases h with h | ⟨o, h⟩
    · exact .inl (k _ _ (fun z => by rw [List.mem_singleton.mp z, hp] at h; cases h) h)
    · exact .inr ⟨o, k _ _ (fun z => by rw [List.mem_singleton.mp z, hp] at h; cases h) h⟩
  · exact .inr h
theorem HeapT.kp {H H' : Hp} {D p C dx : Addr} {fs : List (Str × V)} {slots : List (Option Rw)} {outs : List Int} (h : HeapT K H D slots outs) (hp : H p = some (.ins C dx fs)) (k : Kx [p] H H') : HeapT K H' D slots outs := by
  obtain ⟨S, O, vs, h1, h2, h3, h4, h5⟩ := h.ex
  refine ⟨S, O, vs, sqT_ins (S := []) h1 hp k, sqT_ins (S := []) h2 hp k, sqT_ins (S := []) h3 hp k, h4, fun i o ho => ?_⟩
  rcases h5 i o ho with z | ⟨r, row, e1, e2, e3⟩
  · exact .inl z
  · exact .inr ⟨r, row, e1, e2, sqT_ins (S := []) e3 hp k⟩
def RaI (slots : List (Option Rw)) (as : List Addr) (i : Nat) : Prop := ∀ (j j' : Nat) (r r' : Rw), j < i → j' < i → slots[j]? = some (some r) → slots[j']? = some (some r') → as.getD j 0 = as.getD j' 0 → j = j'
theorem RaI.grow {slots : List (Option Rw)} {as : List Addr} {i : Nat} (h : RaI slots as i) (ha : as.length = i) {a : Addr} (hn : slots[i]? = some none ∨ ∀ (j : Nat) (r : Rw), j < i → slots[j]? = some (some r) → as.getD j 0 ≠ a) : RaI slots (as ++ [a]) (i + 1) := by
  have gold : ∀ j : Nat, j < i → (as ++ [a]).getD j 0 = as.getD j 0 := by
    intro j hj
    simp only [List.getD_eq_getElem?_getD]
    rw [List.getElem?_append_left (by omega)]
  have gnew : (as ++ [a]).getD i 0 = a := by
    simp only [List.getD_eq_getElem?_getD]
    rw [List.getElem?_append_right (by omega), ha, Nat.sub_self]
    rfl
  intro j j' r r' hj hj' hr hr' he
  rcases hn with hn | hn
  · have h1 : j ≠ i := fun z => by rw [z, hn] at hr; cases hr
    have h2 : j' ≠ i := fun z => by rw [z, hn] at hr'; cases hr'
    rw [gold j (by omega), gold j' (by omega)] at he
    exact h j j' r r' (by omega) (by omega) hr hr' he
  · by_cases h1 : j = i
    · by_cases h2 : j' = i
      · omega
      · subst h1
        rw [gnew, gold j' (by omega)] at he
        exact absurd he.symm (hn j' r' (by omega) hr')
    · by_cases h2 : j' = i
      · subst h2
        rw [gnew, gold j (by omega)] at he
        exact absurd he (hn j r (by omega) hr)
      · rw [gold j (by omega), gold j' (by omega)] at he
        exact h j j' r r' (by omega) (by omega) hr hr' he
def RaF (H : Hp) (slots : List (Option Rw)) (as : List Addr) (i : Nat) : Prop := ∀ (j : Nat) (r : Rw), j < i → slots[j]? = some (some r) → H (as.getD j 0) = none
theorem RaF.grow {H : Hp} {slots : List (Option Rw)} {as : List Addr} {i : Nat} (h : RaF H slots as i) (ha : as.length = i) {a : Addr} (hn : slots[i]? = some none ∨ H a = none) : RaF H slots (as ++ [a]) (i + 1) := by
  intro j r hj hr
  by_cases h1 : j = i
  · subst h1
    rcases hn with hn | hn
    · rw [hn] at hr
      cases hr
    · simp only [List.getD_eq_getElem?_getD]
      rw [List.getElem?_append_right (by omega), ha, Nat.sub_self]
      exact hn
  · simp only [List.getD_eq_getElem?_getD]
    rw [List.getElem?_append_left (by omega), ← List.getD_eq_getElem?_getD]
    exact h j r (by omega) hr
theorem ok_minit {C : Addr} {f : Addr} {fd : FuncData} (F : Fun K "__init__" "Releasing.__init__" sReleasingInit f fd) (T : Txt mg) (l_counts : Lo P w K mg base "counts" 2 ["heap"] (spCounts K)) : FnOk P w K mg base CX0 3 f fd ["self", "heap", "limit"] (spMInit K C) := by
  refine F.ok scReleasingInit (fun vs H Q E h => ?_) (fun cdv A outer s H vs Q E hr h => ?_)
  · obtain ⟨p, dx, D, slots, outs, lim, rfl, _⟩ := h
    rfl
  · obtain ⟨p, dx, D, slots, outs, lim, rfl, hins, hT, wf, hC, k⟩ := h
    obtain ⟨S, O, vs, hD, hS, hO, hl, hv⟩ := id hT.ex
    refine ⟨_, (pss_cons (ps_fld (pv 0) (pe_lc (own := [("row", 3)]) rfl scReleasingInit.nd (pi_tup (pe_ix ix_tup (pv 1) pe_int (fun _ _ => rfl))) (blkOk_by (N := ["self", "heap", "limit", "row"]) (sc := defScope sReleasingInit) (by decide +kernel)) (fun _ _ _ _ _ => (pg_name (i := 3) scReleasingInit.nd rfl (Or.inl rfl))) (fun _ _ _ _ _ => pts_nil) (fun _ _ _ _ _ => (pe_ifExp (pt_cmpR op_isN1 (pv 3) pe_non (nomark _)) pe_non (pe_callTy (call_list_ofK (K := K)) (by rfl) T.b_list boot'_list (pa_cons (pv 3) pa_nil))))) rfl)
      (pss_cons (ps_fld (pv 0) (pe_callTy call_list_of (by rfl) T.b_list boot'_list (pa_cons (pe_ix ix_tup (pv 1) pe_int (fun _ _ => rfl)) pa_nil)) rfl)
      (pss_cons (ps_fld (pv 0) (pe_callTy call_list_of (by rfl) T.b_list boot'_list (pa_cons (pe_lo l_counts (hr.mono (by decide)) (by rfl) (pa_cons (pv 1) pa_nil)) pa_nil)) rfl)
      (pss_cons (ps_fld (pv 0) (pv 2) rfl)
      (pss_cons (ps_fld (pv 0) (pe_lst pa_nil) rfl)
      (pss_cons (ps_fld (pv 0) (pe_lst pa_nil) rfl)
      (pss_one (ps_fld (pv 0) (pe_lst pa_nil) rfl)))))))), ?_⟩
    refine x_start (σ' := [some (.ref p), some (.ref D), some (.int lim), none]) rfl ?_
    dsimp only [cxOf]
    have h40 := wf.most
    repeat walk_at "rd"
    refine y_lcT (xs := vs) hS (fun Z nZ => ⟨fun i H1 => Kx [] H H1 ∧ ∃ as : List Addr, as.length = i ∧ H1 Z = some (.lst ((List.range i).map (slotR slots (fun j => as.getD j 0) []))) ∧
      (∀ (j : Nat) (row : Rw), j < i → slots[j]? = some (some row) → H1 (as.getD j 0) = some (.lst (rowV row)) ∧ as.getD j 0 ≠ Z) ∧ RaI slots as i ∧ RaF H slots as i, ⟨(Kx.refl _ _).new nZ, [], rfl, upd_same, fun j row hj => absurd hj (Nat.not_lt_zero _), fun j _ _ _ hj => absurd hj (Nat.not_lt_zero _), fun j _ hj => absurd hj (Nat.not_lt_zero _)⟩, ?_, ?_, ?_⟩)
    · rintro i H1 hi ⟨k1, _⟩
      exact k1.sqT (by simp) hS
    · rintro i x H1 H1' hi ⟨k1, as, ha, e1, hr1, hin, hfr⟩ ⟨rfl, hx⟩
      have hs : i < slots.length := by omega
      have es := List.getElem?_eq_getElem hs
      have grow : ∀ a : Addr, (List.range (i + 1)).map (slotR slots (fun j => (as ++ [a]).getD j 0) []) = (List.range i).map (slotR slots (fun j => as.getD j 0) []) ++ [slotR slots (fun _ => a) [] i] := by
        intro a
        rw [List.range_succ, List.map_append]
        congr 1
        · refine List.map_congr_left fun j hj => ?_
          have := List.mem_range.mp hj
          unfold slotR
          simp only [List.getD_eq_getElem?_getD]
          rw [List.getElem?_append_left (by omega)]
        · simp only [List.map_cons, List.map_nil]
          unfold slotR
          simp only [List.getD_eq_getElem?_getD]
          rw [List.getElem?_append_right (by omega), ha, Nat.sub_self]
          rfl
      have gold : ∀ (a : Addr) (j : Nat), j < i → (as ++ [a]).getD j 0 = as.getD j 0 := by
        intro a j hj
        simp only [List.getD_eq_getElem?_getD]
        rw [List.getElem?_append_left (by omega)]
      have gnew : ∀ a : Addr, (as ++ [a]).getD i 0 = a := by
        intro a
        simp only [List.getD_eq_getElem?_getD]
        rw [List.getElem?_append_right (by omega), ha, Nat.sub_self]
        rfl
      repeat walk_at "rd"
      refine ⟨rfl, ?_⟩
      repeat walk_at "rd"
      rcases hv i _ es with ⟨e, z⟩ | ⟨r, row, e, z, hR⟩
      · cases Option.some.inj (z.symm.trans hx)
        refine iteT ?_
        repeat walk_at "rd"
        refine ⟨_, e1, small1000 (by rw [List.length_map, List.length_range]; omega), k1.wr (.inl nZ), as ++ [0], by rw [List.length_append, ha]; rfl, ?_, ?_, hin.grow ha (.inl (by rw [es, e])), hfr.grow ha (.inl (by rw [es, e]))⟩
        · rw [upd_same, grow, show slotR slots (fun _ => 0) [] i = V.non by unfold slotR; rw [if_neg]; simp [isLive, es, e]]
        · intro j row hj hjr
          by_cases hji : j = i
          · subst hji
            rw [es, e] at hjr
            cases hjr
          · rw [gold _ _ (by omega)]
            obtain ⟨h1, h2⟩ := hr1 j row (by omega) hjr
            exact ⟨lk_ne2 h2 h1, h2⟩
      · cases Option.some.inj (z.symm.trans hx)
        have hR1 := k1.sqT (by simp) hR
        refine iteF ?_
        repeat walk_at "rd"
        intro a na
        have naZ : a ≠ Z := (ne_of_none e1 na).symm
        refine ⟨_, lk_ne e1 na, small1000 (by rw [List.length_map, List.length_range]; omega), (k1.new na).wr (.inl nZ), as ++ [a], by rw [List.length_append, ha]; rfl, ?_, ?_, hin.grow ha (.inr fun j r hj hjr => ne_of_none (hr1 j r hj hjr).1 na), hfr.grow ha (.inr (k1.fresh (by simp) na))⟩
        · rw [upd_same, grow, show slotR slots (fun _ => a) [] i = V.ref a by unfold slotR; rw [if_pos]; simp [isLive, es, e]]
        · intro j row' hj hjr
          by_cases hji : j = i
          · subst hji
            rw [es, e] at hjr
            cases Option.some.inj (Option.some.inj hjr)
            rw [gnew]
            exact ⟨lk_ne2 naZ upd_same, naZ⟩
          · rw [gold _ _ (by omega)]
            obtain ⟨h1, h2⟩ := hr1 j row' (by omega) hjr
            exact ⟨lk_ne2 h2 (lk_ne h1 na), h2⟩
    rintro H1 ⟨k1, as, ha, eS, hrows, hin, hfr⟩
    rw [hl] at eS
    have hp1 := k1 p _ (by simp) hins
    repeat walk_at "rd"
    refine x_insS hp1 hC.cl hC.n_slots (by simp) ?_
    rw [pf1]
    have nZp : Z ≠ p := fun z => by rw [z, hins] at nZ; cases nZ
    have k2 : Kx [p] H (upd H1 p (.ins C dx [("slots", .ref Z)])) := (k1.mono (by simp)).wr (.inr (by simp))
    have hp2 : (upd H1 p (.ins C dx [("slots", .ref Z)])) p = some (.ins C dx [("slots", .ref Z)]) := upd_same
    have eS2 := lk_ne2 (p := p) (o := .ins C dx [("slots", .ref Z)]) nZp eS
    have rows2 : ∀ (j : Nat) (row : Rw), j < vs.length → slots[j]? = some (some row) → (upd H1 p (.ins C dx [("slots", .ref Z)])) (as.getD j 0) = some (.lst (rowV row)) ∧ as.getD j 0 ≠ Z := fun j row hj hjr => by
      obtain ⟨h1, h2⟩ := hrows j row hj hjr
      exact ⟨lk_ne2 (fun z => by rw [z, hp1] at h1; cases h1) h1, h2⟩
    generalize upd H1 p (.ins C dx [("slots", .ref Z)]) = H2 at *
    clear hrows eS hp1 k1
    have hT2 := hT.kp hins k2
    obtain ⟨S2, O2, vs2, hD2, _, hO2, _⟩ := id hT2.ex
    repeat walk_at "rd"
    intro aO nO
    repeat walk_at "rd"
    refine x_insS (lk_ne hp2 nO) hC.cl hC.n_outside (by simp) ?_
    rw [pf2]
    have npO : p ≠ aO := ne_of_none hp2 nO
    have nSO : Z ≠ aO := ne_of_none eS2 nO
    have k3 := (k2.new (o := .lst (outs.map V.int)) nO).wr (p := p) (o := .ins C dx [("slots", .ref Z), ("outside", .ref aO)]) (.inr (by simp))
    have hp3 : (upd (upd H2 aO (.lst (outs.map V.int))) p (.ins C dx [("slots", .ref Z), ("outside", .ref aO)])) p = some (.ins C dx [("slots", .ref Z), ("outside", .ref aO)]) := upd_same
    have eS3 := lk_ne2 (p := p) (o := .ins C dx [("slots", .ref Z), ("outside", .ref aO)]) nZp (lk_ne (o := .lst (outs.map V.int)) eS2 nO)
    have eO3 := lk_ne2 (p := p) (o := .ins C dx [("slots", .ref Z), ("outside", .ref aO)]) npO.symm (upd_same (H := H2) (a := aO) (o := .lst (outs.map V.int)))
    have rows3 : ∀ (j : Nat) (row : Rw), j < vs.length → slots[j]? = some (some row) → (upd (upd H2 aO (.lst (outs.map V.int))) p (.ins C dx [("slots", .ref Z), ("outside", .ref aO)])) (as.getD j 0) = some (.lst (rowV row)) ∧ as.getD j 0 ≠ Z ∧ as.getD j 0 ≠ aO := fun j row hj hjr => by
      obtain ⟨h1, h2⟩ := rows2 j row hj hjr
      exact ⟨lk_ne2 (fun z => by rw [z, hp2] at h1; cases h1) (lk_ne h1 nO), h2, ne_of_none h1 nO⟩
    have nO0 : H aO = none := by
      have := k2.fresh (by simpa using npO.symm) nO
      exact this
    generalize (upd (upd H2 aO (.lst (outs.map V.int))) p (.ins C dx [("slots", .ref Z), ("outside", .ref aO)])) = H3 at *
    clear rows2 eS2 hp2 k2 hT2 hD2 hO2
    have hT3 := hT.kp hins k3
    repeat walk_at "rd"
    refine ⟨D, slots, outs, rfl, hT3, wf, fun cp H4 ncp k4 eC => ?_⟩
    have hp4 := k4 p _ (by simp) hp3
    have eS4 := k4 Z _ (by simp) eS3
    have eO4 := k4 aO _ (by simp) eO3
    have k04 := k3.trans (k4.mono (by simp))
    rw [counts_ref] at eC
    repeat walk_at "rd"
    intro aR nR
    repeat walk_at "rd"
    refine x_insS (lk_ne hp4 nR) hC.cl hC.n_references (by simp) ?_
    rw [pf3]
    have npR : p ≠ aR := ne_of_none hp4 nR
    have nSR : Z ≠ aR := ne_of_none eS4 nR
    have nOR : aO ≠ aR := ne_of_none eO4 nR
    have nR0 : H aR = none := k04.fresh (by simpa using npR.symm) nR
    generalize hfR : (List.range slots.length).map (refR slots (tal slots outs [] [])) = refs at *
    have k5 := (k04.new (o := .lst refs) nR).wr (p := p) (o := .ins C dx [("slots", .ref Z), ("outside", .ref aO), ("references", .ref aR)]) (.inr (by simp))
    have hp5 : (upd (upd H4 aR (.lst refs)) p (.ins C dx [("slots", .ref Z), ("outside", .ref aO), ("references", .ref aR)])) p = some (.ins C dx [("slots", .ref Z), ("outside", .ref aO), ("references", .ref aR)]) := upd_same
    have eS5 := lk_ne2 (p := p) (o := .ins C dx [("slots", .ref Z), ("outside", .ref aO), ("references", .ref aR)]) nZp (lk_ne (o := .lst refs) eS4 nR)
    have eO5 := lk_ne2 (p := p) (o := .ins C dx [("slots", .ref Z), ("outside", .ref aO), ("references", .ref aR)]) npO.symm (lk_ne (o := .lst refs) eO4 nR)
    have eR5 := lk_ne2 (p := p) (o := .ins C dx [("slots", .ref Z), ("outside", .ref aO), ("references", .ref aR)]) npR.symm (upd_same (H := H4) (a := aR) (o := .lst refs))
    have rows5 : ∀ (j : Nat) (row : Rw), j < vs.length → slots[j]? = some (some row) → (upd (upd H4 aR (.lst refs)) p (.ins C dx [("slots", .ref Z), ("outside", .ref aO), ("references", .ref aR)])) (as.getD j 0) = some (.lst (rowV row)) ∧ as.getD j 0 ≠ Z ∧ as.getD j 0 ≠ aO ∧ as.getD j 0 ≠ aR := fun j row hj hjr => by
      obtain ⟨h1, h2, h3⟩ := rows3 j row hj hjr
      have h4 := k4 _ _ (by simp) h1
      exact ⟨lk_ne2 (fun z => by rw [z, hp4] at h4; cases h4) (lk_ne h4 nR), h2, h3, ne_of_none h4 nR⟩
    generalize (upd (upd H4 aR (.lst refs)) p (.ins C dx [("slots", .ref Z), ("outside", .ref aO), ("references", .ref aR)])) = H5 at *
    clear rows3 eS4 eO4 hp4 k04 eS3 eO3 hp3 k3 k4 eC hT3
    repeat walk_at "rd"
    refine x_insS hp5 hC.cl hC.n_limit (by simp) ?_
    rw [pf4]
    have k6 := k5.wr (p := p) (o := .ins C dx [("slots", .ref Z), ("outside", .ref aO), ("references", .ref aR), ("limit", .int lim)]) (.inr (by simp))
    have hp6 : (upd H5 p (.ins C dx [("slots", .ref Z), ("outside", .ref aO), ("references", .ref aR), ("limit", .int lim)])) p = some _ := upd_same
    have eS6 := lk_ne2 (p := p) (o := .ins C dx [("slots", .ref Z), ("outside", .ref aO), ("references", .ref aR), ("limit", .int lim)]) nZp eS5
    have eO6 := lk_ne2 (p := p) (o := .ins C dx [("slots", .ref Z), ("outside", .ref aO), ("references", .ref aR), ("limit", .int lim)]) npO.symm eO5
    have eR6 := lk_ne2 (p := p) (o := .ins C dx [("slots", .ref Z), ("outside", .ref aO), ("references", .ref aR), ("limit", .int lim)]) npR.symm eR5
    have rows6 : ∀ (j : Nat) (row : Rw), j < vs.length → slots[j]? = some (some row) → (upd H5 p (.ins C dx [("slots", .ref Z), ("outside", .ref aO), ("references", .ref aR), ("limit", .int lim)])) (as.getD j 0) = some (.lst (rowV row)) := fun j row hj hjr => by
      have h1 := (rows5 j row hj hjr).1
      exact lk_ne2 (fun z => by rw [z, hp5] at h1; cases h1) h1
    generalize (upd H5 p (.ins C dx [("slots", .ref Z), ("outside", .ref aO), ("references", .ref aR), ("limit", .int lim)])) = H6 at *
    repeat walk_at "rd"
    rename_i aE nE
    refine x_insS (lk_ne hp6 nE) hC.cl hC.n_emptied (by simp) ?_
    rw [pf5]
    have npE : p ≠ aE := ne_of_none hp6 nE
    have nE0 : H aE = none := k6.fresh (by simpa using npE.symm) nE
    have nSE : Z ≠ aE := ne_of_none eS6 nE
    have nOE : aO ≠ aE := ne_of_none eO6 nE
    have nRE : aR ≠ aE := ne_of_none eR6 nE
    have k7 := (k6.new (o := .lst []) nE).wr (p := p) (o := .ins C dx [("slots", .ref Z), ("outside", .ref aO), ("references", .ref aR), ("limit", .int lim), ("emptied", .ref aE)]) (.inr (by simp))
    have hp7 : (upd (upd H6 aE (.lst [])) p (.ins C dx [("slots", .ref Z), ("outside", .ref aO), ("references", .ref aR), ("limit", .int lim), ("emptied", .ref aE)])) p = some _ := upd_same
    have eS7 := lk_ne2 (p := p) (o := .ins C dx [("slots", .ref Z), ("outside", .ref aO), ("references", .ref aR), ("limit", .int lim), ("emptied", .ref aE)]) nZp (lk_ne (o := .lst []) eS6 nE)
    have eO7 := lk_ne2 (p := p) (o := .ins C dx [("slots", .ref Z), ("outside", .ref aO), ("references", .ref aR), ("limit", .int lim), ("emptied", .ref aE)]) npO.symm (lk_ne (o := .lst []) eO6 nE)
    have eR7 := lk_ne2 (p := p) (o := .ins C dx [("slots", .ref Z), ("outside", .ref aO), ("references", .ref aR), ("limit", .int lim), ("emptied", .ref aE)]) npR.symm (lk_ne (o := .lst []) eR6 nE)
    have eE7 := lk_ne2 (p := p) (o := .ins C dx [("slots", .ref Z), ("outside", .ref aO), ("references", .ref aR), ("limit", .int lim), ("emptied", .ref aE)]) npE.symm (upd_same (H := H6) (a := aE) (o := .lst []))
    have rows7 : ∀ (j : Nat) (row : Rw), j < vs.length → slots[j]? = some (some row) → (upd (upd H6 aE (.lst [])) p (.ins C dx [("slots", .ref Z), ("outside", .ref aO), ("references", .ref aR), ("limit", .int lim), ("emptied", .ref aE)])) (as.getD j 0) = some (.lst (rowV row)) ∧ as.getD j 0 ≠ aE := fun j row hj hjr => by
      have h1 := rows6 j row hj hjr
      exact ⟨lk_ne2 (fun z => by rw [z, hp6] at h1; cases h1) (lk_ne h1 nE), ne_of_none h1 nE⟩
    generalize (upd (upd H6 aE (.lst [])) p (.ins C dx [("slots", .ref Z), ("outside", .ref aO), ("references", .ref aR), ("limit", .int lim), ("emptied", .ref aE)])) = H7 at *
    repeat walk_at "rd"
    rename_i aH nH
    refine x_insS (lk_ne hp7 nH) hC.cl hC.n_shelf (by simp) ?_
    rw [pf6]
    have npH : p ≠ aH := ne_of_none hp7 nH
    have nH0 : H aH = none := k7.fresh (by simpa using npH.symm) nH
    have nSH : Z ≠ aH := ne_of_none eS7 nH
    have nOH : aO ≠ aH := ne_of_none eO7 nH
    have nRH : aR ≠ aH := ne_of_none eR7 nH
    have nEH : aE ≠ aH := ne_of_none eE7 nH
    have k8 := (k7.new (o := .lst []) nH).wr (p := p) (o := .ins C dx [("slots", .ref Z), ("outside", .ref aO), ("references", .ref aR), ("limit", .int lim), ("emptied", .ref aE), ("shelf", .ref aH)]) (.inr (by simp))
    have hp8 : (upd (upd H7 aH (.lst [])) p (.ins C dx [("slots", .ref Z), ("outside", .ref aO), ("references", .ref aR), ("limit", .int lim), ("emptied", .ref aE), ("shelf", .ref aH)])) p = some _ := upd_same
    have eS8 := lk_ne2 (p := p) (o := .ins C dx [("slots", .ref Z), ("outside", .ref aO), ("references", .ref aR), ("limit", .int lim), ("emptied", .ref aE), ("shelf", .ref aH)]) nZp (lk_ne (o := .lst []) eS7 nH)
    have eO8 := lk_ne2 (p := p) (o := .ins C dx [("slots", .ref Z), ("outside", .ref aO), ("references", .ref aR), ("limit", .int lim), ("emptied", .ref aE), ("shelf", .ref aH)]) npO.symm (lk_ne (o := .lst []) eO7 nH)
    have eR8 := lk_ne2 (p := p) (o := .ins C dx [("slots", .ref Z), ("outside", .ref aO), ("references", .ref aR), ("limit", .int lim), ("emptied", .ref aE), ("shelf", .ref aH)]) npR.symm (lk_ne (o := .lst []) eR7 nH)
    have eE8 := lk_ne2 (p := p) (o := .ins C dx [("slots", .ref Z), ("outside", .ref aO), ("references", .ref aR), ("limit", .int lim), ("emptied", .ref aE), ("shelf", .ref aH)]) npE.symm (lk_ne (o := .lst []) eE7 nH)
    have eH8 := lk_ne2 (p := p) (o := .ins C dx [("slots", .ref Z), ("outside", .ref aO), ("references", .ref aR), ("limit", .int lim), ("emptied", .ref aE), ("shelf", .ref aH)]) npH.symm (upd_same (H := H7) (a := aH) (o := .lst []))
    have rows8 : ∀ (j : Nat) (row : Rw), j < vs.length → slots[j]? = some (some row) → (upd (upd H7 aH (.lst [])) p (.ins C dx [("slots", .ref Z), ("outside", .ref aO), ("references", .ref aR), ("limit", .int lim), ("emptied", .ref aE), ("shelf", .ref aH)])) (as.getD j 0) = some (.lst (rowV row)) ∧ as.getD j 0 ≠ aH := fun j row hj hjr => by
      have h1 := (rows7 j row hj hjr).1
      exact ⟨lk_ne2 (fun z => by rw [z, hp7] at h1; cases h1) (lk_ne h1 nH), ne_of_none h1 nH⟩
    generalize (upd (upd H7 aH (.lst [])) p (.ins C dx [("slots", .ref Z), ("outside", .ref aO), ("references", .ref aR), ("limit", .int lim), ("emptied", .ref aE), ("shelf", .ref aH)])) = H8 at *
    repeat walk_at "rd"
    rename_i aV nV
    refine x_insS (lk_ne hp8 nV) hC.cl hC.n_events (by simp) ?_
    rw [pf7]
    have npV : p ≠ aV := ne_of_none hp8 nV
    have nV0 : H aV = none := k8.fresh (by simpa using npV.symm) nV
    have nSV : Z ≠ aV := ne_of_none eS8 nV
    have nOV : aO ≠ aV := ne_of_none eO8 nV
    have nRV : aR ≠ aV := ne_of_none eR8 nV
    have nEV : aE ≠ aV := ne_of_none eE8 nV
    have nHV : aH ≠ aV := ne_of_none eH8 nV
    have k9 := (k8.new (o := .lst []) nV).wr (p := p) (o := .ins C dx (mf Z aO aR lim aE aH aV)) (.inr (by simp))
    subst hfR
    have hl' : ∀ {j : Nat} {row : Rw}, slots[j]? = some (some row) → j < vs.length := fun {j row} hj => by
      have := (List.getElem?_eq_some_iff.mp hj).1
      omega
    refine k _ Z aO aR aE aH aV (fun j => as.getD j 0) ⟨upd_same, fun j row hj => ?_, ?_, ?_, fun i j r r' hi hj he => hin i j r r' (hl' hi) (hl' hj) hi hj he⟩ ⟨Kx.refl _ _, lk_ne2 nZp (lk_ne eS8 nV), lk_ne2 npO.symm (lk_ne eO8 nV), lk_ne2 npR.symm (lk_ne eR8 nV), ⟨[], lk_ne2 npE.symm (lk_ne eE8 nV), .nil⟩, lk_ne2 npH.symm (lk_ne eH8 nV), ⟨[], lk_ne2 npV.symm upd_same, .nil⟩⟩ k9 ?_ (fun i r hi => hfr i r (hl' hi) hi)
    · obtain ⟨h1, h2⟩ := rows8 j row (hl' hj) hj
      obtain ⟨_, g1, g2, g3⟩ := rows5 j row (hl' hj) hj
      have g4 := (rows7 j row (hl' hj) hj).2
      refine ⟨lk_ne2 (fun z => by rw [z, hp8] at h1; cases h1) (lk_ne h1 nV), ?_⟩
      have g5 := ne_of_none h1 nV
      simp only [List.mem_cons, List.not_mem_nil, or_false, not_or]
      exact ⟨g1, g2, g3, g4, h2, g5⟩
    · simp only [List.nodup_cons, List.mem_cons, List.not_mem_nil, or_false, not_or, not_false_eq_true, List.nodup_nil, and_true]
      exact ⟨⟨nSO, nSR, nSE, nSH, nSV⟩, ⟨nOR, nOE, nOH, nOV⟩, ⟨nRE, nRH, nRV⟩, ⟨nEH, nEV⟩, nHV⟩
    · simp only [List.mem_cons, List.not_mem_nil, or_false, not_or]
      exact ⟨nZp.symm, npO, npR, npE, npH, npV⟩
    · intro b hb
      simp only [List.mem_cons, List.not_mem_nil, or_false] at hb
      rcases hb with rfl | rfl | rfl | rfl | rfl | rfl
      · exact nZ
      · exact nO0
      · exact nR0
      · exact nE0
      · exact nH0
      · exact nV0
end


def afterS (slots : List (Option Rw)) (log : List Nat) : List (Option Rw) := (List.range slots.length).map fun i => if i ∈ log then none else (slots[i]?).getD none
def sizesOf (evs : List Ev) : List Int := evs.filterMap Ev.size
/-- the greatest of them, 0 for none -/
def IsPeak (ns : List Int) (k : Int) : Prop := (ns = [] ∧ k = 0) ∨ (k ∈ ns ∧ ∀ b ∈ ns, b ≤ k)
section
variable {P : Program} {w : World} {K : PySem.W.Frag} {mg : Str → Option Value} {base : Heap}

theorem x_maxP {H : Hp} {Q : VK} {a : Addr} {ns : List Int} (h : SqL K H a (ns.map V.int)) (q : ∀ m, IsPeak ns m → Q (.int m) H) : rMaxD K [.ref a] [.int 0] H Q := ⟨a, ns, 0, rfl, rfl, h, fun e => q 0 (.inl ⟨e, rfl⟩), fun m h1 h2 => q m (.inr ⟨h1, h2⟩)⟩
theorem afterS_len (slots : List (Option Rw)) (log : List Nat) : (afterS slots log).length = slots.length := by
  unfold afterS
  rw [List.length_map, List.length_range]
theorem filterMap_take_succ {β : Type} {evs : List Ev} {g : Ev → Option β} {i : Nat} {e : Ev} (h : evs[i]? = some e) : (evs.take (i + 1)).filterMap g = (evs.take i).filterMap g ++ (g e).toList := by
  rw [List.take_add_one, h, List.filterMap_append]
  cases hg : g e <;> simp [hg]
theorem ev_ne {a b : String} (h : ¬ (Str.ofString a = Str.ofString b)) : decide (V.str (Str.ofString a) = V.str (Str.ofString b)) = false := decide_eq_false fun e => h (V.str.inj e)
def spResult (K : PySem.W.Frag) (C : Addr) : Sp := fun vs H Q _ => ∃ (slots : List (Option Rw)) (H1 : Hp) (p dx aS aO aR aE aH aV : Addr) (ra : Nat → Addr) (lim : Int) (outs : List Int) (tf : Nat → Int) (log : List Nat) (evs : List Ev),
  vs = [.ref p] ∧ MS slots C H1 p dx aS aO aR aE aH aV ra lim ∧ MD slots H1 H aS aO aR aE aH aV ra outs tf log [] [] evs ∧ ClR K C ∧ log = evs.filterMap Ev.dead ∧ evs.length ≤ 100000 ∧ slots.length ≤ 40 ∧
  ∀ B L X k H', Kx [] H H' → SqT K H' B [.ref L, .int k, .ref X] → SqT K H' L (log.map fun n : Nat => V.int n) → IsPeak (sizesOf evs) k → HeapT K H' X (afterS slots log) outs → Q (.ref B) H'
theorem ok_result {C : Addr} {f : Addr} {fd : FuncData} (F : Fun K "result" "Releasing.result" sReleasingResult f fd) (T : Txt mg) : FnOk P w K mg base CX0 1 f fd ["self"] (spResult K C) := by
  refine F.ok scReleasingResult (fun vs H Q E h => ?_) (fun cdv A outer s H vs Q E hr h => ?_)
  · obtain ⟨slots, H1, p, dx, aS, aO, aR, aE, aH, aV, ra, lim, outs, tf, log, evs, rfl, _⟩ := h
    rfl
  · obtain ⟨slots, H1, p, dx, aS, aO, aR, aE, aH, aV, ra, lim, outs, tf, log, evs, rfl, ms, md, hC, hlog, hsz, h40, k⟩ := h
    refine ⟨_, (pss_cons (ps_setLc (i := 1) (own := [("event", 4)]) rfl scReleasingResult.nd rfl rfl (sw_true rfl rfl rfl (by decide +kernel)) (pi_list (pe_fld (pv 0) rfl)) (blkOk_by (N := ["self", "log", "peak", "rows", "event", "row"]) (sc := defScope sReleasingResult) (by decide +kernel)) (fun _ _ _ _ _ => (pg_name (i := 4) scReleasingResult.nd rfl (Or.inl rfl))) (fun _ _ _ _ _ => (pts_one (pt_cmpR op_eq (pe_ix (ix_tupK (K := K)) (pv 4) pe_int (fun _ _ => rfl)) pe_str (nomark _)))) (fun _ _ _ _ _ => (pe_ix (ix_tupK (K := K)) (pv 4) pe_int (fun _ _ => rfl))))
      (pss_cons (ps_set (i := 2) scReleasingResult.nd rfl (Or.inl rfl) (pe_callBK (cr_maxD rfl) (by rfl) T.b_max boot'_max (pa_cons (pe_lc (own := [("event", 4)]) rfl scReleasingResult.nd (pi_list (pe_fld (pv 0) rfl)) (blkOk_by (N := ["self", "log", "peak", "rows", "event", "row"]) (sc := defScope sReleasingResult) (by decide +kernel)) (fun _ _ _ _ _ => (pg_name (i := 4) scReleasingResult.nd rfl (Or.inl rfl))) (fun _ _ _ _ _ => (pts_one (pt_cmpR op_eq (pe_ix (ix_tupK (K := K)) (pv 4) pe_int (fun _ _ => rfl)) pe_str (nomark _)))) (fun _ _ _ _ _ => (pe_ix (ix_tupK (K := K)) (pv 4) pe_int (fun _ _ => rfl)))) pa_nil) (pk_cons pe_int pk_nil)))
      (pss_cons (ps_setLc (i := 3) (own := [("row", 5)]) rfl scReleasingResult.nd rfl rfl (sw_true rfl rfl rfl (by decide +kernel)) (pi_list (pe_fld (pv 0) rfl)) (blkOk_by (N := ["self", "log", "peak", "rows", "event", "row"]) (sc := defScope sReleasingResult) (by decide +kernel)) (fun _ _ _ _ _ => (pg_name (i := 5) scReleasingResult.nd rfl (Or.inl rfl))) (fun _ _ _ _ _ => pts_nil) (fun _ _ _ _ _ => (pe_ifExp (pt_cmpR op_isN1 (pv 5) pe_non (nomark _)) pe_non (pe_callTy (call_tuple_ofK (K := K)) (by rfl) T.b_tuple boot'_tuple (pa_cons (pv 5) pa_nil)))))
      (pss_one (ps_ret (pe_tup (pa_cons (pe_callTy call_tuple_of (by rfl) T.b_tuple boot'_tuple (pa_cons (pv 1) pa_nil)) (pa_cons (pv 2) (pa_cons (pe_tup (pa_cons (pe_callTy call_tuple_of (by rfl) T.b_tuple boot'_tuple (pa_cons (pv 3) pa_nil)) (pa_cons (pe_callTy call_tuple_of (by rfl) T.b_tuple boot'_tuple (pa_cons (pe_fld (pv 0) rfl) pa_nil)) pa_nil))) pa_nil))))))))), ?_⟩
    refine x_start (σ' := [some (.ref p), none, none, none, none, none]) rfl ?_
    dsimp only [cxOf]
    have hins := md.k _ _ ms.pW ms.ins
    obtain ⟨us, eV, tV⟩ := md.eV
    have hul : us.length = evs.length := by rw [tV.len, List.length_map]
    repeat walk_at "rd"
    refine y_lcL (xs := us.map V.ref) (SqL.of eV) (fun Z nZ => ⟨fun i H2 => Kx [] H H2 ∧ H2 Z = some (.lst (((evs.take i).filterMap Ev.dead).map fun n : Nat => V.int n)), ⟨(Kx.refl _ _).new nZ, upd_same⟩, ?_, ?_, ?_⟩)
    · rintro i H2 hi ⟨k2, _⟩
      exact k2.sqL (by simp) (SqL.of eV)
    · rintro i x H2 H2' hi ⟨k2, e2⟩ ⟨rfl, hx⟩
      rw [List.length_map] at hi
      have hie : i < evs.length := by omega
      have ee := List.getElem?_eq_getElem hie
      obtain ⟨t, et, ht⟩ := tV.at_ i (evV evs[i]) (by rw [List.getElem?_map, ee]; rfl)
      rw [List.getElem?_map, et] at hx
      cases Option.some.inj hx
      have ht2 := k2 t _ (by simp) ht
      have hf := filterMap_take_succ (g := Ev.dead) ee
      have hz : (((evs.take i).filterMap Ev.dead).map fun n : Nat => V.int n).length < sizeLine := big_line (by
        rw [List.length_map]
        refine Nat.le_trans (List.length_filterMap_le _ _) ?_
        rw [List.length_take]
        omega)
      cases hev : evs[i] with
      | destroy n d =>
        rw [hev] at ht2 hf
        replace ht2 : H2' t = some (.tup [.str "destroy", .int n, .int d]) := ht2
        repeat walk_at "rd"
        refine ⟨rfl, ?_⟩
        repeat walk_at "rd"
        refine iteP (by simp) ?_
        repeat walk_at "rd"
        refine ⟨_, e2, hz, k2.wr (.inl nZ), ?_⟩
        rw [upd_same, hf, List.map_append]
        rfl
      | release h s n l =>
        rw [hev] at ht2 hf
        replace ht2 : H2' t = some (.tup [.str "release", optV h, optV s, .int n, .int l]) := ht2
        repeat walk_at "rd"
        refine ⟨rfl, ?_⟩
        repeat walk_at "rd"
        refine iteN (ev_ne (by decide)) ⟨k2, ?_⟩
        rw [hf]
        simpa [Ev.dead] using e2
      | shelve n s =>
        rw [hev] at ht2 hf
        replace ht2 : H2' t = some (.tup [.str "shelve", .int n, .int s]) := ht2
        repeat walk_at "rd"
        refine ⟨rfl, ?_⟩
        repeat walk_at "rd"
        refine iteN (ev_ne (by decide)) ⟨k2, ?_⟩
        rw [hf]
        simpa [Ev.dead] using e2
      | take n s =>
        rw [hev] at ht2 hf
        replace ht2 : H2' t = some (.tup [.str "take", .int n, .int s]) := ht2
        repeat walk_at "rd"
        refine ⟨rfl, ?_⟩
        repeat walk_at "rd"
        refine iteN (ev_ne (by decide)) ⟨k2, ?_⟩
        rw [hf]
        simpa [Ev.dead] using e2
    rintro H2 ⟨k2, eZ⟩
    rw [List.length_map, hul, List.take_length, ← hlog] at eZ
    have md2 := md.keep k2
    have hins2 := k2 p _ (by simp) hins
    have eV2 := k2 aV _ (by simp) eV
    have tV2 := tV.kx k2 (by simp)
    repeat walk_at "rd"
    have md3 := md2
    refine y_lcL (xs := us.map V.ref) (SqL.of eV2) (fun W nW => ⟨fun i H3 => Kx [] H2 H3 ∧ H3 W = some (.lst (((evs.take i).filterMap Ev.size).map V.int)), ⟨(Kx.refl _ _).new nW, upd_same⟩, ?_, ?_, ?_⟩)
    · rintro i H3 hi ⟨k3, _⟩
      exact k3.sqL (by simp) (SqL.of eV2)
    · rintro i x H3 H3' hi ⟨k3, e3⟩ ⟨rfl, hx⟩
      rw [List.length_map] at hi
      have hie : i < evs.length := by omega
      have ee := List.getElem?_eq_getElem hie
      obtain ⟨t, et, ht⟩ := tV2.at_ i (evV evs[i]) (by rw [List.getElem?_map, ee]; rfl)
      rw [List.getElem?_map, et] at hx
      cases Option.some.inj hx
      have ht2 := k3 t _ (by simp) ht
      have hf := filterMap_take_succ (g := Ev.size) ee
      have hz : (((evs.take i).filterMap Ev.size).map V.int).length < sizeLine := big_line (by
        rw [List.length_map]
        refine Nat.le_trans (List.length_filterMap_le _ _) ?_
        rw [List.length_take]
        omega)
      cases hev : evs[i] with
      | destroy n d =>
        rw [hev] at ht2 hf
        replace ht2 : H3' t = some (.tup [.str "destroy", .int n, .int d]) := ht2
        repeat walk_at "rd"
        refine ⟨rfl, ?_⟩
        repeat walk_at "rd"
        refine iteN (ev_ne (by decide)) ⟨k3, ?_⟩
        rw [hf]
        simpa [Ev.size] using e3
      | release h s n l =>
        rw [hev] at ht2 hf
        replace ht2 : H3' t = some (.tup [.str "release", optV h, optV s, .int n, .int l]) := ht2
        repeat walk_at "rd"
        refine ⟨rfl, ?_⟩
        repeat walk_at "rd"
        refine iteN (ev_ne (by decide)) ⟨k3, ?_⟩
        rw [hf]
        simpa [Ev.size] using e3
      | shelve n s =>
        rw [hev] at ht2 hf
        replace ht2 : H3' t = some (.tup [.str "shelve", .int n, .int s]) := ht2
        repeat walk_at "rd"
        refine ⟨rfl, ?_⟩
        repeat walk_at "rd"
        refine iteP (by simp) ?_
        repeat walk_at "rd"
        refine ⟨_, e3, hz, k3.wr (.inl nW), ?_⟩
        rw [upd_same, hf, List.map_append]
        rfl
      | take n s =>
        rw [hev] at ht2 hf
        replace ht2 : H3' t = some (.tup [.str "take", .int n, .int s]) := ht2
        repeat walk_at "rd"
        refine ⟨rfl, ?_⟩
        repeat walk_at "rd"
        refine iteN (ev_ne (by decide)) ⟨k3, ?_⟩
        rw [hf]
        simpa [Ev.size] using e3
    rintro H3 ⟨k3, eW⟩
    rw [List.length_map, hul, List.take_length] at eW
    replace eW : H3 W = some (.lst ((sizesOf evs).map V.int)) := eW
    have k03 := k2.trans k3
    have md3 := md2.keep k3
    have hins3 := k3 p _ (by simp) hins2
    have eZ3 := k3 Z _ (by simp) eZ
    have eS3 := md3.eS
    repeat walk_at "rd"
    refine x_maxP (SqL.of eW) fun pk hpk => ?_
    repeat walk_at "rd"
    refine y_lcL (SqL.of eS3) (fun Y nY => ⟨fun i H4 => Kx [] H3 H4 ∧ ∃ bs : List Addr, bs.length = i ∧ H4 Y = some (.lst ((List.range i).map (slotR slots (fun j => bs.getD j 0) log))) ∧
      ∀ (j : Nat) (row : Rw), j < i → slots[j]? = some (some row) → j ∉ log → H4 (bs.getD j 0) = some (.tup (rowV row)), ⟨(Kx.refl _ _).new nY, [], rfl, upd_same, fun j row hj => absurd hj (Nat.not_lt_zero _)⟩, ?_, ?_, ?_⟩)
    · rintro i H4 hi ⟨k4, _⟩
      exact k4.sqL (by simp) (SqL.of eS3)
    · rintro i x H4 H4' hi ⟨k4, bs, hb, e4, hr4⟩ ⟨rfl, hx⟩
      rw [List.length_map, List.length_range] at hi
      rw [List.getElem?_map, List.getElem?_range hi] at hx
      cases Option.some.inj hx
      have es := List.getElem?_eq_getElem hi
      have grow : ∀ a : Addr, (List.range (i + 1)).map (slotR slots (fun j => (bs ++ [a]).getD j 0) log) = (List.range i).map (slotR slots (fun j => bs.getD j 0) log) ++ [slotR slots (fun _ => a) log i] := by
        intro a
        rw [List.range_succ, List.map_append]
        congr 1
        · refine List.map_congr_left fun j hj => ?_
          have := List.mem_range.mp hj
          unfold slotR
          simp only [List.getD_eq_getElem?_getD]
          rw [List.getElem?_append_left (by omega)]
        · simp only [List.map_cons, List.map_nil]
          unfold slotR
          simp only [List.getD_eq_getElem?_getD]
          rw [List.getElem?_append_right (by omega), hb, Nat.sub_self]
          rfl
      have gold : ∀ (a : Addr) (j : Nat), j < i → (bs ++ [a]).getD j 0 = bs.getD j 0 := by
        intro a j hj
        simp only [List.getD_eq_getElem?_getD]
        rw [List.getElem?_append_left (by omega)]
      have gnew : ∀ a : Addr, (bs ++ [a]).getD i 0 = a := by
        intro a
        simp only [List.getD_eq_getElem?_getD]
        rw [List.getElem?_append_right (by omega), hb, Nat.sub_self]
        rfl
      by_cases hlv : isLive slots i = true ∧ i ∉ log
      · obtain ⟨row, er, _⟩ := live_lt hlv.1
        obtain ⟨hr1, hrW⟩ := ms.rows i row er
        have hrow : H4' (ra i) = some (.lst (rowV row)) := k4 _ _ (by simp) (md3.k _ _ hrW hr1)
        rw [show slotR slots ra log i = V.ref (ra i) by unfold slotR; rw [if_pos hlv]]
        repeat walk_at "rd"
        refine ⟨rfl, ?_⟩
        repeat walk_at "rd"
        refine iteF ?_
        repeat walk_at "rd"
        intro a na
        have naY : a ≠ Y := (ne_of_none e4 na).symm
        refine ⟨_, lk_ne e4 na, small1000 (by rw [List.length_map, List.length_range]; omega), (k4.new na).wr (.inl nY), bs ++ [a], by rw [List.length_append, hb]; rfl, ?_, ?_⟩
        · rw [upd_same, grow, show slotR slots (fun _ => a) log i = V.ref a by unfold slotR; rw [if_pos hlv]]
        · intro j row' hj hjr hjl
          by_cases hji : j = i
          · subst hji
            rw [er] at hjr
            cases Option.some.inj (Option.some.inj hjr)
            rw [gnew]
            exact lk_ne2 naY upd_same
          · rw [gold _ _ (by omega)]
            have h1 := hr4 j row' (by omega) hjr hjl
            exact lk_ne2 (fun z => by rw [z, e4] at h1; cases h1) (lk_ne h1 na)
      · rw [show slotR slots ra log i = V.non by unfold slotR; rw [if_neg hlv]]
        repeat walk_at "rd"
        refine ⟨rfl, ?_⟩
        repeat walk_at "rd"
        refine ⟨_, e4, small1000 (by rw [List.length_map, List.length_range]; omega), k4.wr (.inl nY), bs ++ [0], by rw [List.length_append, hb]; rfl, ?_, ?_⟩
        · rw [upd_same, grow, show slotR slots (fun _ => 0) log i = V.non by unfold slotR; rw [if_neg hlv]]
        · intro j row' hj hjr hjl
          by_cases hji : j = i
          · subst hji
            exact absurd ⟨by simp [isLive, hjr], hjl⟩ hlv
          · rw [gold _ _ (by omega)]
            have h1 := hr4 j row' (by omega) hjr hjl
            exact lk_ne2 (fun z => by rw [z, e4] at h1; cases h1) h1
    rintro H4 ⟨k4, bs, hb, eY, hrows⟩
    rw [List.length_map, List.length_range] at eY hrows
    have k04 := k03.trans k4
    have md4 := md3.keep k4
    have hins4 := k4 p _ (by simp) hins3
    have eZ4 := k4 Z _ (by simp) eZ3
    have eO4 := md4.eO
    repeat walk_at "rd"
    intro L nL
    repeat walk_at "rd"
    intro S' nS
    repeat walk_at "rd"
    intro O' nO
    repeat walk_at "rd"
    rename_i X nX B nB
    have kf : Kx [] H4 (upd (upd (upd (upd (upd H4 L (.tup (log.map fun n : Nat => V.int n))) S' (.tup ((List.range slots.length).map (slotR slots (fun j => bs.getD j 0) log)))) O' (.tup (outs.map V.int))) X (.tup [.ref S', .ref O'])) B (.tup [.ref L, .int pk, .ref X])) :=
      (((((Kx.refl [] H4).new nL).new nS).new nO).new nX).new nB
    refine k B L X pk _ (k04.trans kf) (SqT.of upd_same) (SqT.of (by walk_at "lk")) hpk ⟨S', O', _, SqT.of (by walk_at "lk"), SqT.of (by walk_at "lk"), SqT.of (by walk_at "lk"), by rw [afterS_len, List.length_map, List.length_range], fun i o ho => ?_⟩
    have hi : i < slots.length := by
      have := (List.getElem?_eq_some_iff.mp ho).1
      rwa [afterS_len] at this
    unfold afterS at ho
    rw [List.getElem?_map, List.getElem?_range hi] at ho
    cases Option.some.inj ho
    rw [List.getElem?_map, List.getElem?_range hi]
    simp only [Option.map_some]
    rw [List.getElem?_eq_getElem hi]
    simp only [Option.getD_some]
    by_cases hl : i ∈ log
    · refine .inl ⟨if_pos hl, ?_⟩
      unfold slotR
      rw [if_neg (fun z => z.2 hl)]
    · rw [if_neg hl]
      cases e : slots[i] with
      | none =>
        refine .inl ⟨rfl, ?_⟩
        unfold slotR
        rw [if_neg (fun z => by have := z.1; simp [isLive, List.getElem?_eq_getElem hi, e] at this)]
      | some row =>
        have er : slots[i]? = some (some row) := by rw [List.getElem?_eq_getElem hi, e]
        refine .inr ⟨bs.getD i 0, row, rfl, ?_, SqT.of (kf _ _ (by simp) (hrows i row hi er hl))⟩
        unfold slotR
        rw [if_pos ⟨by simp [isLive, er], hl⟩]
/-- the function drop -/
def spDrop (K : PySem.W.Frag) : Sp := fun vs H Q _ => ∃ (D : Addr) (slots : List (Option Rw)) (outs : List Int) (n : Nat) (z lim : Int), vs = [.ref D, .int n, .int lim] ∧ HeapT K H D slots outs ∧ Wf slots outs ∧ isLive slots n = true ∧ outs[n]? = some z ∧ 1 ≤ z ∧ 0 < lim ∧
  ∀ B L X k s' H', Kx [] H H' → SqT K H' B [.ref L, .int k, .ref X] → SqT K H' L (s'.log.map fun n : Nat => V.int n) → Steps slots (outs.set n (z - 1)) lim ⟨[⟨none, none, n, 0⟩], [], []⟩ s' → s'.pend = [] → s'.shelf = [] → IsPeak (sizesOf s'.evs) k → HeapT K H' X (afterS slots s'.log) (outs.set n (z - 1)) → Q (.ref B) H'
theorem left_nil_le {slots : List (Option Rw)} (h40 : slots.length ≤ 40) (hr : ∀ row, some row ∈ slots → row.length ≤ 40) : left slots [] ≤ 40 * 42 := by
  unfold left
  have : ∀ n, n ≤ slots.length → ((List.range n).map fun h => if h ∈ ([] : List Nat) then 0 else (rowOf slots h).length + 2).sum ≤ n * 42 := by
    intro n
    induction n with
    | zero => intro _; simp
    | succ n ih =>
      intro hn
      rw [List.range_succ, List.map_append, List.sum_append]
      have h1 := ih (by omega)
      have h2 : (rowOf slots n).length ≤ 40 := by
        unfold rowOf
        cases e : slots[n]? with
        | none => simp
        | some o =>
          cases o with
          | none => simp
          | some row => exact hr row (List.mem_of_getElem? e)
      simp only [List.not_mem_nil, if_false, List.map_cons, List.map_nil, List.sum_cons, List.sum_nil] at h1 ⊢
      omega
  have := this slots.length (Nat.le_refl _)
  omega
def spRun (K : PySem.W.Frag) (C : Addr) : Sp := fun vs H Q _ => ∃ (D : Addr) (slots : List (Option Rw)) (outs : List Int) (n : Nat) (z lim : Int), vs = [.ref D, .int n, .int lim] ∧ HeapT K H D slots outs ∧ Wf slots outs ∧ isLive slots n = true ∧ outs[n]? = some z ∧ 1 ≤ z ∧ 0 < lim ∧
  ∀ p dx aS aO aR aE aH aV ra H2 H3 s', MS slots C H2 p dx aS aO aR aE aH aV ra lim → MD slots H2 H3 aS aO aR aE aH aV ra (outs.set n (z - 1)) (tal slots (outs.set n (z - 1)) s'.log []) s'.log [] [] s'.evs → Steps slots (outs.set n (z - 1)) lim ⟨[⟨none, none, n, 0⟩], [], []⟩ s' → s'.pend = [] → s'.shelf = [] → Wk slots (outs.set n (z - 1)) s' → Kx [] H H3 → H p = none → Q (.ref p) H3
theorem ok_run {C : Addr} {f : Addr} {fd : FuncData} (F : Fun K "run_drop" "run_drop" sRunDrop f fd) (T : Txt mg) (hC : ClR K C) (cR : Cls K C) (l_need_reference : Lo P w K mg base "need_reference" 5 ["heap", "node"] (spNeedRef K)) (n_Releasing : Ln P w K mg base C "Releasing" 3 ["self", "heap", "limit"] (spMInit K C))
    (m_drop : Lm P w K mg base C "drop" 4 ["self", "node"] (spMDrop K C)) : FnOk P w K mg base CX0 6 f fd ["heap", "node", "limit"] (spRun K C) := by
  refine F.ok scRunDrop (fun vs H Q E h => ?_) (fun cdv A outer s H vs Q E hr h => ?_)
  · obtain ⟨D, slots, outs, n, z, lim, rfl, _⟩ := h
    rfl
  · obtain ⟨D, slots, outs, n, z, lim, rfl, hT, wf, hl, hz, h1, hlim, k⟩ := h
    refine ⟨_, (pss_cons (ps_expr (pe_lo l_need_reference (hr.mono (by decide)) (by rfl) (pa_cons (pv 0) (pa_cons (pv 1) pa_nil))))
      (pss_cons (ps_set (i := 3) scRunDrop.nd rfl (Or.inl rfl) (pe_ln n_Releasing (hr.mono (by decide)) (by rfl) (pa_cons (pv 0) (pa_cons (pv 2) pa_nil))))
      (pss_cons (ps_expr (pe_lm m_drop cR (hr.mono (by decide)) (pv 3) (pa_cons (pv 1) pa_nil)))
      (pss_one (ps_ret (pv 3)))))), ?_⟩
    refine x_start (σ' := [some (.ref D), some (.int n), some (.int lim), none]) rfl ?_
    try dsimp only [cxOf]
    repeat walk_at "rd"
    refine ⟨D, slots, outs, n, z, rfl, hT, hl, wf.most, hz, h1, ?_⟩
    repeat walk_at "rd"
    intro p dx np ndx ndp
    have np2 : (upd H dx (.own p)) p = none := by rw [upd_ne ndp.symm]; exact np
    have kk : Kx [] H (upd (upd H dx (.own p)) p (.ins C dx [])) := ((Kx.refl [] H).new ndx).new np2
    refine ⟨p, dx, D, slots, outs, lim, rfl, upd_same, hT.keep kk, wf, hC, fun H2 aS aO aR aE aH aV ra ms md k2 hnew _ => ⟨rfl, ?_⟩⟩
    have hins := ms.ins
    have hlog0 : FS.log ⟨[], [], []⟩ = [] := rfl
    have hmu : FS.mu slots ⟨[], [], []⟩ ≤ 40 * 42 := left_nil_le wf.most wf.row
    have wk : Wk slots outs ⟨[], [], []⟩ := ⟨⟨fun q hq => absurd hq (by simp), List.nodup_nil, fun m hm => absurd hm (by simp [hlog0]), fun m hm => absurd hm (by simp [hlog0])⟩, fun z hz => (wf.outs z hz).1, wf.live, wf.row, wf.most, by show 0 + 2 * FS.mu slots ⟨[], [], []⟩ ≤ 90000; omega⟩
    repeat walk_at "rd"
    refine ⟨slots, H2, p, dx, aS, aO, aR, aE, aH, aV, ra, lim, outs, ⟨[], [], []⟩, n, z, rfl, ms, md, hC, wk, rfl, rfl, wf.len, hz, h1, hl, by show 0 + 2 * FS.mu slots ⟨[], [], []⟩ ≤ 89000; omega, hlim, fun s' H3 hs hp he wk' md' => ?_⟩
    repeat walk_at "rd"
    refine k p dx aS aO aR aE aH aV ra H2 H3 s' ms md' hs hp he wk' (fun b o hb e => ?_) np
    have e1 := kk b o hb e
    have e2 := k2 b o (fun h => by rw [List.mem_singleton.mp h, np] at e; cases e) e1
    exact md'.k b o (fun h => by rw [hnew b h] at e1; cases e1) e2
theorem ok_drop {C : Addr} {f : Addr} {fd : FuncData} (F : Fun K "drop" "drop" sDrop f fd) (T : Txt mg) (hC : ClR K C) (cR : Cls K C) (l_run_drop : Lo P w K mg base "run_drop" 6 ["heap", "node", "limit"] (spRun K C)) (m_result : Lm P w K mg base C "result" 1 ["self"] (spResult K C)) : FnOk P w K mg base CX0 7 f fd ["heap", "node", "limit"] (spDrop K) := by
  refine F.ok scDrop (fun vs H Q E h => ?_) (fun cdv A outer s H vs Q E hr h => ?_)
  · obtain ⟨D, slots, outs, n, z, lim, rfl, _⟩ := h
    rfl
  · obtain ⟨D, slots, outs, n, z, lim, rfl, hT, wf, hl, hz, h1, hlim, k⟩ := h
    refine ⟨_, (pss_one (ps_ret (pe_lm0 m_result cR (hr.mono (by decide)) (pe_lo l_run_drop (hr.mono (by decide)) (by rfl) (pa_cons (pv 0) (pa_cons (pv 1) (pa_cons (pv 2) pa_nil))))))), ?_⟩
    refine x_start (σ' := [some (.ref D), some (.int n), some (.int lim)]) rfl ?_
    try dsimp only [cxOf]
    repeat walk_at "rd"
    refine ⟨D, slots, outs, n, z, lim, rfl, hT, wf, hl, hz, h1, hlim, fun p dx aS aO aR aE aH aV ra H2 H3 s' ms md' hs hp he wk' k3 np => ?_⟩
    have hins3 := md'.k _ _ ms.pW ms.ins
    have hsz := wk'.sz
    repeat walk_at "rd"
    refine ⟨slots, H2, p, dx, aS, aO, aR, aE, aH, aV, ra, lim, outs.set n (z - 1), _, s'.log, s'.evs, rfl, ms, md', hC, rfl, by omega, wf.most, fun B L X pk H4 k4 hB hL hpk hX => ?_⟩
    repeat walk_at "rd"
    exact k B L X pk s' H4 (k3.trans k4) hB hL hs hp he hpk hX
end

section
variable {P : Program} {w : World} {K : PySem.W.Frag} {mg : Str → Option Value} {base : Heap}
/-- the function trace -/
def spTrace (K : PySem.W.Frag) : Sp := fun vs H Q _ => ∃ (D : Addr) (slots : List (Option Rw)) (outs : List Int) (n : Nat) (z lim : Int), vs = [.ref D, .int n, .int lim] ∧ HeapT K H D slots outs ∧ Wf slots outs ∧ isLive slots n = true ∧ outs[n]? = some z ∧ 1 ≤ z ∧ 0 < lim ∧
  ∀ E us s' H', H E = none → Kx [] H H' → H' E = some (.lst (us.map V.ref)) → TupsAt H' us (s'.evs.map evV) → Steps slots (outs.set n (z - 1)) lim ⟨[⟨none, none, n, 0⟩], [], []⟩ s' → s'.pend = [] → s'.shelf = [] → Wk slots (outs.set n (z - 1)) s' → Q (.ref E) H'
theorem ok_trace {C : Addr} {f : Addr} {fd : FuncData} (F : Fun K "trace" "trace" sTrace f fd) (T : Txt mg) (hC : ClR K C) (cR : Cls K C) (l_run_drop : Lo P w K mg base "run_drop" 6 ["heap", "node", "limit"] (spRun K C)) : FnOk P w K mg base CX0 7 f fd ["heap", "node", "limit"] (spTrace K) := by
  refine F.ok scTrace (fun vs H Q E h => ?_) (fun cdv A outer s H vs Q E hr h => ?_)
  · obtain ⟨D, slots, outs, n, z, lim, rfl, _⟩ := h
    rfl
  · obtain ⟨D, slots, outs, n, z, lim, rfl, hT, wf, hl, hz, h1, hlim, k⟩ := h
    refine ⟨_, (pss_one (ps_ret (pe_callTy call_list_of (by rfl) T.b_list boot'_list (pa_cons (pe_fld (pe_lo l_run_drop (hr.mono (by decide)) (by rfl) (pa_cons (pv 0) (pa_cons (pv 1) (pa_cons (pv 2) pa_nil)))) rfl) pa_nil)))), ?_⟩
    refine x_start (σ' := [some (.ref D), some (.int n), some (.int lim)]) rfl ?_
    try dsimp only [cxOf]
    repeat walk_at "rd"
    refine ⟨D, slots, outs, n, z, lim, rfl, hT, wf, hl, hz, h1, hlim, fun p dx aS aO aR aE aH aV ra H2 H3 s' ms md' hs hp he wk' k3 np => ?_⟩
    have hins3 := md'.k _ _ ms.pW ms.ins
    obtain ⟨us, eV, tV⟩ := md'.eV
    repeat walk_at "rd"
    intro E nE
    exact k E us s' _ (k3.fresh (by simp) nE) (k3.new nE) upd_same (tV.new nE) hs hp he wk'
end

/-! ### the law's own machine -/
/-- the pending releases of frames (top first): node and place -/
def pf (slots : List (Option Rw)) : List (Nat × Nat) → List Pd
  | [] => []
  | q :: below => kidsAt q.1 (below.length + 1) q.2 ((rowOf slots q.1).drop q.2) ++ pf slots below
/-- what the frames have before them -/
def fw (slots : List (Option Rw)) (frs : List (Nat × Nat)) : Nat := (frs.map fun q => (rowOf slots q.1).length - q.2 + 1).sum
theorem fw_cons (slots : List (Option Rw)) (q : Nat × Nat) (r : List (Nat × Nat)) : fw slots (q :: r) = ((rowOf slots q.1).length - q.2 + 1) + fw slots r := by
  unfold fw
  rw [List.map_cons, List.sum_cons]
theorem fw_len (slots : List (Option Rw)) : ∀ frs : List (Nat × Nat), frs.length ≤ fw slots frs
  | [] => Nat.le_refl _
  | q :: r => by
    have := fw_len slots r
    rw [fw_cons, List.length_cons]
    omega
/-- the four lists of the law's machine -/
structure Four (H0 : Hp) (t wt fr lg : Addr) : Prop where
  tw : t ≠ wt
  tf : t ≠ fr
  tl : t ≠ lg
  wf : wt ≠ fr
  wl : wt ≠ lg
  fl : fr ≠ lg
  n : ∀ b ∈ [t, wt, fr, lg], H0 b = none
structure LX (H0 H : Hp) (t wt fr lg : Addr) (tv wv lv : List V) (fa : List Addr) (frs : List (Nat × Nat)) : Prop where
  kx : Kx [] H0 H
  tl : H t = some (.lst tv)
  w : H wt = some (.lst wv)
  f : H fr = some (.lst (fa.reverse.map V.ref))
  l : H lg = some (.lst lv)
  fl : fa.length = frs.length
  fat : ∀ (i : Nat) (q : Nat × Nat), frs[i]? = some q → ∃ a, fa[i]? = some a ∧ H a = some (.lst [.int q.1, .int q.2])
  fd : fa.Nodup
  fn : ∀ a ∈ fa, a ≠ t ∧ a ≠ wt ∧ a ≠ fr ∧ a ≠ lg ∧ H0 a = none
section
variable {H0 H : Hp} {t wt fr lg : Addr} {tv wv lv : List V} {fa : List Addr} {frs : List (Nat × Nat)}
theorem LX.new (x : LX H0 H t wt fr lg tv wv lv fa frs) {q : Addr} {o : HO} (n : H q = none) : LX H0 (upd H q o) t wt fr lg tv wv lv fa frs := by
  refine ⟨x.kx.new n, lk_ne x.tl n, lk_ne x.w n, lk_ne x.f n, lk_ne x.l n, x.fl, fun i p hp => ?_, x.fd, x.fn⟩
  obtain ⟨a, h1, h2⟩ := x.fat i p hp
  exact ⟨a, h1, lk_ne h2 n⟩
theorem LX.keep (x : LX H0 H t wt fr lg tv wv lv fa frs) {H' : Hp} (k : Kx [] H H') : LX H0 H' t wt fr lg tv wv lv fa frs := by
  refine ⟨x.kx.trans k, k _ _ (by simp) x.tl, k _ _ (by simp) x.w, k _ _ (by simp) x.f, k _ _ (by simp) x.l, x.fl, fun i p hp => ?_, x.fd, x.fn⟩
  obtain ⟨a, h1, h2⟩ := x.fat i p hp
  exact ⟨a, h1, k _ _ (by simp) h2⟩
theorem LX.wT (x : LX H0 H t wt fr lg tv wv lv fa frs) (d : Four H0 t wt fr lg) (tv' : List V) : LX H0 (upd H t (.lst tv')) t wt fr lg tv' wv lv fa frs := by
  refine ⟨x.kx.wr (.inl (d.n _ (by simp))), upd_same, lk_ne2 d.tw.symm x.w, lk_ne2 d.tf.symm x.f, lk_ne2 d.tl.symm x.l, x.fl, fun i p hp => ?_, x.fd, x.fn⟩
  obtain ⟨a, h1, h2⟩ := x.fat i p hp
  exact ⟨a, h1, lk_ne2 (x.fn a (List.mem_of_getElem? h1)).1 h2⟩
theorem LX.wW (x : LX H0 H t wt fr lg tv wv lv fa frs) (d : Four H0 t wt fr lg) (wv' : List V) : LX H0 (upd H wt (.lst wv')) t wt fr lg tv wv' lv fa frs := by
  refine ⟨x.kx.wr (.inl (d.n _ (by simp))), lk_ne2 d.tw x.tl, upd_same, lk_ne2 d.wf.symm x.f, lk_ne2 d.wl.symm x.l, x.fl, fun i p hp => ?_, x.fd, x.fn⟩
  obtain ⟨a, h1, h2⟩ := x.fat i p hp
  exact ⟨a, h1, lk_ne2 (x.fn a (List.mem_of_getElem? h1)).2.1 h2⟩
theorem LX.wL (x : LX H0 H t wt fr lg tv wv lv fa frs) (d : Four H0 t wt fr lg) (lv' : List V) : LX H0 (upd H lg (.lst lv')) t wt fr lg tv wv lv' fa frs := by
  refine ⟨x.kx.wr (.inl (d.n _ (by simp))), lk_ne2 d.tl x.tl, lk_ne2 d.wl x.w, lk_ne2 d.fl x.f, upd_same, x.fl, fun i p hp => ?_, x.fd, x.fn⟩
  obtain ⟨a, h1, h2⟩ := x.fat i p hp
  exact ⟨a, h1, lk_ne2 (x.fn a (List.mem_of_getElem? h1)).2.2.2.1 h2⟩
/-- a new frame on top -/
theorem LX.push (x : LX H0 H t wt fr lg tv wv lv fa frs) (d : Four H0 t wt fr lg) {q : Addr} {h pl : Nat} (n : H q = none) : LX H0 (upd (upd H q (.lst [.int h, .int pl])) fr (.lst (fa.reverse.map V.ref ++ [V.ref q]))) t wt fr lg tv wv lv (q :: fa) ((h, pl) :: frs) := by
  have y := x.new (o := .lst [.int (h : Int), .int (pl : Int)]) n
  have nq : q ≠ t ∧ q ≠ wt ∧ q ≠ fr ∧ q ≠ lg := ⟨(ne_of_none x.tl n).symm, (ne_of_none x.w n).symm, (ne_of_none x.f n).symm, (ne_of_none x.l n).symm⟩
  have nf : q ∉ fa := fun z => by
    obtain ⟨i, hi⟩ := List.mem_iff_getElem?.mp z
    have hl := (List.getElem?_eq_some_iff.mp hi).1
    have hl2 : i < frs.length := by rw [← x.fl]; exact hl
    obtain ⟨a, h1, h2⟩ := x.fat i frs[i] (List.getElem?_eq_getElem hl2)
    rw [hi] at h1
    cases Option.some.inj h1
    rw [n] at h2
    cases h2
  refine ⟨y.kx.wr (.inl (d.n _ (by simp))), lk_ne2 d.tf y.tl, lk_ne2 d.wf y.w, by rw [upd_same, List.reverse_cons, List.map_append]; rfl, lk_ne2 d.fl.symm y.l, by rw [List.length_cons, List.length_cons, x.fl], fun i p hp => ?_, List.nodup_cons.mpr ⟨nf, x.fd⟩, fun a ha => ?_⟩
  · cases i with
    | zero =>
      cases Option.some.inj hp
      exact ⟨q, rfl, lk_ne2 nq.2.2.1 upd_same⟩
    | succ i =>
      obtain ⟨a, h1, h2⟩ := y.fat i p hp
      exact ⟨a, h1, lk_ne2 (x.fn a (List.mem_of_getElem? h1)).2.2.1 h2⟩
  · rcases List.mem_cons.mp ha with rfl | ha
    · refine ⟨nq.1, nq.2.1, nq.2.2.1, nq.2.2.2, x.kx.fresh (by simp) n⟩
    · exact x.fn a ha
/-- the top frame goes -/
theorem LX.pop {a : Addr} {q : Nat × Nat} (x : LX H0 H t wt fr lg tv wv lv (a :: fa) (q :: frs)) (d : Four H0 t wt fr lg) : LX H0 (upd H fr (.lst (fa.reverse.map V.ref))) t wt fr lg tv wv lv fa frs := by
  refine ⟨x.kx.wr (.inl (d.n _ (by simp))), lk_ne2 d.tf x.tl, lk_ne2 d.wf x.w, upd_same, lk_ne2 d.fl.symm x.l, Nat.succ.inj x.fl, fun i p hp => ?_, (List.nodup_cons.mp x.fd).2, fun b hb => x.fn b (List.mem_cons_of_mem _ hb)⟩
  obtain ⟨b, h1, h2⟩ := x.fat (i + 1) p hp
  exact ⟨b, h1, lk_ne2 (x.fn b (List.mem_of_getElem? h1)).2.2.1 h2⟩
/-- the top frame's place moves -/
theorem LX.move {a : Addr} {h pl pl' : Nat} (x : LX H0 H t wt fr lg tv wv lv (a :: fa) ((h, pl) :: frs)) (d : Four H0 t wt fr lg) : LX H0 (upd H a (.lst [.int h, .int pl'])) t wt fr lg tv wv lv (a :: fa) ((h, pl') :: frs) := by
  obtain ⟨n1, n2, n3, n4, n5⟩ := x.fn a List.mem_cons_self
  refine ⟨x.kx.wr (.inl n5), lk_ne2 n1.symm x.tl, lk_ne2 n2.symm x.w, lk_ne2 n3.symm x.f, lk_ne2 n4.symm x.l, x.fl, fun i p hp => ?_, x.fd, x.fn⟩
  cases i with
  | zero =>
    cases Option.some.inj hp
    exact ⟨a, rfl, upd_same⟩
  | succ i =>
    obtain ⟨b, h1, h2⟩ := x.fat (i + 1) p hp
    refine ⟨b, h1, lk_ne2 (fun z => ?_) h2⟩
    have h3 : fa[i]? = some b := h1
    exact (List.nodup_cons.mp x.fd).1 (by rw [← z]; exact List.mem_of_getElem? h3)
theorem LX.top {a : Addr} {q : Nat × Nat} (x : LX H0 H t wt fr lg tv wv lv (a :: fa) (q :: frs)) : H a = some (.lst [.int q.1, .int q.2]) ∧ H fr = some (.lst (fa.reverse.map V.ref ++ [V.ref a])) := by
  obtain ⟨b, h1, h2⟩ := x.fat 0 q rfl
  cases Option.some.inj h1
  refine ⟨h2, ?_⟩
  have := x.f
  rwa [List.reverse_cons, List.map_append] at this
theorem LX.data (x : LX H0 H t wt fr lg tv wv lv fa frs) (K : PySem.W.Frag) : DpAll K H (fa.reverse.map V.ref) (frs.reverse.map fun q => PyData.list [.int q.1, .int q.2]) := by
  refine dpAll_at (by rw [List.length_map, List.length_map, List.length_reverse, List.length_reverse, x.fl]) fun i d hd => ?_
  rw [List.getElem?_map] at hd
  cases e : frs.reverse[i]? with
  | none => rw [e] at hd; cases hd
  | some q =>
    rw [e] at hd
    cases Option.some.inj hd
    have hi := (List.getElem?_eq_some_iff.mp e).1
    rw [List.length_reverse] at hi
    rw [List.getElem?_reverse hi] at e
    obtain ⟨a, h1, h2⟩ := x.fat _ _ e
    refine ⟨.ref a, ?_, .lst (SqL.of h2) (.cons (.int _) (.cons (.int _) .nil))⟩
    rw [List.getElem?_map, List.getElem?_reverse (by rw [x.fl]; exact hi), x.fl, h1]
    rfl
end
def frD (frs : List (Nat × Nat)) : List PyData := frs.map fun q => PyData.list [.int q.1, .int q.2]
theorem lay_fr : ∀ frs : List (Nat × Nat), PyData.canLayAll0 (frD frs) = true
  | [] => by simp only [frD, List.map_nil, PyData.canLayAll0]
  | q :: r => by
    have := lay_fr r
    unfold frD at this ⊢
    simp only [List.map_cons, PyData.canLayAll0, PyData.canLay0, this, Bool.and_self]
theorem deep_fr : ∀ frs : List (Nat × Nat), PyData.depthAll (frD frs) ≤ 1
  | [] => by simp [frD, PyData.depthAll]
  | q :: r => by
    have := deep_fr r
    unfold frD at this ⊢
    simp only [List.map_cons, PyData.depthAll, PyData.depth]
    simp [this]
theorem shaped_fr (frs : List (Nat × Nat)) : SeqAt.shaped (.list (frD frs)) = true := by
  have h := deep_fr frs
  unfold SeqAt.shaped
  simp [PyData.canLay0, PyData.depth, lay_fr]
  omega
theorem nat_ints (l : List Nat) : (l.map fun n : Nat => V.int n) = (l.map fun n : Nat => (n : Int)).map V.int := by
  rw [List.map_map]
  rfl
theorem fr_isEmpty (frs : List (Nat × Nat)) : (frD frs.reverse).isEmpty = frs.isEmpty := by
  cases frs with
  | nil => rfl
  | cons q r =>
    unfold frD
    rw [List.reverse_cons, List.map_append]
    cases (List.map (fun q : Nat × Nat => PyData.list [.int q.1, .int q.2]) r.reverse) <;> rfl
section
variable {slots : List (Option Rw)} {outs : List Int} {lim : Int}
theorem IsPeak.snoc {ns : List Int} {k s : Int} (h : IsPeak ns k) (hn : ∀ b ∈ ns, 0 ≤ b) (hs : 0 ≤ s) : IsPeak (ns ++ [s]) (if k < s then s else k) := by
  rcases h with ⟨rfl, rfl⟩ | ⟨h1, h2⟩
  · right
    by_cases e : (0 : Int) < s
    · rw [if_pos e]
      exact ⟨by simp, fun b hb => by simp at hb; omega⟩
    · have : s = 0 := by omega
      subst this
      exact ⟨by simp, fun b hb => by simp at hb; rw [hb]; exact Int.le_refl _⟩
  · right
    by_cases e : k < s
    · rw [if_pos e]
      refine ⟨by simp, fun b hb => ?_⟩
      rcases List.mem_append.mp hb with hb | hb
      · have := h2 b hb
        omega
      · rw [List.mem_singleton.mp hb]
        exact Int.le_refl _
    · rw [if_neg e]
      refine ⟨List.mem_append_left _ h1, fun b hb => ?_⟩
      rcases List.mem_append.mp hb with hb | hb
      · exact h2 b hb
      · rw [List.mem_singleton.mp hb]
        omega
theorem IsPeak.uniq {ns : List Int} {a b : Int} (h : IsPeak ns a) (g : IsPeak ns b) : a = b := by
  rcases h with ⟨e1, rfl⟩ | ⟨h1, h2⟩
  · rcases g with ⟨_, rfl⟩ | ⟨g1, _⟩
    · rfl
    · rw [e1] at g1
      cases g1
  · rcases g with ⟨e1, _⟩ | ⟨g1, g2⟩
    · rw [e1] at h1
      cases h1
    · exact Int.le_antisymm (g2 a h1) (h2 b g1)
theorem pf_top {h pl : Nat} {below : List (Nat × Nat)} {o : Option Nat} (hl : (rowOf slots h)[pl]? = some o) : pf slots ((h, pl) :: below) = (match o with | none => [] | some m => [⟨some h, some pl, m, below.length + 1⟩]) ++ pf slots ((h, pl + 1) :: below) := by
  obtain ⟨h1, h2⟩ := List.getElem?_eq_some_iff.mp hl
  unfold pf
  simp only
  rw [List.drop_eq_getElem_cons h1, h2]
  cases o <;> rfl
theorem pf_end {h pl : Nat} {below : List (Nat × Nat)} (hl : (rowOf slots h).length ≤ pl) : pf slots ((h, pl) :: below) = pf slots below := by
  show kidsAt h _ pl ((rowOf slots h).drop pl) ++ pf slots below = _
  rw [List.drop_eq_nil_of_le hl]
  rfl
theorem pf_new (n : Nat) (below : List (Nat × Nat)) : pf slots ((n, 0) :: below) = kids slots n (below.length + 1) ++ pf slots below := rfl
theorem sizes_nn : ∀ evs : List Ev, ∀ b ∈ sizesOf evs, 0 ≤ b := by
  intro evs b hb
  unfold sizesOf at hb
  obtain ⟨e, _, he⟩ := List.mem_filterMap.mp hb
  cases e with
  | shelve n k =>
    rw [← Option.some.inj (he : some (k : Int) = some b)]
    omega
  | release _ _ _ _ => cases he
  | destroy _ _ => cases he
  | take _ _ => cases he
theorem sizes_app (a b : List Ev) : sizesOf (a ++ b) = sizesOf a ++ sizesOf b := List.filterMap_append
def s00 (n : Nat) : FS := ⟨[⟨none, none, n, 0⟩], [], []⟩
def talL (slots : List (Option Rw)) (outs : List Int) (log : List Nat) (pend : List Pd) : List V := (List.range slots.length).map fun m => V.int (tal slots outs log pend m)
/-- the law's lists tell a state that is reached -/
def BF (slots : List (Option Rw)) (outs : List Int) (lim : Int) (spot m : Nat) (frs : List (Nat × Nat)) (wv lv tv : List V) (hi : Int) : Prop :=
  ∃ s : FS, s.pend = pf slots frs ∧ (∀ q ∈ frs, isLive slots q.1 = true ∧ q.2 ≤ (rowOf slots q.1).length) ∧ wv = (s.shelf.map fun n : Nat => V.int n) ∧ lv = (s.log.map fun n : Nat => V.int n) ∧ tv = talL slots outs s.log s.pend ∧ IsPeak (sizesOf s.evs) hi ∧
    Steps slots outs lim (s00 spot) s ∧ Wk slots outs s ∧ left slots s.log + fw slots frs ≤ m
def ST (slots : List (Option Rw)) (outs : List Int) (lim : Int) (spot m : Nat) (frs : List (Nat × Nat)) (wv lv tv : List V) (hi : Int) : Prop :=
  (frs ≠ [] ∧ BF slots outs lim spot m frs wv lv tv hi) ∨ (frs = [] ∧ wv = [] ∧ BF slots outs lim spot m frs wv lv tv hi) ∨
    (frs = [] ∧ ∃ (ss : List Nat) (n m' : Nat), m' < m ∧ wv = (ss.map fun n : Nat => V.int n) ++ [V.int n] ∧ BF slots outs lim spot m' [(n, 0)] (ss.map fun n : Nat => V.int n) (lv ++ [V.int n]) tv hi)
theorem toST {spot m : Nat} {frs : List (Nat × Nat)} {wv lv tv : List V} {hi : Int} (h : BF slots outs lim spot m frs wv lv tv hi) : ST slots outs lim spot m frs wv lv tv hi := by
  by_cases hf : frs = []
  · subst hf
    obtain ⟨s, hp, ho, hw, hl, ht, hk, hs, wk, hm⟩ := h
    rcases List.eq_nil_or_concat s.shelf with he | ⟨ss, n, he⟩
    · exact .inr (.inl ⟨rfl, by rw [hw, he]; rfl, s, hp, ho, hw, hl, ht, hk, hs, wk, hm⟩)
    · rw [List.concat_eq_append] at he
      have hp0 : s.pend = [] := hp
      have hstep : stepF slots outs lim s = some ⟨kids slots n 1, ss, s.evs ++ [.take n ss.length, .destroy n 0]⟩ := by
        unfold stepF
        rw [hp0, he]
        simp
      have hlog : FS.log ⟨kids slots n 1, ss, s.evs ++ [.take n ss.length, .destroy n 0]⟩ = s.log ++ [n] := by
        unfold FS.log
        rw [List.filterMap_append]
        rfl
      have ham : n ∈ s.log ++ s.shelf := by rw [he]; simp
      have hla := wk.ok.lv n ham
      have hnd := wk.ok.nd
      rw [he] at hnd
      have hna : n ∉ s.log := fun h => (List.nodup_append.mp hnd).2.2 n h n (by simp) rfl
      obtain ⟨_, _, hlta⟩ := live_lt hla
      have hleft := left_dead (slots := slots) hlta hna
      have hfw : fw slots [(n, 0)] = (rowOf slots n).length + 1 := by
        rw [fw_cons]
        show (rowOf slots n).length - 0 + 1 + 0 = _
        omega
      have hfw0 : fw slots [] = 0 := rfl
      refine .inr (.inr ⟨rfl, ss, n, left slots (s.log ++ [n]) + fw slots [(n, 0)], by omega, by rw [hw, he, List.map_append]; rfl, _, ?_, ?_, rfl, ?_, ?_, ?_, hs.tail hstep, wk.step hstep, by rw [hlog]; exact Nat.le_refl _⟩)
      · show kids slots n 1 = kids slots n (0 + 1) ++ []
        rw [List.append_nil]
      · intro q hq
        rw [List.mem_singleton.mp hq]
        exact ⟨hla, Nat.zero_le _⟩
      · rw [hl, hlog, List.map_append]
        rfl
      · rw [ht, hlog, hp0]
        unfold talL
        refine List.map_congr_left fun m _ => ?_
        have := tal_dead (slots := slots) (outs := outs) hlta hna 1 [] m
        rw [List.append_nil] at this
        show V.int _ = V.int (tal slots outs (s.log ++ [n]) (kids slots n 1) m)
        rw [this]
      · rw [sizes_app]
        show IsPeak (sizesOf s.evs ++ []) hi
        rw [List.append_nil]
        exact hk
  · exact .inl ⟨hf, h⟩
theorem ST.mono {spot m m' : Nat} {frs : List (Nat × Nat)} {wv lv tv : List V} {hi : Int} (h : BF slots outs lim spot m frs wv lv tv hi) (l : m ≤ m') : BF slots outs lim spot m' frs wv lv tv hi := by
  obtain ⟨s, a, b, c, d, e, f, g, i, j⟩ := h
  exact ⟨s, a, b, c, d, e, f, g, i, Nat.le_trans j l⟩
end

section
variable {P : Program} {w : World} {K : PySem.W.Frag} {mg : Str → Option Value} {base : Heap}
theorem Wk.log {slots : List (Option Rw)} {outs : List Int} {s : FS} (k : Wk slots outs s) : s.log.length ≤ 40 := by
  have hn := (List.nodup_append.mp k.ok.nd).1
  have := hn.length_le_of_subset (l₂ := List.range slots.length) fun n hn => List.mem_range.mpr (live_lt (k.ok.lv n (List.mem_append_left _ hn))).choose_spec.2
  rw [List.length_range] at this
  exact Nat.le_trans this k.most
theorem wk_zero {slots : List (Option Rw)} {outs : List Int} {b : Int} (wf : WfB b slots outs) : Wk slots outs ⟨[], [], []⟩ := by
  have hlog0 : FS.log ⟨[], [], []⟩ = [] := rfl
  have hmu : FS.mu slots ⟨[], [], []⟩ ≤ 40 * 42 := left_nil_le wf.most wf.row
  exact ⟨⟨fun q hq => absurd hq (by simp), List.nodup_nil, fun m hm => absurd hm (by simp [hlog0]), fun m hm => absurd hm (by simp [hlog0])⟩, fun z hz => (wf.outs z hz).1, wf.live, wf.row, wf.most, by show 0 + 2 * FS.mu slots ⟨[], [], []⟩ ≤ 90000; omega⟩
theorem wk_first {slots : List (Option Rw)} {outs : List Int} {b : Int} (wf : WfB b slots outs) {n : Nat} {z : Int} (hz : outs[n]? = some z) (h1 : 1 ≤ z) (hl : isLive slots n = true) : Wk slots (outs.set n (z - 1)) (s00 n) := by
  have hmu : FS.mu slots ⟨[], [], []⟩ ≤ 40 * 42 := left_nil_le wf.most wf.row
  exact (wk_zero wf).start rfl rfl hz h1 hl (by show 0 + 2 * FS.mu slots ⟨[], [], []⟩ ≤ 89000; omega)
end


/-! ### who holds whom -/
structure HB (H0 H : Hp) (R : Addr) (rs : List Addr) (N B : Nat) (mem : Nat → Nat → Prop) : Prop where
  hR : H R = some (.lst (rs.map V.ref))
  len : rs.length = N
  nd : rs.Nodup
  nR : R ∉ rs
  fr : ∀ a ∈ rs, H0 a = none
  frR : H0 R = none
  kx : Kx [] H0 H
  at_ : ∀ (m : Nat) (a : Addr), rs[m]? = some a → ∃ l : List Nat, H a = some (.lst (l.map fun n : Nat => V.int n)) ∧ l.length ≤ B ∧ ∀ h, h ∈ l ↔ mem h m
section
variable {H0 H : Hp} {R : Addr} {rs : List Addr} {N B : Nat} {mem : Nat → Nat → Prop}
theorem HB.new (x : HB H0 H R rs N B mem) {q : Addr} {o : HO} (n : H q = none) : HB H0 (upd H q o) R rs N B mem := by
  refine ⟨lk_ne x.hR n, x.len, x.nd, x.nR, x.fr, x.frR, x.kx.new n, fun m a h => ?_⟩
  obtain ⟨l, h1, h2, h3⟩ := x.at_ m a h
  exact ⟨l, lk_ne h1 n, h2, h3⟩
theorem HB.ext (x : HB H0 H R rs N B mem) {mem' : Nat → Nat → Prop} (h : ∀ a m, m < N → (mem a m ↔ mem' a m)) {B' : Nat} (hB : B ≤ B') : HB H0 H R rs N B' mem' := by
  refine ⟨x.hR, x.len, x.nd, x.nR, x.fr, x.frR, x.kx, fun m a hm => ?_⟩
  obtain ⟨l, h1, h2, h3⟩ := x.at_ m a hm
  have hmN : m < N := by rw [← x.len]; exact (List.getElem?_eq_some_iff.mp hm).1
  exact ⟨l, h1, Nat.le_trans h2 hB, fun b => (h3 b).trans (h b m hmN)⟩
theorem HB.app (x : HB H0 H R rs N B mem) {m h : Nat} {a : Addr} {l : List Nat} (ha : rs[m]? = some a) (hl : H a = some (.lst (l.map fun n : Nat => V.int n))) (h2 : l.length ≤ B) (h3 : ∀ b, b ∈ l ↔ mem b m) :
    HB H0 (upd H a (.lst ((l.map fun n : Nat => V.int n) ++ [V.int (h : Int)]))) R rs N (B + 1) (fun b k => mem b k ∨ (b = h ∧ k = m)) := by
  have ham := List.mem_of_getElem? ha
  have hRa : R ≠ a := fun z => x.nR (z ▸ ham)
  refine ⟨lk_ne2 hRa x.hR, x.len, x.nd, x.nR, x.fr, x.frR, x.kx.wr (.inl (x.fr a ham)), fun k c hc => ?_⟩
  by_cases e : k = m
  · subst e
    rw [ha] at hc
    cases Option.some.inj hc
    refine ⟨l ++ [h], by rw [upd_same, List.map_append]; rfl, by rw [List.length_append]; show l.length + 1 ≤ B + 1; omega, fun b => ?_⟩
    rw [List.mem_append, List.mem_singleton, h3 b]
    simp
  · obtain ⟨l', g1, g2, g3⟩ := x.at_ k c hc
    have hca : c ≠ a := fun z => by
      subst z
      obtain ⟨i1, i2⟩ := List.getElem?_eq_some_iff.mp hc
      obtain ⟨j1, j2⟩ := List.getElem?_eq_some_iff.mp ha
      exact e ((List.getElem_inj x.nd).mp (i2.trans j2.symm))
    refine ⟨l', lk_ne2 hca g1, by omega, fun b => ?_⟩
    rw [g3 b]
    simp [e]
end
section
variable {P : Program} {w : World} {K : PySem.W.Frag} {mg : Str → Option Value} {base : Heap}
def spHeld (K : PySem.W.Frag) : Sp := fun vs H Q _ => ∃ (D : Addr) (slots : List (Option Rw)) (outs : List Int), vs = [.ref D] ∧ HeapT K H D slots outs ∧ Wf slots outs ∧
  ∀ R rs H', HB H H' R rs slots.length 2000 (fun h m => h < slots.length ∧ some m ∈ rowOf slots h) → Q (.ref R) H'
theorem ok_held {f : Addr} {fd : FuncData} (F : Fun K "_law_held_by" "_law_held_by" sQHeldBy f fd) (T : Txt mg) : FnOk P w K mg base CX0 1 f fd ["_law_base_here"] (spHeld K) := by
  refine F.ok scQHeldBy (fun vs H Q E h => ?_) (fun cdv A outer s H vs Q E hr h => ?_)
  · obtain ⟨D, slots, outs, rfl, _⟩ := h
    rfl
  · obtain ⟨D, slots, outs, rfl, hT, wf, k⟩ := h
    obtain ⟨S, O, vs, hD, hS, hO, hvl, hv⟩ := id hT.ex
    have h40 := wf.most
    refine ⟨_, (pss_cons (ps_setLc (i := 2) (own := [("_law_row", 1)]) rfl scQHeldBy.nd rfl rfl (sw_true rfl rfl rfl (by decide +kernel)) (pi_tup (pe_ix ix_tup (pv 0) pe_int (fun _ _ => rfl))) (blkOk_by (N := ["_law_base_here", "_law_row", "_law_found", "_law_holder", "_law_entry"]) (sc := defScope sQHeldBy) (by decide +kernel)) (fun _ _ _ _ _ => (pg_name (i := 1) scQHeldBy.nd rfl (Or.inl rfl))) (fun _ _ _ _ _ => pts_nil) (fun _ _ _ _ _ => (pe_lst pa_nil)))
      (pss_cons (ps_for PassesOwn.never rfl (pi_enumT (by rfl) T.b_enumerate (pa_cons (pe_ix ix_tup (pv 0) pe_int (fun _ _ => rfl)) pa_nil)) (pg_tup rfl (pgs_cons (pg_name (i := 3) scQHeldBy.nd rfl (Or.inl rfl)) (pgs_cons (pg_name (i := 1) scQHeldBy.nd rfl (Or.inl rfl)) pgs_nil)))
      (pss_one (ps_for PassesOwn.never rfl (pi_tup (pe_orT (pv 1) (pe_one (pe_tup pa_nil)))) (pg_name (i := 4) scQHeldBy.nd rfl (Or.inl rfl))
      (pss_one (ps_if (pt_cmpR op_notN1 (pv 4) pe_non (nomark _)) (pss_one (ps_expr (pe_bm PySem.F.plainAttrs_list PySem.F.slot_list_append PySem.F.type_list_append mt_append (pe_ix ix_list (pv 2) (pv 4) (fun _ _ => rfl)) (pa_cons (pv 3) pa_nil)))) pss_nil)))))
      (pss_one (ps_ret (pv 2))))), ?_⟩
    refine x_start (σ' := [some (.ref D), none, none, none, none]) rfl ?_
    try dsimp only [cxOf]
    repeat walk_at "rd"
    refine y_lcT (xs := vs) hS (fun Z nZ => ⟨fun i H1 => ∃ rs : List Addr, HB H H1 Z rs i 0 (fun _ _ => False), ⟨[], upd_same, rfl, List.nodup_nil, by simp, by simp, nZ, (Kx.refl _ _).new nZ, fun m a h => by simp at h⟩, ?_, ?_, ?_⟩)
    · rintro i H1 hi ⟨rs, x⟩
      exact x.kx.sqT (by simp) hS
    · rintro i x H1 H1' hi ⟨rs, hb⟩ ⟨rfl, hx⟩
      repeat walk_at "rd"
      refine ⟨rfl, ?_⟩
      repeat walk_at "rd"
      rename_i q nq
      have hb2 := hb.new (o := .lst []) nq
      have hqZ : q ≠ Z := (ne_of_none hb.hR nq).symm
      have hqrs : q ∉ rs := fun z => by
        obtain ⟨m, hm⟩ := List.mem_iff_getElem?.mp z
        obtain ⟨l, h1, _⟩ := hb.at_ m q hm
        rw [nq] at h1
        cases h1
      refine ⟨_, hb2.hR, big_line (by rw [List.length_map, hb.len]; omega), rs ++ [q], by rw [upd_same, List.map_append]; rfl, by rw [List.length_append, hb.len]; rfl, ?_, ?_, ?_, nZ, hb2.kx.wr (.inl nZ), fun m a hm => ?_⟩
      · exact List.nodup_append.mpr ⟨hb.nd, by simp, fun a ha b hb' e => by rw [List.mem_singleton.mp hb'] at e; exact hqrs (e ▸ ha)⟩
      · intro h
        rcases List.mem_append.mp h with h | h
        · exact hb.nR h
        · exact hqZ (List.mem_singleton.mp h).symm
      · intro a ha
        rcases List.mem_append.mp ha with ha | ha
        · exact hb.fr a ha
        · rw [List.mem_singleton.mp ha]
          exact hb.kx.fresh (by simp) nq
      · by_cases hml : m < rs.length
        · rw [List.getElem?_append_left hml] at hm
          obtain ⟨l, h1, h2, h3⟩ := hb2.at_ m a hm
          exact ⟨l, lk_ne2 (fun z => hb.nR (z ▸ List.mem_of_getElem? hm)) h1, h2, h3⟩
        · rw [List.getElem?_append_right (by omega)] at hm
          have h0 : m - rs.length = 0 := by
            have := (List.getElem?_eq_some_iff.mp hm).1
            have e : [q].length = 1 := rfl
            omega
          rw [h0] at hm
          cases Option.some.inj (hm : some q = some a)
          exact ⟨[], lk_ne2 hqZ upd_same, Nat.le_refl _, fun h => by simp⟩
    rintro H1 ⟨rs, hb⟩
    rw [hvl] at hb
    have hS1 := hb.kx.sqT (by simp) hS
    have hD1 := hb.kx.sqT (by simp) hD
    repeat walk_at "rd"
    refine y_forET (xs := vs) hS1 ⟨fun i σ H2 => ∃ (y1 y3 y4 : Option V), σ = [some (.ref D), y1, some (.ref Z), y3, y4] ∧ HB H H2 Z rs slots.length (40 * i) (fun h m => h < i ∧ some m ∈ rowOf slots h),
      ⟨_, _, _, rfl, hb.ext (fun b m hm => ⟨False.elim, fun h => absurd h.1 (Nat.not_lt_zero _)⟩) (Nat.zero_le _)⟩, ?_, ?_, ?_⟩
    · rintro i σ H2 hi ⟨y1, y3, y4, rfl, hb2⟩
      exact hb2.kx.sqT (by simp) hS
    · rintro i x σ H2 H2' hi ⟨y1, y3, y4, rfl, hb2⟩ ⟨U, x1, x2, rfl, nU, rfl, f1, f2⟩
      cases f1
      replace f2 : vs[i]? = some x2 := f2
      have hs : i < slots.length := by omega
      have es := List.getElem?_eq_getElem hs
      have hb3 := hb2.new (o := .tup [.int i, x2]) nU
      have eU : upd H2 U (.tup [.int i, x2]) U = some (.tup [.int i, x2]) := upd_same
      generalize upd H2 U (.tup [.int i, x2]) = H3 at *
      rcases hv i _ es with ⟨e, z⟩ | ⟨r, row, e, z, hF⟩
      · cases Option.some.inj (z.symm.trans f2)
        have hro : rowOf slots i = [] := by simp [rowOf, es, e]
        repeat walk_at "rd"
        rename_i E' nE'
        refine y_forT (xs := []) (SqT.of upd_same) ⟨fun j σ H3 => ∃ (y4 : Option V), σ = [some (.ref D), some .non, some (.ref Z), some (.int (i : Int)), y4] ∧ HB H H3 Z rs slots.length (40 * i) (fun h m => h < i ∧ some m ∈ rowOf slots h) ∧ SqT K H3 E' [],
          ⟨y4, rfl, hb3.new nE', SqT.of upd_same⟩, ?_, ?_, ?_⟩
        · rintro j σ H3 hj ⟨y4, rfl, hb4, e3⟩
          exact e3
        · rintro j x σ H3 H3' hj
          exact absurd hj (Nat.not_lt_zero _)
        · rintro σ H3 ⟨y4, rfl, hb4, _⟩
          exact ⟨_, _, _, rfl, hb4.ext (fun b m hm => by
            constructor
            · rintro ⟨h1, h2⟩
              exact ⟨by omega, h2⟩
            · rintro ⟨h1, h2⟩
              refine ⟨?_, h2⟩
              rcases Nat.lt_or_ge b i with h | h
              · exact h
              · have : b = i := by omega
                subst this
                rw [hro] at h2
                cases h2) (by omega)⟩
      · cases Option.some.inj (z.symm.trans f2)
        have hro : rowOf slots i = row := rowOf_some (by rw [es, e])
        have hrow : some row ∈ slots := by rw [← e]; exact List.getElem_mem hs
        have hr40 := wf.row row hrow
        have hF3 := hb3.kx.sqT (by simp) hF
        cases hrw : row with
        | nil =>
          subst hrw
          repeat walk_at "rd"
          refine iteF ?_
          repeat walk_at "rd"
          rename_i E' nE'
          refine y_forT (xs := []) (SqT.of upd_same) ⟨fun j σ H3 => ∃ (y4 : Option V), σ = [some (.ref D), some (.ref r), some (.ref Z), some (.int (i : Int)), y4] ∧ HB H H3 Z rs slots.length (40 * i) (fun h m => h < i ∧ some m ∈ rowOf slots h) ∧ SqT K H3 E' [],
            ⟨y4, rfl, hb3.new nE', SqT.of upd_same⟩, ?_, ?_, ?_⟩
          · rintro j σ H3 hj ⟨y4, rfl, hb4, e3⟩
            exact e3
          · rintro j x σ H3 H3' hj
            exact absurd hj (Nat.not_lt_zero _)
          · rintro σ H3 ⟨y4, rfl, hb4, _⟩
            exact ⟨_, _, _, rfl, hb4.ext (fun b m hm => by
              constructor
              · rintro ⟨h1, h2⟩
                exact ⟨by omega, h2⟩
              · rintro ⟨h1, h2⟩
                refine ⟨?_, h2⟩
                rcases Nat.lt_or_ge b i with h | h
                · exact h
                · have : b = i := by omega
                  subst this
                  rw [hro] at h2
                  cases h2) (by omega)⟩
        | cons c0 rs0 =>
          have hne : (!(rowV row).isEmpty) = true := by rw [hrw]; rfl
          rw [← hrw] at *
          repeat walk_at "rd"
          refine iteP hne ?_
          repeat walk_at "rd"
          refine y_forT (xs := rowV row) hF3 ⟨fun j σ H4 => ∃ (y4 : Option V), σ = [some (.ref D), some (.ref r), some (.ref Z), some (.int (i : Int)), y4] ∧ HB H H4 Z rs slots.length (40 * i + j) (fun h m => (h < i ∧ some m ∈ rowOf slots h) ∨ (h = i ∧ some m ∈ row.take j)),
            ⟨y4, rfl, hb3.ext (fun b m hm => ⟨.inl, fun h => by rcases h with h | ⟨_, h⟩; exact h; simp at h⟩) (Nat.le_refl _)⟩, ?_, ?_, ?_⟩
          · rintro j σ H4 hj ⟨y4, rfl, hb4⟩
            exact hb4.kx.sqT (by simp) hF
          · rintro j x σ H4 H4' hj ⟨y4, rfl, hb4⟩ ⟨rfl, hx⟩
            have hj2 : j < row.length := by
              unfold rowV at hj
              rwa [List.length_map] at hj
            have er := List.getElem?_eq_getElem hj2
            replace hx : (rowV row)[j]? = some x := hx
            unfold rowV at hx
            rw [List.getElem?_map, er] at hx
            have hx3 : slotV row[j] = x := Option.some.inj hx
            have htk : row.take (j + 1) = row.take j ++ [row[j]] := by rw [List.take_add_one, er]; rfl
            cases ho : row[j] with
            | none =>
              rw [ho] at hx3 htk
              obtain rfl : V.non = x := hx3
              repeat walk_at "rd"
              refine iteF ?_
              repeat walk_at "rd"
              refine ⟨_, rfl, hb4.ext (fun b m hm => ?_) (by omega)⟩
              rw [htk, List.mem_append]
              simp
            | some hd =>
              rw [ho] at hx3 htk
              obtain rfl : V.int (hd : Int) = x := hx3
              obtain ⟨r2, e9⟩ := wf.live row hrow hd (by rw [← ho]; exact List.getElem_mem hj2)
              have hh := (List.getElem?_eq_some_iff.mp e9).1
              have hhr : hd < rs.length := by rw [hb4.len]; exact hh
              obtain ⟨l, hl1, hl2, hl3⟩ := hb4.at_ hd rs[hd] (List.getElem?_eq_getElem hhr)
              have hatR : atI (rs.map V.ref) (hd : Int) = some (.ref rs[hd]) := atI_nat (by rw [List.getElem?_map, List.getElem?_eq_getElem hhr]; rfl)
              have hR4 := hb4.hR
              have hz4 : (l.map fun n : Nat => V.int n).length < sizeLine := big_line (by rw [List.length_map]; omega)
              repeat walk_at "rd"
              refine iteT ?_
              repeat walk_at "rd"
              refine ⟨ty_list (SqL.of hl1), ?_⟩
              repeat walk_at "rd"
              refine ⟨_, rfl, (hb4.app (h := i) (List.getElem?_eq_getElem hhr) hl1 hl2 hl3).ext (fun b m hm => ?_) (by omega)⟩
              rw [htk, List.mem_append, List.mem_singleton]
              constructor
              · rintro ((h | ⟨h1, h2⟩) | ⟨h1, h2⟩)
                · exact .inl h
                · exact .inr ⟨h1, .inl h2⟩
                · exact .inr ⟨h1, .inr (by rw [h2])⟩
              · rintro (h | ⟨h1, h2 | h2⟩)
                · exact .inl (.inl h)
                · exact .inl (.inr ⟨h1, h2⟩)
                · exact .inr ⟨h1, Option.some.inj h2⟩
          · rintro σ H4 ⟨y4, rfl, hb4⟩
            have hfull : row.take (rowV row).length = row := by unfold rowV; rw [List.length_map, List.take_length]
            have hlen : (rowV row).length ≤ 40 := by unfold rowV; rw [List.length_map]; exact hr40
            refine ⟨_, _, _, rfl, hb4.ext (fun b m hm => ?_) (by omega)⟩
            rw [hfull]
            constructor
            · rintro (⟨h1, h2⟩ | ⟨rfl, h2⟩)
              · exact ⟨by omega, h2⟩
              · exact ⟨by omega, by rw [hro]; exact h2⟩
            · rintro ⟨h1, h2⟩
              rcases Nat.lt_or_ge b i with h | h
              · exact .inl ⟨h, h2⟩
              · have : b = i := by omega
                subst this
                exact .inr ⟨rfl, by rw [hro] at h2; exact h2⟩
    · rintro σ H2 ⟨y1, y3, y4, rfl, hb2⟩
      rw [hvl] at hb2
      repeat walk_at "rd"
      exact k Z rs H2 (hb2.ext (fun b m hm => Iff.rfl) (by omega))
end


/-! ### which nodes are destroyed, and after which -/
section
variable {slots : List (Option Rw)} {outs : List Int} {lim : Int} {spot : Nat}
/-- a node that something lets go of -/
def Let (slots : List (Option Rw)) (spot p : Nat) : Prop := p = spot ∨ ∃ h, h < slots.length ∧ some p ∈ rowOf slots h
def filled (slots : List (Option Rw)) (n : Nat) : Nat := (rowOf slots n).countP Option.isSome
def isRel : Ev → Bool
  | .release _ _ _ _ => true
  | _ => false
structure LI (slots : List (Option Rw)) (outs : List Int) (spot : Nat) (s : FS) : Prop where
  t : ∀ p, isLive slots p = true → Let slots spot p → p ∉ s.log ++ s.shelf → 1 ≤ tal slots outs s.log s.pend p
  j : ∀ (i p : Nat), s.log[i]? = some p → (outs[p]?).getD 0 = 0 ∧ (∀ h, h < slots.length → some p ∈ rowOf slots h → h ∈ s.log.take i) ∧ Let slots spot p
  q : ∀ p ∈ s.pend, Let slots spot p.node
  q2 : ∀ n ∈ s.shelf, Let slots spot n
  c : s.evs.countP isRel + s.pend.length = 1 + (s.log.map (filled slots)).sum
theorem kidsAt_filled (n d : Nat) : ∀ (r : Rw) (j : Nat), (kidsAt n d j r).length = r.countP Option.isSome
  | [], _ => rfl
  | none :: r, j => by
    show (kidsAt n d (j + 1) r).length = _
    rw [kidsAt_filled n d r (j + 1), List.countP_cons]
    rfl
  | some k :: r, j => by
    show (kidsAt n d (j + 1) r).length + 1 = _
    rw [kidsAt_filled n d r (j + 1), List.countP_cons]
    rfl
theorem cntH_zero {log : List Nat} {p : Nat} (h : cntH slots log p = 0) : ∀ h, h < slots.length → some p ∈ rowOf slots h → h ∈ log := by
  intro a ha hm
  by_cases hl : a ∈ log
  · exact hl
  · unfold cntH at h
    have h2 : (if a ∈ log then 0 else (rowOf slots a).count (some p)) = 0 := List.sum_eq_zero_iff_forall_eq_nat.mp h _ (List.mem_map.mpr ⟨a, List.mem_range.mpr ha, rfl⟩)
    rw [if_neg hl] at h2
    exact absurd hm (List.count_eq_zero.mp h2)
theorem tal_zero {log : List Nat} {pend : List Pd} {p : Nat} (ho : ∀ z ∈ outs, 0 ≤ z) (h : tal slots outs log pend p = 0) : (outs[p]?).getD 0 = 0 ∧ cntH slots log p = 0 := by
  have h2 : 0 ≤ (outs[p]?).getD 0 := by
    cases e : outs[p]? with
    | none => exact Int.le_refl 0
    | some z => exact ho z (List.mem_of_getElem? e)
  unfold tal at h
  omega
theorem j_snoc {log : List Nat} {n : Nat} (hj : ∀ (i p : Nat), log[i]? = some p → (outs[p]?).getD 0 = 0 ∧ (∀ h, h < slots.length → some p ∈ rowOf slots h → h ∈ log.take i) ∧ Let slots spot p)
    (hn : (outs[n]?).getD 0 = 0 ∧ (∀ h, h < slots.length → some n ∈ rowOf slots h → h ∈ log) ∧ Let slots spot n) :
    ∀ (i p : Nat), (log ++ [n])[i]? = some p → (outs[p]?).getD 0 = 0 ∧ (∀ h, h < slots.length → some p ∈ rowOf slots h → h ∈ (log ++ [n]).take i) ∧ Let slots spot p := by
  intro i p h
  by_cases hi : i < log.length
  · rw [List.getElem?_append_left hi] at h
    rw [List.take_append_of_le_length (Nat.le_of_lt hi)]
    exact hj i p h
  · rw [List.getElem?_append_right (by omega)] at h
    have h0 : i = log.length := by
      have := (List.getElem?_eq_some_iff.mp h).1
      have e : [n].length = 1 := rfl
      omega
    subst h0
    rw [Nat.sub_self] at h
    cases Option.some.inj (h : some n = some p)
    rw [List.take_append_of_le_length (Nat.le_refl _), List.take_length]
    exact hn
theorem kids_let {n d : Nat} (hn : n < slots.length) : ∀ p ∈ kids slots n d, Let slots spot p.node := fun p hp => .inr ⟨n, hn, kidsAt_mem hp⟩
theorem LI.step {s s' : FS} (l : LI slots outs spot s) (wk : Wk slots outs s) (e : stepF slots outs lim s = some s') : LI slots outs spot s' := by
  cases hp : s.pend with
  | nil =>
    unfold stepF at e
    rw [hp] at e
    simp only at e
    cases hs : s.shelf.getLast? with
    | none => rw [hs] at e; cases e
    | some n =>
      rw [hs] at e
      cases Option.some.inj e
      have hsp : s.shelf = s.shelf.dropLast ++ [n] := by
        obtain ⟨ys, hy⟩ := List.getLast?_eq_some_iff.mp hs
        rw [hy, List.dropLast_concat]
      have hlog : FS.log ⟨kids slots n 1, s.shelf.dropLast, s.evs ++ [.take n s.shelf.dropLast.length, .destroy n 0]⟩ = s.log ++ [n] := by
        unfold FS.log
        rw [List.filterMap_append]
        rfl
      have hmem : n ∈ s.log ++ s.shelf := by rw [hsp]; simp
      obtain ⟨_, _, hlt⟩ := live_lt (wk.ok.lv n hmem)
      have hnd := wk.ok.nd
      rw [hsp] at hnd
      have hnl : n ∉ s.log := fun h => (List.nodup_append.mp hnd).2.2 n h n (by simp) rfl
      have hz := tal_zero wk.ho (wk.ok.z n hmem)
      refine ⟨fun p hl hle hn => ?_, ?_, kids_let hlt, fun m hm => l.q2 m (by rw [hsp]; exact List.mem_append_left _ hm), ?_⟩
      · rw [hlog] at hn ⊢
        have h1 := l.t p hl hle (fun h => hn (by
          rw [hsp] at h
          simp only [List.mem_append, List.mem_singleton] at h ⊢
          rcases h with h | h | h
          · exact .inl (.inl h)
          · exact .inr h
          · exact .inl (.inr h)))
        have h2 := tal_dead (slots := slots) (outs := outs) hlt hnl 1 [] p
        rw [List.append_nil] at h2
        show 1 ≤ tal slots outs (s.log ++ [n]) (kids slots n 1) p
        rw [h2, ← hp]
        exact h1
      · rw [hlog]
        exact j_snoc l.j ⟨hz.1, cntH_zero hz.2, l.q2 n (List.mem_of_getLast? hs)⟩
      · have hc := l.c
        rw [hp] at hc
        rw [hlog]
        show (s.evs ++ [Ev.take n s.shelf.dropLast.length, .destroy n 0]).countP isRel + (kids slots n 1).length = _
        rw [List.countP_append, List.map_append, List.sum_append]
        show s.evs.countP isRel + 0 + (kids slots n 1).length = 1 + ((s.log.map (filled slots)).sum + (filled slots n + 0))
        unfold kids filled
        rw [kidsAt_filled]
        have : ([] : List Pd).length = 0 := rfl
        unfold filled at hc
        omega
  | cons p rest =>
    have hn := wk.ok.new wk.ho hp
    have hl := wk.ok.pl p (by rw [hp]; exact List.mem_cons_self)
    obtain ⟨_, _, hlt⟩ := live_lt hl
    have hnl : p.node ∉ s.log := fun h => hn (List.mem_append_left _ h)
    have hrest : ∀ q ∈ rest, Let slots spot q.node := fun q hq => l.q q (by rw [hp]; exact List.mem_cons_of_mem _ hq)
    have hpl := l.q p (by rw [hp]; exact List.mem_cons_self)
    have ht : ∀ m, m ≠ p.node → tal slots outs s.log rest m = tal slots outs s.log s.pend m := fun m hm => by rw [hp]; exact tal_pop_other _ _ _ _ _ hm
    have hc := l.c
    rw [hp, List.length_cons] at hc
    have hge : 0 ≤ tal slots outs s.log rest p.node := by
      have := tal_nonneg (slots := slots) wk.ho s.log rest p.node
      omega
    unfold stepF at e
    rw [hp] at e
    simp only at e
    by_cases h0 : 0 < tal slots outs s.log rest p.node
    · rw [if_pos h0] at e
      cases Option.some.inj e
      have hlog : FS.log ⟨rest, s.shelf, s.evs ++ [.release p.holder p.slot p.node (tal slots outs s.log rest p.node)]⟩ = s.log := by
        unfold FS.log
        rw [List.filterMap_append]
        exact List.append_nil _
      refine ⟨fun m hlm hle hnm => ?_, by rw [hlog]; exact l.j, hrest, l.q2, ?_⟩
      · rw [hlog] at hnm ⊢
        show 1 ≤ tal slots outs s.log rest m
        by_cases hm : m = p.node
        · rw [hm]
          omega
        · rw [ht m hm]
          exact l.t m hlm hle hnm
      · rw [hlog]
        show (s.evs ++ [Ev.release p.holder p.slot p.node _]).countP isRel + rest.length = _
        rw [List.countP_append]
        show s.evs.countP isRel + 1 + rest.length = _
        omega
    · rw [if_neg h0] at e
      have hzero : tal slots outs s.log rest p.node = 0 := by omega
      have hz := tal_zero wk.ho hzero
      by_cases hd : (p.depth : Int) < lim
      · rw [if_pos hd] at e
        cases Option.some.inj e
        have hlog : FS.log ⟨kids slots p.node (p.depth + 1) ++ rest, s.shelf, s.evs ++ [.release p.holder p.slot p.node (tal slots outs s.log rest p.node), .destroy p.node p.depth]⟩ = s.log ++ [p.node] := by
          unfold FS.log
          rw [List.filterMap_append]
          rfl
        refine ⟨fun m hlm hle hnm => ?_, by rw [hlog]; exact j_snoc l.j ⟨hz.1, cntH_zero hz.2, hpl⟩, fun q hq => ?_, l.q2, ?_⟩
        · rw [hlog] at hnm ⊢
          show 1 ≤ tal slots outs (s.log ++ [p.node]) (kids slots p.node (p.depth + 1) ++ rest) m
          rw [tal_dead hlt hnl]
          have hm : m ≠ p.node := fun h => hnm (by rw [h]; simp)
          rw [ht m hm]
          exact l.t m hlm hle (fun h => hnm (by
            simp only [List.mem_append, List.mem_singleton] at h ⊢
            rcases h with h | h
            · exact .inl (.inl h)
            · exact .inr h))
        · rcases List.mem_append.mp hq with hq | hq
          · exact kids_let hlt q hq
          · exact hrest q hq
        · rw [hlog]
          show (s.evs ++ [Ev.release p.holder p.slot p.node _, .destroy p.node p.depth]).countP isRel + (kids slots p.node (p.depth + 1) ++ rest).length = _
          rw [List.countP_append, List.map_append, List.sum_append, List.length_append]
          show s.evs.countP isRel + 1 + ((kids slots p.node (p.depth + 1)).length + rest.length) = 1 + ((s.log.map (filled slots)).sum + (filled slots p.node + 0))
          unfold kids filled
          rw [kidsAt_filled]
          unfold filled at hc
          omega
      · rw [if_neg hd] at e
        cases Option.some.inj e
        have hlog : FS.log ⟨rest, s.shelf ++ [p.node], s.evs ++ [.release p.holder p.slot p.node (tal slots outs s.log rest p.node), .shelve p.node (s.shelf.length + 1)]⟩ = s.log := by
          unfold FS.log
          rw [List.filterMap_append]
          exact List.append_nil _
        refine ⟨fun m hlm hle hnm => ?_, by rw [hlog]; exact l.j, hrest, fun n hnm => ?_, ?_⟩
        · rw [hlog] at hnm ⊢
          show 1 ≤ tal slots outs s.log rest m
          have hm : m ≠ p.node := fun h => hnm (by rw [h]; simp)
          rw [ht m hm]
          exact l.t m hlm hle (fun h => hnm (by
            simp only [List.mem_append, List.mem_singleton] at h ⊢
            rcases h with h | h
            · exact .inl h
            · exact .inr (.inl h)))
        · rcases List.mem_append.mp hnm with hnm | hnm
          · exact l.q2 n hnm
          · rw [List.mem_singleton.mp hnm]
            exact hpl
        · rw [hlog]
          show (s.evs ++ [Ev.release p.holder p.slot p.node _, .shelve p.node (s.shelf.length + 1)]).countP isRel + rest.length = _
          rw [List.countP_append]
          show s.evs.countP isRel + 1 + rest.length = _
          omega
theorem LI.steps {s s' : FS} (l : LI slots outs spot s) (wk : Wk slots outs s) (h : Steps slots outs lim s s') : LI slots outs spot s' := by
  obtain ⟨n, hn⟩ := h
  have key : ∀ (n : Nat) (s' : FS), run slots outs lim n s = some s' → Wk slots outs s' ∧ LI slots outs spot s' := by
    intro n
    induction n with
    | zero => intro s' e; cases Option.some.inj (e : some s = some s'); exact ⟨wk, l⟩
    | succ n ih =>
      intro s' e
      have e : (run slots outs lim n s).bind (stepF slots outs lim) = some s' := e
      cases er : run slots outs lim n s with
      | none => rw [er] at e; cases e
      | some v =>
        rw [er] at e
        obtain ⟨w1, w2⟩ := ih v er
        exact ⟨w1.step e, w2.step w1 e⟩
  exact (key n s' hn).2
theorem li_first (ho : ∀ z ∈ outs, 0 ≤ z) : LI slots outs spot (s00 spot) := by
  refine ⟨fun p hl hle hn => ?_, fun i p h => ?_, fun p hp => ?_, fun n hn => (by cases hn), rfl⟩
  · show 1 ≤ tal slots outs [] [⟨none, none, spot, 0⟩] p
    have h2 : 0 ≤ (outs[p]?).getD 0 := by
      cases e : outs[p]? with
      | none => exact Int.le_refl 0
      | some z => exact ho z (List.mem_of_getElem? e)
    unfold tal
    rw [pendC_cons]
    rcases hle with h | ⟨h, hh, hm⟩
    · subst h
      simp only [if_true]
      omega
    · have : 1 ≤ cntH slots [] p := by
        rcases Nat.eq_zero_or_pos (cntH slots [] p) with h0 | h0
        · exact absurd (cntH_zero h0 h hh hm) (by simp)
        · exact h0
      omega
  · have hz : (s00 spot).log = [] := rfl
    rw [hz] at h
    cases h
  · rw [List.mem_singleton.mp hp]
    exact .inl rfl
/-- what is let go and held by destroyed nodes only is destroyed -/
theorem lost_in {s' : FS} (l : LI slots outs spot s') (hp : s'.pend = []) (he : s'.shelf = []) {p : Nat} (hl : isLive slots p = true) (hle : Let slots spot p) (h0 : (outs[p]?).getD 0 = 0) (hh : ∀ h, h < slots.length → some p ∈ rowOf slots h → h ∈ s'.log) : p ∈ s'.log := by
  by_cases hm : p ∈ s'.log
  · exact hm
  · have h1 := l.t p hl hle (by rw [he, List.append_nil]; exact hm)
    rw [hp] at h1
    have h2 : cntH slots s'.log p = 0 := by
      unfold cntH
      refine List.sum_eq_zero_iff_forall_eq_nat.mpr fun x hx => ?_
      obtain ⟨a, ha, rfl⟩ := List.mem_map.mp hx
      by_cases hal : a ∈ s'.log
      · exact if_pos hal
      · rw [if_neg hal]
        exact List.count_eq_zero.mpr fun hc => hal (hh a (List.mem_range.mp ha) hc)
    unfold tal at h1
    rw [h0, h2, show pendC [] p = 0 from rfl] at h1
    omega
end


def natI (L : List Nat) : List Int := L.map fun n : Nat => (n : Int)
theorem ne_self2 {x : V} : (!decide (x = x)) = false := by rw [decide_eq_true rfl]; rfl
/-- a list of lost nodes, so far -/
def LSo (slots : List (Option Rw)) (outs : List Int) (spot : Nat) (L : List Nat) : Prop := ∀ (i p : Nat), L[i]? = some p → isLive slots p = true ∧ (outs[p]?).getD 0 = 0 ∧ Let slots spot p ∧ ∀ h, h < slots.length → some p ∈ rowOf slots h → h ∈ L.take i
theorem lso_len {slots : List (Option Rw)} {outs : List Int} {spot : Nat} {L : List Nat} (h : L.Nodup) (l : LSo slots outs spot L) : L.length ≤ slots.length := by
  have := h.length_le_of_subset (l₂ := List.range slots.length) fun n hn => by
    obtain ⟨i, hi⟩ := List.mem_iff_getElem?.mp hn
    exact List.mem_range.mpr (live_lt (l i n hi).1).choose_spec.2
  rwa [List.length_range] at this
/-- p wants nothing more -/
def Cl (slots : List (Option Rw)) (outs : List Int) (spot : Nat) (L : List Nat) (p : Nat) : Prop := isLive slots p = true → (outs[p]?).getD 0 = 0 → Let slots spot p → (∀ h, h < slots.length → some p ∈ rowOf slots h → h ∈ L) → p ∈ L

/-- a one for each of l that is not in A -/
def onesN (A l : List Nat) : List Int := (l.filter fun h => !decide (h ∈ A)).map fun _ => (1 : Int)
theorem onesN_snoc (A l : List Nat) (h : Nat) : onesN A (l ++ [h]) = if h ∈ A then onesN A l else onesN A l ++ [1] := by
  unfold onesN
  rw [List.filter_append, List.map_append]
  by_cases hh : h ∈ A
  · rw [if_pos hh]
    simp [List.filter, hh]
  · rw [if_neg hh]
    simp [List.filter, hh]
theorem onesN_len (A l : List Nat) : (onesN A l).length ≤ l.length := by
  unfold onesN
  rw [List.length_map]
  exact List.length_filter_le _ _
theorem onesN_nil {A l : List Nat} : onesN A l = [] ↔ ∀ h ∈ l, h ∈ A := by
  unfold onesN
  rw [List.map_eq_nil_iff, List.filter_eq_nil_iff]
  constructor
  · intro h x hx
    have := h x hx
    simpa using this
  · intro h x hx
    simp [h x hx]
theorem in_natI (h : Nat) (A : List Nat) : inV (.int (h : Int)) ((natI A).map V.int) = decide (h ∈ A) := by
  rw [in_int]
  unfold natI
  by_cases hh : h ∈ A
  · rw [decide_eq_true hh, decide_eq_true (List.mem_map.mpr ⟨h, hh, rfl⟩)]
  · rw [decide_eq_false hh, decide_eq_false fun z => by
      obtain ⟨m, hm, e⟩ := List.mem_map.mp z
      have : m = h := by omega
      exact hh (this ▸ hm)]
theorem x_eqNilI {K : PySem.W.Frag} {H : Hp} {Q : VK} {a b : Addr} {cs : List Int} (h : SqL K H a (cs.map V.int)) (hb : SqL K H b []) (q : Q (.bl cs.isEmpty) H) : rEqD K (.ref a) (.ref b) H Q := by
  refine x_eqNilD (ds := cs.map PyData.int) h (dp_intsT cs) (shaped_ints cs) hb ?_
  have e : (cs.map PyData.int).isEmpty = cs.isEmpty := by cases cs <;> rfl
  rw [e]
  exact q
theorem x_orG {σ : SS} {H : Hp} {tt tu : TT} {QB : Bool → Hp → Prop} (P : Hp → Prop) (q : ∀ G : Bool → Hp → Prop, (∀ H, P H → G true H) → tOr tt tu σ H G) (r : ∀ H, P H → QB true H) : tOr tt tu σ H QB := q QB r
section
variable {P : Program} {w : World} {K : PySem.W.Frag} {mg : Str → Option Value} {base : Heap}
def spLost (K : PySem.W.Frag) : Sp := fun vs H Q _ => ∃ (D R : Addr) (slots : List (Option Rw)) (outs : List Int) (n : Nat) (z : Int) (rs : List Addr) (H0 : Hp), vs = [.ref D, .int n, .ref R] ∧ HeapT K H D slots outs ∧ Wf slots outs ∧ outs[n]? = some z ∧ 1 ≤ z ∧ HB H0 H R rs slots.length 2000 (fun h m => h < slots.length ∧ some m ∈ rowOf slots h) ∧
  ∀ G L H', H G = none → Kx [] H H' → H' G = some (.lst (L.map fun n : Nat => V.int n)) → L.Nodup → LSo slots (outs.set n (z - 1)) n L → (∀ p, p < slots.length → Cl slots (outs.set n (z - 1)) n L p) → Q (.ref G) H'
theorem ok_lost {f : Addr} {fd : FuncData} (F : Fun K "_law_lost" "_law_lost" sQLost f fd) (T : Txt mg) : FnOk P w K mg base CX0 1 f fd ["_law_base_here", "_law_spot", "_law_held_by_here"] (spLost K) := by
  refine F.ok scQLost (fun vs H Q E h => ?_) (fun cdv A outer s H vs Q E hr h => ?_)
  · obtain ⟨D, R, slots, outs, n, z, rs, H0, rfl, _⟩ := h
    rfl
  · obtain ⟨D, R, slots, outs, n, z, rs, H0, rfl, hT, wf, hz, h1, hb, k⟩ := h
    obtain ⟨S, O, vs, hD, hS, hO, hvl, hv⟩ := id hT.ex
    have h40 := wf.most
    have hol := wf.len
    refine ⟨_, (pss_cons (ps_setLc (i := 4) (own := [("_law_place", 3), ("_law_number", 9)]) rfl scQLost.nd rfl rfl (sw_true rfl rfl rfl (by decide +kernel)) (pi_enumT (by rfl) T.b_enumerate (pa_cons (pe_ix ix_tup (pv 0) pe_int (fun _ _ => rfl)) pa_nil)) (blkOk_by (N := ["_law_base_here", "_law_spot", "_law_held_by_here", "_law_place", "_law_outer", "_law_found", "_law_before", "_law_row", "_law_ready", "_law_number", "_law_one"]) (sc := defScope sQLost) (by decide +kernel)) (fun _ _ _ _ _ => (pg_tupK (K := K) (n := 2) rfl rfl (pgs_cons (pg_name (i := 3) scQLost.nd rfl (Or.inl rfl)) (pgs_cons (pg_name (i := 9) scQLost.nd rfl (Or.inl rfl)) pgs_nil)))) (fun _ _ _ _ _ => pts_nil) (fun _ _ _ _ _ => (pe_op op_sub (pv 9) (pe_callTy call_int1 (by rfl) T.b_int boot'_int (pa_cons (pe_cmpR op_eq (pv 3) (pv 1) (nomark _)) pa_nil)))))
      (pss_cons (ps_set (i := 5) scQLost.nd rfl (Or.inr rfl) (pe_lst pa_nil))
      (pss_cons (ps_set (i := 6) scQLost.nd rfl (Or.inl rfl) (pe_un un_neg pe_int))
      (pss_cons (ps_while PassesOwn.never (pt_cmpR op_ne (pv 6) (pe_callB call_len_seq (by rfl) T.b_len boot'_len (pa_cons (pv 5) pa_nil)) (nomark _))
      (pss_cons (ps_set (i := 6) scQLost.nd rfl (Or.inl rfl) (pe_callB call_len_seq (by rfl) T.b_len boot'_len (pa_cons (pv 5) pa_nil)))
      (pss_one (ps_for PassesOwn.never rfl (pi_enumT (by rfl) T.b_enumerate (pa_cons (pe_ix ix_tup (pv 0) pe_int (fun _ _ => rfl)) pa_nil)) (pg_tup rfl (pgs_cons (pg_name (i := 3) scQLost.nd rfl (Or.inl rfl)) (pgs_cons (pg_name (i := 7) scQLost.nd rfl (Or.inl rfl)) pgs_nil)))
      (pss_cons (ps_set (i := 8) scQLost.nd rfl (Or.inl rfl) (pe_and (pe_cmpR op_notN1 (pv 7) pe_non (nomark _)) (pe_and (pe_cmpR op_eq (pe_ix ix_list (pv 4) (pv 3) (fun _ _ => rfl)) pe_int (nomark _)) (pe_one (pe_cmpR op_notIn_seq (pv 3) (pv 5) (by with_unfolding_all rfl))))))
      (pss_one (ps_if ((pw_and (pt_val (pv 8)) (pw_and1 ((pw_or (pt_cmpR op_eq (pv 3) (pv 1) (nomark _)) (pw_or1 (pt_cmpR (op_neD hr.units) (pe_ix ix_list (pv 2) (pv 3) (fun _ _ => rfl)) (pe_lst pa_nil) (nomark _))))).pt))).pt (pss_one (ps_if (pt_cmpR (op_eqD hr.units) (pe_lc (own := [("_law_one", 10)]) rfl scQLost.nd (pi_list (pe_ix ix_list (pv 2) (pv 3) (fun _ _ => rfl))) (blkOk_by (N := ["_law_base_here", "_law_spot", "_law_held_by_here", "_law_place", "_law_outer", "_law_found", "_law_before", "_law_row", "_law_ready", "_law_number", "_law_one"]) (sc := defScope sQLost) (by decide +kernel)) (fun _ _ _ _ _ => (pg_name (i := 10) scQLost.nd rfl (Or.inl rfl))) (fun _ _ _ _ _ => (pts_one (pt_cmpR (op_notIn_seqK (K := K)) (pv 10) (pv 5) (by with_unfolding_all rfl)))) (fun _ _ _ _ _ => pe_int)) (pe_lst pa_nil) (nomark _)) (pss_one (ps_expr (pe_bm PySem.F.plainAttrs_list PySem.F.slot_list_append PySem.F.type_list_append mt_append (pv 5) (pa_cons (pv 3) pa_nil)))) pss_nil)) pss_nil)))))))
      (pss_one (ps_ret (pv 5))))))), ?_⟩
    refine x_start (σ' := [some (.ref D), some (.int n), some (.ref R), none, none, none, none, none, none, none, none]) rfl ?_
    try dsimp only [cxOf]
    repeat walk_at "rd"
    refine y_lcET (xs := outs.map V.int) hO (fun Y nY => ⟨fun i H2 => Kx [] H H2 ∧ H2 Y = some (.lst (((outs.set n (z - 1)).take i).map V.int)), ⟨(Kx.refl _ _).new nY, upd_same⟩, ?_, ?_, ?_⟩)
    · rintro i H2 hi ⟨k2, _⟩
      exact k2.sqT (by simp) hO
    · rintro i x H2 H2' hi ⟨k2, e2⟩ ⟨U, x1, x2, rfl, nU, rfl, f1, f2⟩
      cases f1
      rw [List.length_map] at hi
      have hz0 : (((outs.set n (z - 1)).take i).map V.int).length < sizeLine := big_line (by rw [List.length_map, List.length_take]; omega)
      replace f2 : (outs.map V.int)[i]? = some x2 := f2
      rw [List.getElem?_map, List.getElem?_eq_getElem hi] at f2
      cases Option.some.inj f2
      repeat walk_at "rd"
      refine ⟨rfl, ?_⟩
      repeat walk_at "rd"
      refine ⟨_, lk_ne e2 nU, hz0, (k2.new nU).wr (.inl nY), ?_⟩
      rw [upd_same, List.take_add_one, List.map_append]
      congr 3
      by_cases hin : n = i
      · subst hin
        have hoz : outs[n] = z := by
          rw [List.getElem?_eq_getElem hi] at hz
          exact Option.some.inj hz
        rw [List.getElem?_set_self hi, hoz]
        simp
      · rw [List.getElem?_set_ne hin, List.getElem?_eq_getElem hi]
        have : decide (V.int (i : Int) = V.int (n : Int)) = false := decide_eq_false fun e => by have := V.int.inj e; omega
        rw [this]
        simp
    rintro H2 ⟨k2, eY⟩
    rw [List.length_map, show outs.length = (outs.set n (z - 1)).length by rw [List.length_set], List.take_length] at eY
    have hol1 : (outs.set n (z - 1)).length = slots.length := by rw [List.length_set]; exact hol
    generalize houts1 : outs.set n (z - 1) = outs1 at *
    repeat walk_at "rd"
    rename_i G nG
    have hnYG : Y ≠ G := ne_of_none eY nG
    have nG0 : H G = none := k2.fresh (by simp) nG
    refine ⟨fun m σ H3 => ∃ (L : List Nat) (bef : Int) (y3 y7 y8 y9 y10 : Option V), σ = [some (.ref D), some (.int n), some (.ref R), y3, some (.ref Y), some (.ref G), some (.int bef), y7, y8, y9, y10] ∧ Kx [] H H3 ∧ H3 Y = some (.lst (outs1.map V.int)) ∧ H3 G = some (.lst ((natI L).map V.int)) ∧ L.Nodup ∧ LSo slots outs1 n L ∧
      (bef = L.length → ∀ p, p < slots.length → Cl slots outs1 n L p) ∧ m = 2 * (slots.length - L.length) + (if bef = L.length then 0 else 1),
      ⟨_, [], -1, none, none, none, none, none, rfl, k2.new nG, lk_ne eY nG, upd_same, List.nodup_nil, fun i p h => by simp at h, fun h => by simp at h, rfl⟩, ?_⟩
    rintro m σ H3 ⟨L, bef, y3, y7, y8, y9, y10, rfl, k3, eY3, eG3, hnd, hls, hcl, rfl⟩
    repeat walk_at "rd"
    rw [show ((natI L).map V.int).length = L.length by unfold natI; rw [List.length_map, List.length_map]]
    by_cases hbe : bef = L.length
    · refine iteN (by rw [hbe]; exact ne_self2) ?_
      repeat walk_at "rd"
      exact k G L H3 nG0 k3 (by rw [eG3]; unfold natI; rw [nat_ints]) hnd hls (hcl hbe)
    · refine iteP (by simpa using fun e => hbe e) (x_turn ?_)
      repeat walk_at "rd"
      rw [show ((natI L).map V.int).length = L.length by unfold natI; rw [List.length_map, List.length_map]]
      have hS3 := k3.sqT (by simp) hS
      have hD3 := k3.sqT (by simp) hD
      repeat walk_at "rd"
      have hLN : L.length ≤ slots.length := lso_len hnd hls
      refine y_forET (xs := vs) hS3 ⟨fun i σ H4 => ∃ (X : List Nat) (y3 y7 y8 y10 : Option V), σ = [some (.ref D), some (.int n), some (.ref R), y3, some (.ref Y), some (.ref G), some (.int L.length), y7, y8, y9, y10] ∧ Kx [] H H4 ∧ H4 Y = some (.lst (outs1.map V.int)) ∧ H4 G = some (.lst ((natI (L ++ X)).map V.int)) ∧ (L ++ X).Nodup ∧ LSo slots outs1 n (L ++ X) ∧ (X = [] → ∀ p, p < i → Cl slots outs1 n L p),
        ⟨[], y3, y7, y8, y10, rfl, k3, eY3, by rw [List.append_nil]; exact eG3, by rw [List.append_nil]; exact hnd, by rw [List.append_nil]; exact hls, fun _ p hp => absurd hp (Nat.not_lt_zero _)⟩, ?_, ?_, ?_⟩
      · rintro i σ H4 hi ⟨X, y3, y7, y8, y10, rfl, k4, _⟩
        exact k4.sqT (by simp) hS
      · rintro i x σ H4 H4' hi ⟨X, y3, y7, y8, y10, rfl, k4, eY4, eG4, hnd4, hls4, hcl4⟩ ⟨U, x1, x2, rfl, nU, rfl, f1, f2⟩
        cases f1
        replace f2 : vs[i]? = some x2 := f2
        have hs : i < slots.length := by omega
        have es := List.getElem?_eq_getElem hs
        have k5 := k4.new (o := .tup [.int i, x2]) nU
        have eY5 := lk_ne (o := .tup [.int i, x2]) eY4 nU
        have eG5 := lk_ne (o := .tup [.int i, x2]) eG4 nU
        have eU : upd H4 U (.tup [.int i, x2]) U = some (.tup [.int i, x2]) := upd_same
        generalize upd H4 U (.tup [.int i, x2]) = H5 at *
        have hskip : (Cl slots outs1 n (L ++ X) i) → (X = [] → ∀ p, p < i + 1 → Cl slots outs1 n L p) := fun hc hX p hp => by
          rcases Nat.lt_or_ge p i with h | h
          · exact hcl4 hX p h
          · have : p = i := by omega
            subst this
            rw [hX, List.append_nil] at hc
            exact hc
        have hiR : i < rs.length := by rw [hb.len]; exact hs
        obtain ⟨l, hl1, hl2, hl3⟩ := hb.at_ i rs[i] (List.getElem?_eq_getElem hiR)
        have hatR : atI (rs.map V.ref) (i : Int) = some (.ref rs[i]) := atI_nat (by rw [List.getElem?_map, List.getElem?_eq_getElem hiR]; rfl)
        have eR5 := k5 R _ (by simp) hb.hR
        have el5 : H5 rs[i] = some (.lst ((natI l).map V.int)) := by
          have := k5 rs[i] _ (by simp) hl1
          rw [nat_ints] at this
          exact this
        have hio : i < outs1.length := by rw [hol1]; exact hs
        have hatO : atI (outs1.map V.int) (i : Int) = some (.int outs1[i]) := atI_nat (by rw [List.getElem?_map, List.getElem?_eq_getElem hio]; rfl)
        have hgo : (outs1[i]?).getD 0 = outs1[i] := by rw [List.getElem?_eq_getElem hio]; rfl
        have hLX := lso_len hnd4 hls4
        have hGl : ((natI (L ++ X)).map V.int).length < sizeLine := big_line (by unfold natI; rw [List.length_map, List.length_map]; omega)
        have hin : inV (.int (i : Int)) ((natI (L ++ X)).map V.int) = decide (i ∈ L ++ X) := by
          rw [in_int]
          unfold natI
          by_cases h : i ∈ L ++ X
          · rw [decide_eq_true h, decide_eq_true (List.mem_map.mpr ⟨i, h, rfl⟩)]
          · rw [decide_eq_false h, decide_eq_false fun z => by
              obtain ⟨m, hm, e⟩ := List.mem_map.mp z
              have : m = i := by omega
              exact h (this ▸ hm)]
        rcases hv i _ es with ⟨e, z'⟩ | ⟨r, row, e, z', hF⟩
        · cases Option.some.inj (z'.symm.trans f2)
          have hc : Cl slots outs1 n (L ++ X) i := fun hl => by
            unfold isLive at hl
            rw [es, e] at hl
            cases hl
          repeat walk_at "rd"
          refine iteN (by simp) ?_
          repeat walk_at "rd"
          try refine iteN (by decide) ?_
          repeat walk_at "rd"
          exact ⟨X, _, _, _, _, rfl, k5, eY5, eG5, hnd4, hls4, hskip hc⟩
        · cases Option.some.inj (z'.symm.trans f2)
          have hlv : isLive slots i = true := by simp [isLive, es, e]
          repeat walk_at "rd"
          refine iteP (by simp) ?_
          repeat walk_at "rd"
          by_cases ho0 : outs1[i] = 0
          · refine iteP (by simp [ho0]) ?_
            repeat walk_at "rd"
            try (refine x_notInL (SqL.of eG5) rfl (flat_ints _) ?_)
            rw [hin]
            repeat walk_at "rd"
            by_cases hmem : i ∈ L ++ X
            · refine iteN (by simp only [hmem, decide_true, Bool.not_true]) ?_
              repeat walk_at "rd"
              try refine iteN (by decide) ?_
              repeat walk_at "rd"
              exact ⟨X, _, _, _, _, rfl, k5, eY5, eG5, hnd4, hls4, hskip fun _ _ _ _ => hmem⟩
            refine iteP (by simp only [hmem, decide_false, Bool.not_false]) ?_
            by_cases hLet : Let slots n i
            · refine x_orG (fun H' => Kx [] H5 H') (fun Gq hG => ?_) (fun H6 k6 => ?_)
              · repeat walk_at "rd"
                by_cases hin2 : i = n
                · refine iteP (decide_eq_true (by rw [hin2])) ?_
                  repeat walk_at "rd"
                  exact hG _ (Kx.refl [] _)
                · refine iteN (decide_eq_false (fun z => hin2 (by have := V.int.inj z; omega))) ?_
                  repeat walk_at "rd"
                  rename_i q nq
                  have hl0 : l ≠ [] := fun z => by
                    rcases hLet with h | ⟨h, hh, hm⟩
                    · exact hin2 h
                    · have := (hl3 h).mpr ⟨hh, hm⟩
                      rw [z] at this
                      cases this
                  have hb0 : (!(natI l).isEmpty) = true := by
                    cases l with
                    | nil => exact absurd rfl hl0
                    | cons _ _ => rfl
                  rw [hb0]
                  exact hG _ ((Kx.refl [] H5).new nq)
              · have eR6 := k6 R _ (by simp) eR5
                have el6 := k6 rs[i] _ (by simp) el5
                have eY6 := k6 Y _ (by simp) eY5
                have eG6 := k6 G _ (by simp) eG5
                replace k6 := k5.trans k6
                repeat walk_at "rd"
                refine y_lcL (xs := (natI l).map V.int) (SqL.of el6) (fun W nW => ⟨fun t H7 => Kx [] H6 H7 ∧ H7 W = some (.lst ((onesN (L ++ X) (l.take t)).map V.int)), ⟨(Kx.refl _ _).new nW, upd_same⟩, ?_, ?_, ?_⟩)
                · rintro t H7 ht ⟨k7, _⟩
                  exact k7.sqL (by simp) (SqL.of el6)
                · rintro t x H7 H7' ht ⟨k7, eW⟩ ⟨rfl, hx⟩
                  have htl : t < l.length := by
                    unfold natI at ht
                    rwa [List.length_map, List.length_map] at ht
                  have hx2 : x = .int (l[t] : Nat) := by
                    unfold natI at hx
                    rw [List.getElem?_map, List.getElem?_map, List.getElem?_eq_getElem htl] at hx
                    exact (Option.some.inj hx).symm
                  subst hx2
                  have htk : l.take (t + 1) = l.take t ++ [l[t]] := by rw [List.take_add_one, List.getElem?_eq_getElem htl]; rfl
                  have eG7 := k7 G _ (by simp) eG6
                  have hW : ((onesN (L ++ X) (l.take t)).map V.int).length < sizeLine := big_line (by
                    rw [List.length_map]
                    have := onesN_len (L ++ X) (l.take t)
                    rw [List.length_take] at this
                    omega)
                  repeat walk_at "rd"
                  refine ⟨rfl, ?_⟩
                  repeat walk_at "rd"
                  try (refine x_notInL (SqL.of eG7) rfl (flat_ints _) ?_)
                  rw [in_natI]
                  repeat walk_at "rd"
                  by_cases hh : l[t] ∈ L ++ X
                  · refine iteN (by simp only [hh, decide_true, Bool.not_true]) ⟨k7, ?_⟩
                    rw [htk, onesN_snoc, if_pos hh]
                    exact eW
                  · refine iteP (by simp only [hh, decide_false, Bool.not_false]) ?_
                    repeat walk_at "rd"
                    refine ⟨_, eW, hW, k7.wr (.inl nW), ?_⟩
                    rw [upd_same, htk, onesN_snoc, if_neg hh, List.map_append]
                    rfl
                rintro H7 ⟨k7, eW⟩
                have hnl : ((natI l).map V.int).length = l.length := by unfold natI; rw [List.length_map, List.length_map]
                rw [hnl, List.take_length] at eW
                have eY7 := k7 Y _ (by simp) eY6
                have eG7 := k7 G _ (by simp) eG6
                replace k7 := k6.trans k7
                repeat walk_at "rd"
                rename_i q2 nq2
                refine x_eqNilI (SqL.of (lk_ne eW nq2)) (SqL.of upd_same) ?_
                have eY8 := lk_ne (o := .lst []) eY7 nq2
                have eG8 := lk_ne (o := .lst []) eG7 nq2
                have k8 := k7.new (o := .lst []) nq2
                generalize upd H7 q2 (.lst []) = H8 at *
                by_cases hall : ∀ h ∈ l, h ∈ L ++ X
                · rw [show (onesN (L ++ X) l).isEmpty = true by rw [onesN_nil.mpr hall]; rfl]
                  repeat walk_at "rd"
                  try refine iteP (by decide) ?_
                  refine ⟨ty_list (SqL.of eG8), ?_⟩
                  repeat walk_at "rd"
                  refine ⟨X ++ [i], _, _, _, _, rfl, k8.wr (.inl nG0), ?_, ?_, ?_, ?_, fun h => absurd h (by simp)⟩
                  · rw [upd_ne hnYG]
                    exact eY8
                  · rw [upd_same, ← List.append_assoc]
                    simp only [natI, List.map_append]
                    rfl
                  · rw [← List.append_assoc]
                    exact List.nodup_append.mpr ⟨hnd4, by simp, fun a ha b hb' e => by rw [List.mem_singleton.mp hb'] at e; exact hmem (e ▸ ha)⟩
                  · rw [← List.append_assoc]
                    intro j p hj
                    rcases Nat.lt_or_ge j (L ++ X).length with lt | ge
                    · rw [List.getElem?_append_left lt] at hj
                      rw [List.take_append_of_le_length (Nat.le_of_lt lt)]
                      exact hls4 j p hj
                    · rw [List.getElem?_append_right ge] at hj
                      have h0 : j = (L ++ X).length := by
                        have := (List.getElem?_eq_some_iff.mp hj).1
                        have e : [i].length = 1 := rfl
                        omega
                      subst h0
                      rw [Nat.sub_self] at hj
                      cases Option.some.inj (hj : some i = some p)
                      rw [List.take_append_of_le_length (Nat.le_refl _), List.take_length]
                      exact ⟨hlv, hgo.trans ho0, hLet, fun h hh hm => hall h ((hl3 h).mpr ⟨hh, hm⟩)⟩
                · have hne : (onesN (L ++ X) l).isEmpty = false := by
                    cases e9 : onesN (L ++ X) l with
                    | nil => exact absurd (onesN_nil.mp e9) hall
                    | cons _ _ => rfl
                  rw [hne]
                  repeat walk_at "rd"
                  try refine iteN (by decide) ?_
                  repeat walk_at "rd"
                  exact ⟨X, _, _, _, _, rfl, k8, eY8, eG8, hnd4, hls4, hskip fun _ _ _ hh => absurd (fun h hm => hh h ((hl3 h).mp hm).1 ((hl3 h).mp hm).2) hall⟩
            · have hin2 : i ≠ n := fun z => hLet (.inl z)
              have hl0 : natI l = [] := by
                cases l with
                | nil => rfl
                | cons x r =>
                  have := (hl3 x).mp List.mem_cons_self
                  exact absurd (.inr ⟨x, this.1, this.2⟩) hLet
              repeat walk_at "rd"
              refine iteN (decide_eq_false (fun z => hin2 (by have := V.int.inj z; omega))) ?_
              repeat walk_at "rd"
              rename_i q nq
              rw [hl0]
              repeat walk_at "rd"
              try refine iteN (by decide) ?_
              repeat walk_at "rd"
              exact ⟨X, _, _, _, _, rfl, k5.new nq, lk_ne eY5 nq, lk_ne eG5 nq, hnd4, hls4, hskip fun _ _ h _ => absurd h hLet⟩
          · refine iteN (by simp [ho0]) ?_
            repeat walk_at "rd"
            try refine iteN (by decide) ?_
            repeat walk_at "rd"
            exact ⟨X, _, _, _, _, rfl, k5, eY5, eG5, hnd4, hls4, hskip fun _ z => absurd (hgo ▸ z) ho0⟩
      · rintro σ H4 ⟨X, y3, y7, y8, y10, rfl, k4, eY4, eG4, hnd4, hls4, hcl4⟩
        have hLX := lso_len hnd4 hls4
        rw [List.length_append] at hLX
        rw [if_neg hbe]
        refine ⟨_, ?_, L ++ X, (L.length : Int), y3, y7, y8, y9, y10, rfl, k4, eY4, eG4, hnd4, hls4, fun he => ?_, rfl⟩
        · rw [List.length_append]
          cases X with
          | nil =>
            rw [if_pos (by simp)]
            simp only [List.length_nil]
            omega
          | cons c r =>
            rw [if_neg (by simp only [List.length_cons]; omega)]
            simp only [List.length_cons] at hLX ⊢
            omega
        · have hX : X = [] := by
            rw [List.length_append] at he
            exact List.eq_nil_of_length_eq_zero (by omega)
          subst hX
          rw [List.append_nil]
          rw [hvl] at hcl4
          exact hcl4 rfl
end


section
variable {slots : List (Option Rw)} {outs : List Int} {lim : Int} {spot : Nat}
theorem lost_iff {s' : FS} {L : List Nat} (l : LI slots outs spot s') (wk : Wk slots outs s') (hp : s'.pend = []) (he : s'.shelf = []) (hls : LSo slots outs spot L) (hcl : ∀ p, p < slots.length → Cl slots outs spot L p) : ∀ p, p ∈ L ↔ p ∈ s'.log := by
  have a : ∀ (i p : Nat), L[i]? = some p → p ∈ s'.log := by
    intro i
    induction i using Nat.strongRecOn with
    | ind i ih =>
      intro p h
      obtain ⟨h1, h2, h3, h4⟩ := hls i p h
      refine lost_in l hp he h1 h3 h2 fun x hx hm => ?_
      obtain ⟨j, hj⟩ := List.mem_iff_getElem?.mp (h4 x hx hm)
      have hji : j < i := by
        have := (List.getElem?_eq_some_iff.mp hj).1
        rw [List.length_take] at this
        omega
      rw [List.getElem?_take_of_lt hji] at hj
      exact ih j hji x hj
  have b : ∀ (i p : Nat), s'.log[i]? = some p → p ∈ L := by
    intro i
    induction i using Nat.strongRecOn with
    | ind i ih =>
      intro p h
      obtain ⟨h2, h4, h3⟩ := l.j i p h
      have hlv := wk.ok.lv p (List.mem_append_left _ (List.mem_of_getElem? h))
      obtain ⟨_, _, hlt⟩ := live_lt hlv
      refine hcl p hlt hlv h2 h3 fun x hx hm => ?_
      obtain ⟨j, hj⟩ := List.mem_iff_getElem?.mp (h4 x hx hm)
      have hji : j < i := by
        have := (List.getElem?_eq_some_iff.mp hj).1
        rw [List.length_take] at this
        omega
      rw [List.getElem?_take_of_lt hji] at hj
      exact ih j hji x hj
  intro p
  constructor
  · intro h
    obtain ⟨i, hi⟩ := List.mem_iff_getElem?.mp h
    exact a i p hi
  · intro h
    obtain ⟨i, hi⟩ := List.mem_iff_getElem?.mp h
    exact b i p hi
theorem wk_steps {s s' : FS} (wk : Wk slots outs s) (h : Steps slots outs lim s s') : Wk slots outs s' := by
  obtain ⟨n, hn⟩ := h
  have key : ∀ (n : Nat) (s' : FS), run slots outs lim n s = some s' → Wk slots outs s' := by
    intro n
    induction n with
    | zero => intro s' e; cases Option.some.inj (e : some s = some s'); exact wk
    | succ n ih =>
      intro s' e
      have e : (run slots outs lim n s).bind (stepF slots outs lim) = some s' := e
      cases er : run slots outs lim n s with
      | none => rw [er] at e; cases e
      | some v =>
        rw [er] at e
        exact (ih v er).step e
  exact key n s' hn
theorem eqv_ints : ∀ cs : List Int, PyData.eqvAll (cs.map PyData.int) (cs.map PyData.int) = true
  | [] => rfl
  | c :: r => by simp [PyData.eqvAll, PyData.eqv, eqv_ints r]
theorem x_neSame {K : PySem.W.Frag} {H : Hp} {Q : VK} {a b : Addr} {cs : List Int} (h : SqL K H a (cs.map V.int)) (hb : SqL K H b (cs.map V.int)) (q : Q (.bl false) H) : rNeD K (.ref a) (.ref b) H Q := by
  refine ⟨.list (cs.map PyData.int), .list (cs.map PyData.int), .lst h (dp_intsT cs), .lst hb (dp_intsT cs), shaped_ints cs, shaped_ints cs, ?_⟩
  rw [show PyData.eqv (.list (cs.map PyData.int)) (.list (cs.map PyData.int)) = true by simp [PyData.eqv, eqv_ints]]
  exact q
theorem sum_castN : ∀ l : List Nat, (l.map fun n : Nat => (n : Int)).sum = ((l.sum : Nat) : Int)
  | [] => rfl
  | a :: r => by
    rw [List.map_cons, List.sum_cons, List.sum_cons, sum_castN r]
    omega
theorem same_perm {A B : List Nat} (hA : A.Nodup) (hB : B.Nodup) (h : ∀ p, p ∈ A ↔ p ∈ B) : A.Perm B := (List.perm_ext_iff_of_nodup hA hB).mpr fun p => h p
theorem sorted_same {A B : List Nat} (pab : A.Perm B) {ns ms : List Int} (h1 : ns.Perm (A.map fun n : Nat => (n : Int))) (h2 : ms.Perm (B.map fun n : Nat => (n : Int))) (s1 : ns.Pairwise (· ≤ ·)) (s2 : ms.Pairwise (· ≤ ·)) : ns = ms :=
  List.Perm.eq_of_pairwise (le := fun a b : Int => a ≤ b) (fun a b _ _ h1 h2 => Int.le_antisymm h1 h2) s1 s2 ((h1.trans (pab.map _)).trans h2.symm)
theorem afterS_same {A B : List Nat} (h : ∀ p, p ∈ A ↔ p ∈ B) : afterS slots A = afterS slots B := by
  unfold afterS
  refine List.map_congr_left fun i _ => ?_
  by_cases hi : i ∈ A
  · rw [if_pos hi, if_pos ((h i).mp hi)]
  · rw [if_neg hi, if_neg fun z => hi ((h i).mpr z)]
theorem perm_nats {A : List Nat} {ns : List Int} (h : ns.Perm (A.map fun n : Nat => (n : Int))) : ∃ ms : List Nat, ns = (ms.map fun n : Nat => (n : Int)) ∧ ms.Perm A := by
  refine ⟨ns.map Int.toNat, ?_, ?_⟩
  · rw [List.map_map]
    refine (List.map_id ns).symm.trans (List.map_congr_left fun z hz => ?_)
    obtain ⟨n, _, rfl⟩ := List.mem_map.mp (h.mem_iff.mp hz)
    rfl
  · have := h.map Int.toNat
    rw [List.map_map] at this
    refine this.trans (List.Perm.of_eq ?_)
    refine (List.map_congr_left fun n _ => ?_).trans (List.map_id A)
    rfl
theorem good_heapB (h40 : slots.length ≤ 40) (ho : outs.length ≤ 40) (hz : ∀ z ∈ outs, z.natAbs < 10 ^ 9) (hr : ∀ row, some row ∈ slots → row.length ≤ 40 ∧ ∀ k, some k ∈ row → k < 40) : Good (heapD slots outs) 3 (2 * (40 * (40 * 32 + 1) + 1)) := by
  have hrow : ∀ row, some row ∈ slots → Good (rowD (some row)) 1 (40 * 32) := by
    intro row hrw
    refine Good.tuple (n := 40) ?_ (by rw [List.length_map]; exact (hr row hrw).1)
    intro d hd
    obtain ⟨s, hs, rfl⟩ := List.mem_map.mp hd
    cases s with
    | none => exact Good.none.mono (Nat.le_refl _) (by decide)
    | some k =>
      have hk := (hr row hrw).2 k hs
      exact Good.int (by show ((k : Int)).natAbs < _; omega)
  refine Good.tuple (n := 2) (k := 2) (w := 40 * (40 * 32 + 1)) ?_ (by simp)
  intro d hd
  simp only [List.mem_cons, List.not_mem_nil, or_false] at hd
  rcases hd with rfl | rfl
  · refine Good.tuple ?_ (by rw [List.length_map]; exact h40)
    intro d hd
    obtain ⟨o, ho, rfl⟩ := List.mem_map.mp hd
    cases o with
    | none => exact Good.none.mono (by decide) (by decide)
    | some row => exact hrow row ho
  · refine (Good.tuple (k := 0) (w := 31) (n := 40) ?_ (by rw [List.length_map]; exact ho)).mono (by decide) (by decide)
    intro d hd
    obtain ⟨z, hz', rfl⟩ := List.mem_map.mp hd
    exact Good.int (hz z hz')
theorem good_left (wf : Wf slots outs) {n : Nat} {z : Int} (hz : outs[n]? = some z) (h1 : 1 ≤ z) (log : List Nat) : Good (heapD (afterS slots log) (outs.set n (z - 1))) 3 (2 * (40 * (40 * 32 + 1) + 1)) := by
  refine good_heapB (by rw [afterS_len]; exact wf.most) (by rw [List.length_set, wf.len]; exact wf.most) (fun y hy => ?_) fun row hrow => ?_
  · rcases List.mem_or_eq_of_mem_set hy with hy | rfl
    · have := wf.outs y hy
      omega
    · have := wf.outs z (List.mem_of_getElem? hz)
      omega
  · have hin : some row ∈ slots := by
      unfold afterS at hrow
      obtain ⟨i, hi, e⟩ := List.mem_map.mp hrow
      have hi2 := List.mem_range.mp hi
      by_cases hl : i ∈ log
      · rw [if_pos hl] at e
        cases e
      · rw [if_neg hl, List.getElem?_eq_getElem hi2] at e
        rw [← e]
        exact List.getElem_mem hi2
    refine ⟨wf.row row hin, fun k hk => ?_⟩
    obtain ⟨r, e⟩ := wf.live row hin k hk
    have := (List.getElem?_eq_some_iff.mp e).1
    have := wf.most
    omega
theorem sum_perm {A B : List Nat} (f : Nat → Nat) (h : A.Perm B) : (A.map f).sum = (B.map f).sum := (h.map f).sum_nat
end


theorem x_slT2 {K : PySem.W.Frag} {H : Hp} {Q : VK} {a : Addr} {xs : List V} {lo hi : Option Int} (h : SqT K H a xs) (q : ∀ p H', Kx [] H H' → SqT K H' p (cutV xs lo hi) → Q (.ref p) H') : rSlA K (.ref a) lo hi H Q := by
  refine ⟨a, xs, rfl, h, fun hw => ?_, fun _ p np => q p _ ((Kx.refl [] H).new np) (SqT.of upd_same)⟩
  refine q a H (Kx.refl [] H) ?_
  have e : cutV xs lo hi = xs := by
    unfold cutV
    rw [hw.1, hw.2, List.drop_zero, Nat.sub_zero, List.take_length]
  rwa [e]
theorem cut_toN (xs : List V) (k : Nat) : cutV xs none (some (k : Int)) = xs.take k := by
  unfold cutV
  rw [HT.sIx_none, show HT.sIx xs.length xs.length (some (k : Int)) = min k xs.length from HT.sIx_nat xs.length xs.length k]
  show List.take (min k xs.length - 0) (List.drop 0 xs) = _
  rw [Nat.sub_zero, List.drop_zero]
  rcases Nat.le_total k xs.length with h | h
  · rw [Nat.min_eq_left h]
  · rw [Nat.min_eq_right h, List.take_length, List.take_of_length_le h]
theorem sl_tupAK {X : Cx} {K : PySem.W.Frag} (e : X.K = K := by rfl) : SlR X (rSlA K) := e ▸ sl_tupA
section
variable {P : Program} {w : World} {K : PySem.W.Frag} {mg : Str → Option Value} {base : Heap}

def spRight (K : PySem.W.Frag) : Sp := fun vs H Q _ => ∃ (D B : Addr) (slots : List (Option Rw)) (outs : List Int) (n : Nat) (z : Int) (bs : List Int), vs = [.ref D, .int n, .ref B] ∧ HeapT K H D slots outs ∧ Wf slots outs ∧ isLive slots n = true ∧ outs[n]? = some z ∧ 1 ≤ z ∧ SqL K H B (bs.map V.int) ∧ (∀ b ∈ bs, 0 < b) ∧ ∀ H', Kx [] H H' → Q (.bl true) H'
theorem ok_right {f : Addr} {fd : FuncData} (F : Fun K "_law_right" "_law_right" sQRight f fd) (T : Txt mg) (l_law_held_by : Lo P w K mg base "_law_held_by" 1 ["_law_base_here"] (spHeld K)) (l_law_lost : Lo P w K mg base "_law_lost" 1 ["_law_base_here", "_law_spot", "_law_held_by_here"] (spLost K))
    (x_drop : Lkx P w K mg base "drop" 7 ["heap", "node", "limit"] ["limit"] (gApp 2 1) (spDrop K)) (x_trace : Lkx P w K mg base "trace" 7 ["heap", "node", "limit"] ["limit"] (gApp 2 1) (spTrace K)) : FnG P w K mg base 8 f fd ["_law_base_here", "_law_spot", "_law_bounds"] (spRight K) := by
  refine FnG.body F scQRight (fun vs H Q E h => ?_) (fun cdv A outer s H vs Q E hgd hr h => ?_)
  · obtain ⟨D, B, slots, outs, n, z, bs, rfl, _⟩ := h
    rfl
  · obtain ⟨D, B, slots, outs, n, z, bs, rfl, hT, wf, hlv, hz, h1, hB, hbs, k⟩ := h
    refine ⟨_, (pss_cons (ps_set (i := 3) scQRight.nd rfl (Or.inl rfl) (pe_lo l_law_held_by (hr.mono (by decide)) (by rfl) (pa_cons (pv 0) pa_nil)))
      (pss_cons (ps_set (i := 4) scQRight.nd rfl (Or.inl rfl) (pe_callB cr_sorted (by rfl) T.b_sorted boot'_sorted (pa_cons (pe_lo l_law_lost (hr.mono (by decide)) (by rfl) (pa_cons (pv 0) (pa_cons (pv 1) (pa_cons (pv 3) pa_nil)))) pa_nil)))
      (pss_cons (ps_set (i := 7) scQRight.nd rfl (Or.inl rfl) (pe_callB (cr_sum rfl) (by rfl) T.b_sum boot'_sum (pa_cons (pe_lc (own := [("_law_place", 5)]) rfl scQRight.nd (pi_list (pv 4)) (blkOk_by (N := ["_law_base_here", "_law_spot", "_law_bounds", "_law_held_by_here", "_law_lost_here", "_law_place", "_law_entry", "_law_filled", "_law_after", "_law_bound_here", "_law_log", "_law_high", "_law_left", "_law_one", "_law_event"]) (sc := defScope sQRight) (by decide +kernel)) (fun _ _ _ _ _ => (pg_name (i := 5) scQRight.nd rfl (Or.inl rfl))) (fun _ _ _ _ _ => pts_nil) (fun _ _ _ _ _ => (pe_callB (call_lenK (K := K)) (by rfl) T.b_len boot'_len (pa_cons (pe_lc (own := [("_law_entry", 6)]) rfl scQRight.nd (pi_tupK (K := K) (pe_ix (ix_tupK (K := K)) (pe_ix (ix_tupK (K := K)) (pv 0) pe_int (fun _ _ => rfl)) (pv 5) (fun _ _ => rfl))) (blkOk_byN (N := ["_law_base_here", "_law_spot", "_law_bounds", "_law_held_by_here", "_law_lost_here", "_law_place", "_law_entry", "_law_filled", "_law_after", "_law_bound_here", "_law_log", "_law_high", "_law_left", "_law_one", "_law_event"]) (by show blkC _ (relabel' _ (defScope sQRight)) _ _ = true; decide +kernel)) (fun _ _ _ _ _ => (pg_name (i := 6) scQRight.nd rfl (Or.inl rfl))) (fun _ _ _ _ _ => (pts_one (pt_cmpR op_notN1 (pv 6) pe_non (nomark _)))) (fun _ _ _ _ _ => pe_int)) pa_nil)))) pa_nil)))
      (pss_cons (ps_set (i := 8) scQRight.nd rfl (Or.inl rfl) (pe_callB (call_repr hgd hr.units) (by rfl) T.b_repr boot'_repr (pa_cons (pe_ix ix_tup (pe_lkx x_drop (hr.mono (by decide)) (by rfl) (pa_cons (pv 0) (pa_cons (pv 1) pa_nil)) (pk_cons pe_int pk_nil)) pe_int (fun _ _ => rfl)) pa_nil)))
      (pss_cons (ps_for PassesOwn.never rfl (pi_list (pv 2)) (pg_name (i := 9) scQRight.nd rfl (Or.inl rfl))
      (pss_cons (ps_asg (pe_lkx x_drop (hr.mono (by decide)) (by rfl) (pa_cons (pv 0) (pa_cons (pv 1) pa_nil)) (pk_cons (pv 9) pk_nil)) (pg_tup rfl (pgs_cons (pg_name (i := 10) scQRight.nd rfl (Or.inr rfl)) (pgs_cons (pg_name (i := 11) scQRight.nd rfl (Or.inl rfl)) (pgs_cons (pg_name (i := 12) scQRight.nd rfl (Or.inl rfl)) pgs_nil)))))
      (pss_cons (ps_if ((pw_or (pt_cmpR (op_neD hr.units) (pe_callB cr_sortedTup (by rfl) T.b_sorted boot'_sorted (pa_cons (pv 10) pa_nil)) (pv 4) (nomark _)) (pw_or1 (pt_cmpR op_ne (pe_callB (call_repr hgd hr.units) (by rfl) T.b_repr boot'_repr (pa_cons (pv 12) pa_nil)) (pv 8) (nomark _))))).pt (pss_one (ps_ret pe_bl)) pss_nil)
      (pss_cons (ps_for PassesOwn.never rfl (pi_enumT (by rfl) T.b_enumerate (pa_cons (pv 10) pa_nil)) (pg_tup rfl (pgs_cons (pg_name (i := 5) scQRight.nd rfl (Or.inr rfl)) (pgs_cons (pg_name (i := 6) scQRight.nd rfl (Or.inl rfl)) pgs_nil)))
      (pss_one (ps_if (pt_cmpR (op_neD hr.units) (pe_lc (own := [("_law_one", 13)]) rfl scQRight.nd (pi_list (pe_ix ix_list (pv 3) (pv 6) (fun _ _ => rfl))) (blkOk_by (N := ["_law_base_here", "_law_spot", "_law_bounds", "_law_held_by_here", "_law_lost_here", "_law_place", "_law_entry", "_law_filled", "_law_after", "_law_bound_here", "_law_log", "_law_high", "_law_left", "_law_one", "_law_event"]) (sc := defScope sQRight) (by decide +kernel)) (fun _ _ _ _ _ => (pg_name (i := 13) scQRight.nd rfl (Or.inl rfl))) (fun _ _ _ _ _ => (pts_one (pt_cmpR (op_notIn_seqK (K := K)) (pv 13) (pe_slice (sl_tupAK (K := K)) (pv 10) po_none (po_some (pv 5))) (by with_unfolding_all rfl)))) (fun _ _ _ _ _ => pe_int)) (pe_lst pa_nil) (nomark _)) (pss_one (ps_ret pe_bl)) pss_nil)))
      (pss_one (ps_if (pt_cmpR op_ne (pe_callB call_len_seq (by rfl) T.b_len boot'_len (pa_cons (pe_lc (own := [("_law_event", 14)]) rfl scQRight.nd (pi_list (pe_lkx x_trace (hr.mono (by decide)) (by rfl) (pa_cons (pv 0) (pa_cons (pv 1) pa_nil)) (pk_cons (pv 9) pk_nil))) (blkOk_by (N := ["_law_base_here", "_law_spot", "_law_bounds", "_law_held_by_here", "_law_lost_here", "_law_place", "_law_entry", "_law_filled", "_law_after", "_law_bound_here", "_law_log", "_law_high", "_law_left", "_law_one", "_law_event"]) (sc := defScope sQRight) (by decide +kernel)) (fun _ _ _ _ _ => (pg_name (i := 14) scQRight.nd rfl (Or.inl rfl))) (fun _ _ _ _ _ => (pts_one (pt_cmpR op_eq (pe_ix (ix_tupK (K := K)) (pv 14) pe_int (fun _ _ => rfl)) pe_str (nomark _)))) (fun _ _ _ _ _ => pe_int)) pa_nil)) (pe_op op_add pe_int (pv 7)) (nomark _)) (pss_one (ps_ret pe_bl)) pss_nil))))))
      (pss_one (ps_ret pe_bl))))))), ?_⟩
    refine x_start (σ' := [some (.ref D), some (.int n), some (.ref B), none, none, none, none, none, none, none, none, none, none, none, none]) rfl ?_
    try dsimp only [cxOf]
    have h40 := wf.most
    repeat walk_at "rd"
    refine ⟨D, slots, outs, rfl, hT, wf, fun R rs H1 hb => ?_⟩
    have k1 := hb.kx
    repeat walk_at "rd"
    refine ⟨D, R, slots, outs, n, z, rs, H, rfl, hT.keep k1, wf, hz, h1, hb, fun G L H2 nG k2 eG hnd hls hcl => ?_⟩
    rw [nat_ints] at eG
    have hLl : L.length ≤ 40 := Nat.le_trans (lso_len hnd hls) h40
    refine ⟨G, _, rfl, SqL.of eG, by rw [List.length_map]; omega, fun ns p hperm hsort np => ?_⟩
    obtain ⟨ms, rfl, hms⟩ := perm_nats hperm
    have k3 : Kx [] H2 (upd H2 p (.lst ((ms.map fun n : Nat => (n : Int)).map V.int))) := (Kx.refl [] H2).new np
    have ep3 := upd_same (H := H2) (a := p) (o := .lst ((ms.map fun n : Nat => (n : Int)).map V.int))
    have kR3 := k2.trans k3
    replace k3 := k1.trans (k2.trans k3)
    generalize upd H2 p (.lst ((ms.map fun n : Nat => (n : Int)).map V.int)) = H3 at *
    have hT3 := hT.keep k3
    obtain ⟨S, O, vs, hD, hS, hO, hvl, hv⟩ := id hT3.ex
    repeat walk_at "rd"
    have hmsl : ms.length ≤ 40 := by rw [hms.length_eq]; exact hLl
    refine y_lcL (xs := (ms.map fun n : Nat => (n : Int)).map V.int) (SqL.of ep3) (fun F nF => ⟨fun t H4 => Kx [] H3 H4 ∧ H4 F = some (.lst (((ms.take t).map fun m => (filled slots m : Int)).map V.int)), ⟨(Kx.refl _ _).new nF, upd_same⟩, ?_, ?_, ?_⟩)
    · rintro t H4 ht ⟨k4, _⟩
      exact k4.sqL (by simp) (SqL.of ep3)
    · rintro t x H4 H4' ht ⟨k4, eF⟩ ⟨rfl, hx⟩
      have htl : t < ms.length := by rwa [List.length_map, List.length_map] at ht
      have hx2 : x = .int (ms[t] : Nat) := by
        rw [List.getElem?_map, List.getElem?_map, List.getElem?_eq_getElem htl] at hx
        exact (Option.some.inj hx).symm
      subst hx2
      have htk : ms.take (t + 1) = ms.take t ++ [ms[t]] := by rw [List.take_add_one, List.getElem?_eq_getElem htl]; rfl
      obtain ⟨i0, hi0⟩ := List.mem_iff_getElem?.mp (hms.mem_iff.mp (List.getElem_mem htl))
      obtain ⟨row, er, _⟩ := live_lt (hls i0 _ hi0).1
      generalize ms[t] = m at *
      rcases hv m _ er with ⟨e', _⟩ | ⟨r, row', e', zr, hR⟩
      · cases e'
      cases Option.some.inj e'
      have hatS : atI vs (m : Int) = some (V.ref r) := atI_nat zr
      have hD4 := k4.sqT (by simp) hD
      have hS4 := k4.sqT (by simp) hS
      have hR4 := k4.sqT (by simp) hR
      have hr40 := wf.row row (List.mem_of_getElem? er)
      have hrl : (rowV row).length = row.length := by unfold rowV; rw [List.length_map]
      repeat walk_at "rd"
      refine ⟨rfl, ?_⟩
      repeat walk_at "rd"
      refine y_lcT hR4 (fun W nW => ⟨fun j H5 => Kx [] H4' H5 ∧ H5 W = some (.lst ((List.replicate ((row.take j).countP Option.isSome) (1 : Int)).map V.int)), ⟨(Kx.refl _ _).new nW, upd_same⟩, ?_, ?_, ?_⟩)
      · rintro j H5 hj ⟨k5, _⟩
        exact k5.sqT (by simp) hR4
      · rintro j x H5 H5' hj ⟨k5, eW⟩ ⟨rfl, hx⟩
        have hj2 : j < row.length := by rwa [hrl] at hj
        have ej := List.getElem?_eq_getElem hj2
        have hx3 : x = slotV row[j] := by
          unfold rowV at hx
          rw [List.getElem?_map, ej] at hx
          exact (Option.some.inj hx).symm
        subst hx3
        have htk2 : row.take (j + 1) = row.take j ++ [row[j]] := by rw [List.take_add_one, ej]; rfl
        have hcl2 : (row.take j).countP Option.isSome ≤ j := Nat.le_trans List.countP_le_length (by rw [List.length_take]; exact Nat.min_le_left _ _)
        repeat walk_at "rd"
        refine ⟨rfl, ?_⟩
        repeat walk_at "rd"
        cases eo : row[j] with
        | none =>
          rw [eo] at htk2
          refine iteN (by simp [slotV]) ⟨k5, ?_⟩
          rw [htk2, List.countP_append]
          simpa using eW
        | some e =>
          rw [eo] at htk2
          refine iteP (by simp [slotV]) ?_
          repeat walk_at "rd"
          refine ⟨_, eW, small1000 (by rw [List.length_map, List.length_replicate]; omega), k5.wr (.inl nW), ?_⟩
          rw [upd_same, htk2, List.countP_append]
          rw [show (List.countP Option.isSome [some e]) = 1 from rfl, List.replicate_succ', List.map_append]
          rfl
      · rintro H5 ⟨k5, eW⟩
        rw [hrl, List.take_length] at eW
        have eF5 := k5 F _ (by simp) eF
        repeat walk_at "rd"
        have ec : ((List.replicate (row.countP Option.isSome) (1 : Int)).map V.int).length = filled slots m := by
          rw [List.length_map, List.length_replicate]
          unfold filled
          rw [rowOf_some er]
        rw [ec]
        refine ⟨_, eF5, small1000 (by rw [List.length_map, List.length_map, List.length_take]; omega), (k4.trans k5).wr (.inl nF), ?_⟩
        rw [upd_same, htk, List.map_append, List.map_append]
        rfl
    rintro H4 ⟨k4, eF⟩
    rw [List.length_map, List.length_map, List.take_length] at eF
    repeat walk_at "rd"
    refine x_sum (SqL.of eF) ?_
    have esum : (ms.map fun m => (filled slots m : Int)).sum = (((ms.map (filled slots)).sum : Nat) : Int) := by
      rw [← sum_castN, List.map_map]
      rfl
    rw [esum]
    have wk0 : Wk slots (outs.set n (z - 1)) (s00 n) := wk_first wf hz h1 hlv
    have ends : ∀ {lim : Int} {s' : FS}, Steps slots (outs.set n (z - 1)) lim (s00 n) s' → s'.pend = [] → s'.shelf = [] → Wk slots (outs.set n (z - 1)) s' ∧ LI slots (outs.set n (z - 1)) n s' ∧ (∀ p, p ∈ L ↔ p ∈ s'.log) ∧ L.Perm s'.log := fun hst hp he => by
      have w := wk_steps wk0 hst
      have l := (li_first wk0.ho).steps wk0 hst
      have m := lost_iff l w hp he hls hcl
      exact ⟨w, l, m, same_perm hnd (List.nodup_append.mp w.ok.nd).1 m⟩
    have gL := good_left wf hz h1
    have ep4 := k4 p _ (by simp) ep3
    have k04 := k3.trans k4
    repeat walk_at "rd"
    refine ⟨D, slots, outs, n, z, 1, rfl, hT.keep k04, wf, hlv, hz, h1, by decide, fun B1 L1 X1 pk1 s1 H5 k5 hB1 hL1 hst1 hp1 he1 hpk1 hX1 => ?_⟩
    have ends1 := ends hst1 hp1 he1
    repeat walk_at "rd"
    refine x_repr hX1.dp (gL _) (by decide) (by decide) ?_
    rw [← afterS_same ends1.2.2.1]
    generalize hax : (heapD (afterS slots L) (outs.set n (z - 1))).shown = ax
    have k05 := k04.trans k5
    have ep5 := k5 p _ (by simp) ep4
    repeat walk_at "rd"
    refine y_forL (xs := bs.map V.int) (k05.sqL (by simp) hB) ⟨fun t σ H6 => ∃ (y5 y6 y9 y10 y11 y12 y13 y14 : Option V), σ = [some (.ref D), some (.int n), some (.ref B), some (.ref R), some (.ref p), y5, y6, some (.int (((ms.map (filled slots)).sum : Nat) : Int)), some (.str ax), y9, y10, y11, y12, y13, y14] ∧ Kx [] H5 H6, ⟨_, _, _, _, _, _, _, _, rfl, Kx.refl [] H5⟩, ?_, ?_, ?_⟩
    · rintro t σ H6 ht ⟨y5, y6, y9, y10, y11, y12, y13, y14, rfl, k6⟩
      exact (k05.trans k6).sqL (by simp) hB
    · rintro t x σ H6 H6' ht ⟨y5, y6, y9, y10, y11, y12, y13, y14, rfl, k6⟩ ⟨rfl, hx⟩
      rw [List.length_map] at ht
      obtain ⟨b, rfl, hbm⟩ : ∃ b : Int, x = .int b ∧ b ∈ bs := by
        rw [List.getElem?_map, List.getElem?_eq_getElem ht] at hx
        exact ⟨_, (Option.some.inj hx).symm, List.getElem_mem ht⟩
      have hpos := hbs b hbm
      have k06 := k05.trans k6
      have ep6 := k6 p _ (by simp) ep5
      repeat walk_at "rd"
      refine ⟨D, slots, outs, n, z, b, rfl, hT.keep k06, wf, hlv, hz, h1, hpos, fun B2 L2 X2 pk2 s2 H7 k7 hB2 hL2 hst2 hp2 he2 hpk2 hX2 => ?_⟩
      obtain ⟨wk2, li2, mem2, perm2⟩ := ends hst2 hp2 he2
      have ep7 := k7 p _ (by simp) ep6
      have hL2i := hL2
      rw [nat_ints] at hL2i
      repeat walk_at "rd"
      refine x_sortedTup hL2i fun ns q hpm hsrt nq => ?_
      have ens : ns = ms.map fun n : Nat => (n : Int) := sorted_same perm2.symm hpm hperm hsrt hsort
      rw [ens]
      repeat walk_at "rd"
      refine x_neSame (SqL.of upd_same) (SqL.of (lk_ne ep7 nq)) ?_
      have k8 : Kx [] H7 (upd H7 q (.lst ((ms.map fun n : Nat => (n : Int)).map V.int))) := (Kx.refl [] H7).new nq
      have hX8 := hX2.keep k8
      have hL8 := k8.sqT (by simp) hL2
      generalize upd H7 q (.lst ((ms.map fun n : Nat => (n : Int)).map V.int)) = H8 at *
      have k08 := (k06.trans k7).trans k8
      repeat walk_at "rd"
      try refine iteN (by decide) ?_
      repeat walk_at "rd"
      refine x_repr hX8.dp (gL _) (by decide) (by decide) ?_
      rw [← afterS_same mem2, hax]
      repeat walk_at "rd"
      try refine iteN (by simp) ?_
      have hR8 := (kR3.trans (k4.trans (k5.trans (k6.trans (k7.trans k8))))) R _ (by simp) hb.hR
      have hlen2 : (s2.log.map fun n : Nat => V.int n).length = s2.log.length := List.length_map _
      repeat walk_at "rd"
      refine y_forET hL8 ⟨fun j σ H9 => ∃ (y5 y6 y13 : Option V), σ = [some (.ref D), some (.int n), some (.ref B), some (.ref R), some (.ref p), y5, y6, some (.int (((ms.map (filled slots)).sum : Nat) : Int)), some (.str ax), some (.int b), some (.ref L2), some (.int pk2), some (.ref X2), y13, y14] ∧ Kx [] H8 H9, ⟨_, _, _, rfl, Kx.refl [] H8⟩, ?_, ?_, ?_⟩
      · rintro j σ H9 hj ⟨y5, y6, y13, rfl, k9⟩
        exact k9.sqT (by simp) hL8
      · rintro j x σ H9 H9' hj ⟨y5, y6, y13, rfl, k9⟩ ⟨U, x1, x2, rfl, nU, rfl, f1, f2⟩
        cases f1
        replace f2 : (s2.log.map fun n : Nat => V.int n)[j]? = some x2 := f2
        rw [hlen2] at hj
        rw [List.getElem?_map, List.getElem?_eq_getElem hj] at f2
        cases Option.some.inj f2
        have hlj := li2.j j _ (List.getElem?_eq_getElem hj)
        have hlvj := wk2.ok.lv _ (List.mem_append_left _ (List.getElem_mem hj))
        obtain ⟨_, _, hlt⟩ := live_lt hlvj
        generalize s2.log[j] = m at *
        have hmr : m < rs.length := by rw [hb.len]; exact hlt
        obtain ⟨l, hl1, hl2, hl3⟩ := hb.at_ m rs[m] (List.getElem?_eq_getElem hmr)
        have hatR : atI (rs.map V.ref) (m : Int) = some (.ref rs[m]) := atI_nat (by rw [List.getElem?_map, List.getElem?_eq_getElem hmr]; rfl)
        have k10 := k9.new (o := .tup [.int j, .int m]) nU
        have hU10 := upd_same (H := H9) (a := U) (o := .tup [.int j, .int m])
        generalize upd H9 U (.tup [.int j, .int m]) = H10 at *
        have eR10 := k10 R _ (by simp) hR8
        have el10 : H10 rs[m] = some (.lst ((natI l).map V.int)) := by
          have := (kR3.trans (k4.trans (k5.trans (k6.trans (k7.trans (k8.trans k10)))))) rs[m] _ (by simp) hl1
          rw [nat_ints] at this
          exact this
        have hL10 := k10.sqT (by simp) hL8
        repeat walk_at "rd"
        refine y_lcL (xs := (natI l).map V.int) (SqL.of el10) (fun W nW => ⟨fun t H11 => Kx [] H10 H11 ∧ H11 W = some (.lst []), ⟨(Kx.refl _ _).new nW, upd_same⟩, ?_, ?_, ?_⟩)
        · rintro t H11 ht ⟨k11, _⟩
          exact k11.sqL (by simp) (SqL.of el10)
        · rintro t x H11 H11' ht ⟨k11, eW⟩ ⟨rfl, hx⟩
          have htl : t < l.length := by
            unfold natI at ht
            rwa [List.length_map, List.length_map] at ht
          have hx2 : x = .int (l[t] : Nat) := by
            unfold natI at hx
            rw [List.getElem?_map, List.getElem?_map, List.getElem?_eq_getElem htl] at hx
            exact (Option.some.inj hx).symm
          subst hx2
          have hin : l[t] ∈ s2.log.take j := by
            have := (hl3 l[t]).mp (List.getElem_mem htl)
            exact hlj.2.1 _ this.1 this.2
          have hL11 := k11.sqT (by simp) hL10
          repeat walk_at "rd"
          refine ⟨rfl, ?_⟩
          repeat walk_at "rd"
          refine x_slT2 hL11 fun p2 H12 k12 hq2 => ?_
          rw [cut_toN, ← List.map_take, nat_ints] at hq2
          refine ⟨p2, _, rfl, .inr hq2, rfl, flat_ints _, ?_⟩
          rw [show inV (.int (l[t] : Nat)) (((s2.log.take j).map fun n : Nat => (n : Int)).map V.int) = true from (in_natI _ _).trans (decide_eq_true hin)]
          repeat walk_at "rd"
          exact iteN (by decide) ⟨k11.trans k12, k12 W _ (by simp) eW⟩
        rintro H11 ⟨k11, eW⟩
        repeat walk_at "rd"
        rename_i q9 nq9
        refine x_neNil (cs := []) (SqL.of (lk_ne eW nq9)) (SqL.of upd_same) ?_
        repeat walk_at "rd"
        try refine iteN (by decide) ?_
        repeat walk_at "rd"
        exact ⟨_, _, _, rfl, (k10.trans k11).new nq9⟩
      · rintro σ H9 ⟨y5, y6, y13, rfl, k9⟩
        repeat walk_at "rd"
        refine ⟨D, slots, outs, n, z, b, rfl, hT.keep (k08.trans k9), wf, hlv, hz, h1, hpos, fun EV us s3 H10 nE k10 eE tE hst3 hp3 he3 _ => ?_⟩
        obtain ⟨wk3, li3, mem3, perm3⟩ := ends hst3 hp3 he3
        have hsz := wk3.sz
        have hel : s3.evs.length ≤ 90000 := by omega
        have hul : us.length = s3.evs.length := by rw [tE.len, List.length_map]
        refine y_lcL (xs := us.map V.ref) (SqL.of eE) (fun W nW => ⟨fun t H11 => Kx [] H10 H11 ∧ H11 W = some (.lst ((List.replicate ((s3.evs.take t).countP isRel) (1 : Int)).map V.int)), ⟨(Kx.refl _ _).new nW, upd_same⟩, ?_, ?_, ?_⟩)
        · rintro t H11 ht ⟨k11, _⟩
          exact k11.sqL (by simp) (SqL.of eE)
        · rintro t x H11 H11' ht ⟨k11, eW⟩ ⟨rfl, hx⟩
          rw [List.length_map, hul] at ht
          have ee := List.getElem?_eq_getElem ht
          obtain ⟨tt, et, hT9⟩ := tE.at_ t (evV s3.evs[t]) (by rw [List.getElem?_map, ee]; rfl)
          have hx2 : x = .ref tt := by
            rw [List.getElem?_map, et] at hx
            exact (Option.some.inj hx).symm
          subst hx2
          have htk : s3.evs.take (t + 1) = s3.evs.take t ++ [s3.evs[t]] := by rw [List.take_add_one, ee]; rfl
          have hct : (s3.evs.take t).countP isRel ≤ t := Nat.le_trans List.countP_le_length (by rw [List.length_take]; exact Nat.min_le_left _ _)
          have hrz : ((List.replicate ((s3.evs.take t).countP isRel) (1 : Int)).map V.int).length < sizeLine := big_line (by rw [List.length_map, List.length_replicate]; omega)
          have eT11 := k11 tt _ (by simp) hT9
          generalize s3.evs[t] = ev at *
          repeat walk_at "rd"
          refine ⟨rfl, ?_⟩
          repeat walk_at "rd"
          cases ev with
          | release h2 s2' n2 l2 =>
            have hS11 : SqT K H11' tt (evV (.release h2 s2' n2 l2)) := SqT.of eT11
            unfold evV at hS11
            repeat walk_at "rd"
            refine iteP (by simp) ?_
            repeat walk_at "rd"
            refine ⟨_, eW, hrz, k11.wr (.inl nW), ?_⟩
            rw [upd_same, htk, List.countP_append]
            rw [show (List.countP isRel [Ev.release h2 s2' n2 l2]) = 1 from rfl, List.replicate_succ', List.map_append]
            rfl
          | destroy n2 d2 =>
            have hS11 : SqT K H11' tt (evV (.destroy n2 d2)) := SqT.of eT11
            unfold evV at hS11
            repeat walk_at "rd"
            refine iteN (by decide) ⟨k11, ?_⟩
            rw [htk, List.countP_append]
            exact eW
          | shelve n2 d2 =>
            have hS11 : SqT K H11' tt (evV (.shelve n2 d2)) := SqT.of eT11
            unfold evV at hS11
            repeat walk_at "rd"
            refine iteN (by decide) ⟨k11, ?_⟩
            rw [htk, List.countP_append]
            exact eW
          | take n2 d2 =>
            have hS11 : SqT K H11' tt (evV (.take n2 d2)) := SqT.of eT11
            unfold evV at hS11
            repeat walk_at "rd"
            refine iteN (by decide) ⟨k11, ?_⟩
            rw [htk, List.countP_append]
            exact eW
        rintro H11 ⟨k11, eW⟩
        rw [List.length_map, hul, List.take_length] at eW
        have hc3 := li3.c
        rw [hp3, List.length_nil, Nat.add_zero, ← sum_perm (filled slots) (hms.trans perm3)] at hc3
        repeat walk_at "rd"
        have hl9 : ((List.replicate (s3.evs.countP isRel) (1 : Int)).map V.int).length = s3.evs.countP isRel := by rw [List.length_map, List.length_replicate]
        rw [hl9, hc3]
        have hc9 : (((1 + (ms.map (filled slots)).sum : Nat) : Int)) = 1 + (((ms.map (filled slots)).sum : Nat) : Int) := by omega
        rw [hc9]
        refine iteN (by simp) ?_
        repeat walk_at "rd"
        exact ⟨_, _, _, _, _, _, _, _, rfl, k6.trans (k7.trans (k8.trans (k9.trans (k10.trans k11))))⟩
    · rintro σ H6 ⟨y5, y6, y9, y10, y11, y12, y13, y14, rfl, k6⟩
      repeat walk_at "rd"
      exact k _ (k05.trans k6)
end

section
variable {P : Program} {w : World} {K : PySem.W.Frag} {mg : Str → Option Value} {base : Heap}
def spBound : Sp := fun vs H Q _ => ∃ (p c : Addr) (m N : Nat), vs = [.ref p, .int N] ∧ PenAt H p c m ∧ m ≤ 900000 ∧ 1 ≤ N ∧ N ≤ 40 ∧ ∀ lim H', 0 < lim → Kx [p] H H' → PenAt H' p c (m + 4) → Q (.int lim) H'
theorem pos8 {d a b c e : Int} (h0 : 0 ≤ d) (h8 : d < 8) (ha : 0 < a) (hb : 0 < b) (hc : 0 < c) (he : 0 < e) {g : Int} (hg : 0 < g) : ∃ lim, atI [V.int 1, .int 2, .int 3, .int a, .int b, .int c, .int e, .int g] d = some (.int lim) ∧ 0 < lim := by
  have : d = 0 ∨ d = 1 ∨ d = 2 ∨ d = 3 ∨ d = 4 ∨ d = 5 ∨ d = 6 ∨ d = 7 := by omega
  rcases this with rfl | rfl | rfl | rfl | rfl | rfl | rfl | rfl
  · exact ⟨1, rfl, by decide⟩
  · exact ⟨2, rfl, by decide⟩
  · exact ⟨3, rfl, by decide⟩
  · exact ⟨a, rfl, ha⟩
  · exact ⟨b, rfl, hb⟩
  · exact ⟨c, rfl, hc⟩
  · exact ⟨e, rfl, he⟩
  · exact ⟨g, rfl, hg⟩
theorem ok_bound {f : Addr} {fd : FuncData} (F : Fun K "_law_bound" "_law_bound" sQBound f fd) (T : Txt mg) (l_law_draw : Lo P w K mg base "_law_draw" 1 ["_law_pen_here", "_law_most_one"] spDraw) : FnOk P w K mg base CX0 2 f fd ["_law_pen_here", "_law_size"] spBound := by
  refine F.ok scQBound (fun vs H Q E h => ?_) (fun cdv A outer s H vs Q E hr h => ?_)
  · obtain ⟨p, c, m, N, rfl, _⟩ := h
    rfl
  · obtain ⟨p, c, m, N, rfl, P0, hm, hN1, hN40, k⟩ := h
    refine ⟨_, (pss_cons (ps_set (i := 2) scQBound.nd rfl (Or.inl rfl) (pe_lst (pa_cons pe_int (pa_cons pe_int (pa_cons pe_int (pa_cons (pe_op op_add pe_int (pe_lo l_law_draw (hr.mono (by decide)) (by rfl) (pa_cons (pv 0) (pa_cons (pv 1) pa_nil)))) (pa_cons (pv 1) (pa_cons (pe_op op_add (pv 1) pe_int) (pa_cons (pe_op op_add pe_int (pe_lo l_law_draw (hr.mono (by decide)) (by rfl) (pa_cons (pv 0) (pa_cons (pe_op op_pow pe_int pe_int) pa_nil)))) pa_nil)))))))))
      (pss_one (ps_ret (pe_ix ix_list (pe_op op_cat (pv 2) (pe_lst (pa_cons (pe_op op_sub (pe_op op_pow pe_int pe_int) (pe_lo l_law_draw (hr.mono (by decide)) (by rfl) (pa_cons (pv 0) (pa_cons pe_int pa_nil)))) pa_nil))) (pe_lo l_law_draw (hr.mono (by decide)) (by rfl) (pa_cons (pv 0) (pa_cons pe_int pa_nil))) (fun _ _ => rfl))))), ?_⟩
    refine x_start (σ' := [some (.ref p), some (.int N), none]) rfl ?_
    try dsimp only [cxOf]
    repeat walk_at "rd"
    refine x_draw P0 (by omega) (by omega) (by omega) fun d1 H1 d1l d1h k1 P1 => ?_
    repeat walk_at "rd"
    refine x_draw P1 (by omega) (by decide) (by decide) fun d2 H2 d2l d2h k2 P2 => ?_
    repeat walk_at "rd"
    rename_i A nA
    obtain ⟨⟨op, hp⟩, oc, hc⟩ := P2.some
    have P3 := P2.keep ((Kx.refl [] H2).new (o := .lst [.int 1, .int 2, .int 3, .int (1 + d1), .int N, .int (N + 1), .int (1 + d2)]) nA) (by simp) (by simp) (Nat.le_refl _)
    refine x_draw P3 (by omega) (by decide) (by decide) fun d3 H3 d3l d3h k3 P4 => ?_
    have nAp : A ≠ p := (ne_of_none hp nA).symm
    have eA : H3 A = some (.lst [.int 1, .int 2, .int 3, .int (1 + d1), .int N, .int (N + 1), .int (1 + d2)]) := k3 _ _ (by simpa using nAp) upd_same
    repeat walk_at "rd"
    rename_i Bq nB
    refine x_catL (lk_ne eA nB) upd_same (by show 7 + 1 ≤ sizeLine; decide) fun C nC => ?_
    have kB : Kx [] H3 (upd H3 Bq (.lst [.int ((10 : Int) ^ (30 : Int).toNat - d3)])) := (Kx.refl [] H3).new nB
    have P5 := P4.keep (kB.new (o := .lst ([.int 1, .int 2, .int 3, .int (1 + d1), .int N, .int (N + 1), .int (1 + d2)] ++ [.int ((10 : Int) ^ (30 : Int).toNat - d3)])) nC) (by simp) (by simp) (Nat.le_refl _)
    have hCp : C ≠ p := by
      obtain ⟨⟨op', hp'⟩, _⟩ := P4.some
      exact (ne_of_none (lk_ne hp' nB) nC).symm

    repeat walk_at "rd"
    refine x_draw P5 (by omega) (by decide) (by decide) fun d4 H4 d4l d4h k4 P6 => ?_
    have eC : H4 C = some (.lst ([.int 1, .int 2, .int 3, .int (1 + d1), .int N, .int (N + 1), .int (1 + d2)] ++ [.int ((10 : Int) ^ (30 : Int).toNat - d3)])) := k4 _ _ (by simpa using hCp) upd_same
    have h30 : (10 : Int) ^ (30 : Int).toNat = 1000000000000000000000000000000 := by decide +kernel
    obtain ⟨lim, hat, hpos⟩ := pos8 (a := 1 + d1) (b := N) (c := N + 1) (e := 1 + d2) (g := (10 : Int) ^ (30 : Int).toNat - d3) d4l d4h (by omega) (by omega) (by omega) (by omega) (by rw [h30]; omega)
    replace hat : atI ([V.int 1, .int 2, .int 3, .int (1 + d1), .int N, .int (N + 1), .int (1 + d2)] ++ [.int ((10 : Int) ^ (30 : Int).toNat - d3)]) d4 = some (.int lim) := hat
    repeat walk_at "rd"
    have kk : Kx [p] H H4 := ((((k1.trans k2).new nA).trans k3).trans ((kB.new nC).mono (by simp))).trans k4
    exact k lim H4 hpos kk P6
def spLaw (K : PySem.W.Frag) : Sp := fun vs H Q _ => ∃ (a : Addr) (ns : List Int), vs = [.ref a] ∧ SqL K H a (ns.map V.int) ∧ ∀ H', Q (.bl true) H'
/-- the numbers of the nodes with an outside reference -/
def withOut (outs : List Int) (i : Nat) : List Int := ((List.range i).filter fun j => decide (0 < (outs[j]?).getD 0)).map fun j : Nat => (j : Int)
theorem withOut_succ {outs : List Int} {i : Nat} {z : Int} (e : outs[i]? = some z) : withOut outs (i + 1) = if 0 < z then withOut outs i ++ [(i : Int)] else withOut outs i := by
  unfold withOut
  rw [List.range_succ, List.filter_append, List.map_append]
  by_cases h : 0 < z
  · rw [if_pos h]
    simp [List.filter, e, h]
  · rw [if_neg h]
    simp [List.filter, e, h]
theorem withOut_len (outs : List Int) (i : Nat) : (withOut outs i).length ≤ i := by
  unfold withOut
  rw [List.length_map]
  exact Nat.le_trans (List.length_filter_le _ _) (by rw [List.length_range]; exact Nat.le_refl _)
theorem withOut_mem {outs : List Int} {i : Nat} {j : Int} (h : j ∈ withOut outs i) : ∃ (n : Nat) (z : Int), j = n ∧ outs[n]? = some z ∧ 1 ≤ z := by
  unfold withOut at h
  obtain ⟨n, hn, rfl⟩ := List.mem_map.mp h
  have h2 := of_decide_eq_true (List.mem_filter.mp hn).2
  cases e : outs[n]? with
  | none => rw [e] at h2; exact absurd h2 (by decide)
  | some z =>
    rw [e] at h2
    exact ⟨n, z, rfl, e, h2⟩
theorem withOut_in {outs : List Int} {n : Nat} {z : Int} (e : outs[n]? = some z) (h : 1 ≤ z) : (n : Int) ∈ withOut outs outs.length := by
  unfold withOut
  refine List.mem_map.mpr ⟨n, List.mem_filter.mpr ⟨List.mem_range.mpr (List.getElem?_eq_some_iff.mp e).1, ?_⟩, rfl⟩
  rw [e]
  exact decide_eq_true (by show 0 < z; omega)
theorem sqT_lst {H H' : Hp} {a p : Addr} {ys xs : List V} (h : SqT K H a xs) (hp : H p = some (.lst ys)) (k : Kx [p] H H') : SqT K H' a xs := by
  rcases h with h | h
  · refine .inl ?_
    rcases h with h | ⟨o, h⟩
    · exact .inl (k _ _ (fun z => by rw [List.mem_singleton.mp z, hp] at h; cases h) h)
    · exact .inr ⟨o, k _ _ (fun z => by rw [List.mem_singleton.mp z, hp] at h; cases h) h⟩
  · exact .inr h
theorem HeapT.pen {H H' : Hp} {D p c : Addr} {m : Nat} {slots : List (Option Rw)} {outs : List Int} (h : HeapT K H D slots outs) (hp : PenAt H p c m) (k : Kx [p] H H') : HeapT K H' D slots outs := by
  obtain ⟨S, O, vs, h1, h2, h3, h4, h5⟩ := h.ex
  obtain ⟨_, _, _, hp, _⟩ := hp
  refine ⟨S, O, vs, sqT_lst h1 hp k, sqT_lst h2 hp k, sqT_lst h3 hp k, h4, fun i o ho => ?_⟩
  rcases h5 i o ho with z | ⟨r, row, e1, e2, e3⟩
  · exact .inl z
  · exact .inr ⟨r, row, e1, e2, sqT_lst e3 hp k⟩
theorem atI_ints {ns : List Int} {d : Int} (h0 : 0 ≤ d) (h1 : d < ns.length) : ∃ y ∈ ns, atI (ns.map V.int) d = some (.int y) := by
  obtain ⟨j, rfl⟩ := Int.eq_ofNat_of_zero_le h0
  have hj : j < ns.length := by omega
  exact ⟨ns[j], List.getElem_mem hj, atI_nat (by rw [List.getElem?_map, List.getElem?_eq_getElem hj]; rfl)⟩
theorem live_out {slots : List (Option Rw)} {outs : List Int} (wf : Wf slots outs) {n : Nat} {z : Int} (hz : outs[n]? = some z) (h1 : 1 ≤ z) : isLive slots n = true := by
  have hn := (List.getElem?_eq_some_iff.mp hz).1
  rw [wf.len] at hn
  cases e : slots[n] with
  | none =>
    have := wf.free n (by rw [List.getElem?_eq_getElem hn, e])
    rw [hz] at this
    have := Option.some.inj this
    omega
  | some row => simp [isLive, List.getElem?_eq_getElem hn, e]
theorem ok_law {f : Addr} {fd : FuncData} (F : Fun K "law" "law" sLaw f fd) (T : Txt mg) (l_law_pen : Lo P w K mg base "_law_pen" 1 ["_law_script"] (spPen K)) (l_law_base : Lo P w K mg base "_law_base" 3 ["_law_pen_here"] (spBase K))
    (l_law_draw : Lo P w K mg base "_law_draw" 1 ["_law_pen_here", "_law_most_one"] spDraw) (l_law_bound : Lo P w K mg base "_law_bound" 2 ["_law_pen_here", "_law_size"] spBound) (l_law_right : Lk P w K mg base "_law_right" 8 ["_law_base_here", "_law_spot", "_law_bounds"] (spRight K)) : FnG P w K mg base 9 f fd ["_law_script"] (spLaw K) := by
  refine FnG.body F scLaw (fun vs H Q E h => ?_) (fun cdv A outer s H vs Q E hgd hr h => ?_)
  · obtain ⟨a, ns, rfl, _⟩ := h
    rfl
  · obtain ⟨a, ns, rfl, ha, k⟩ := h
    refine ⟨_, (pss_cons (ps_set (i := 1) scLaw.nd rfl (Or.inr rfl) (pe_lo l_law_pen (hr.mono (by decide)) (by rfl) (pa_cons (pv 0) pa_nil)))
      (pss_cons (ps_for PassesOwn.never rfl (pi_range1 (by rfl) T.b_range (pa_cons pe_int pa_nil)) (pg_name (i := 2) scLaw.nd rfl (Or.inl rfl))
      (pss_cons (ps_asg (pe_lo l_law_base (hr.mono (by decide)) (by rfl) (pa_cons (pv 1) pa_nil)) (pg_tup rfl (pgs_cons (pg_name (i := 3) scLaw.nd rfl (Or.inr rfl)) (pgs_cons (pg_name (i := 4) scLaw.nd rfl (Or.inl rfl)) pgs_nil))))
      (pss_cons (ps_setLc (i := 5) (own := [("_law_place", 8), ("_law_number", 9)]) rfl scLaw.nd rfl rfl (sw_true rfl rfl rfl (by decide +kernel)) (pi_enumT (by rfl) T.b_enumerate (pa_cons (pe_ix ix_tup (pv 3) pe_int (fun _ _ => rfl)) pa_nil)) (blkOk_by (N := ["_law_script", "_law_pen_here", "_law_turn", "_law_base_here", "_law_spot", "_law_others", "_law_one", "_law_bounds", "_law_place", "_law_number", "_law_k"]) (sc := defScope sLaw) (by decide +kernel)) (fun _ _ _ _ _ => (pg_tupK (K := K) (n := 2) rfl rfl (pgs_cons (pg_name (i := 8) scLaw.nd rfl (Or.inl rfl)) (pgs_cons (pg_name (i := 9) scLaw.nd rfl (Or.inl rfl)) pgs_nil)))) (fun _ _ _ _ _ => (pts_one (pt_cmpR op_gt (pv 9) pe_int (nomark _)))) (fun _ _ _ _ _ => (pv 8)))
      (pss_one (ps_for PassesOwn.never rfl (pi_tup (pe_tup (pa_cons (pv 4) (pa_cons (pe_ix ix_list (pv 5) (pe_lo l_law_draw (hr.mono (by decide)) (by rfl) (pa_cons (pv 1) (pa_cons (pe_callB call_len_seq (by rfl) T.b_len boot'_len (pa_cons (pv 5) pa_nil)) pa_nil))) (fun _ _ => rfl)) pa_nil)))) (pg_name (i := 6) scLaw.nd rfl (Or.inl rfl))
      (pss_cons (ps_set (i := 7) scLaw.nd rfl (Or.inl rfl) (pe_op op_cat (pe_op op_cat (pe_lst (pa_cons pe_int (pa_cons pe_int (pa_cons pe_int pa_nil)))) (pe_lc (own := [("_law_k", 10)]) rfl scLaw.nd (pi_range1 (by rfl) T.b_range (pa_cons pe_int pa_nil)) (blkOk_by (N := ["_law_script", "_law_pen_here", "_law_turn", "_law_base_here", "_law_spot", "_law_others", "_law_one", "_law_bounds", "_law_place", "_law_number", "_law_k"]) (sc := defScope sLaw) (by decide +kernel)) (fun _ _ _ _ _ => (pg_name (i := 10) scLaw.nd rfl (Or.inl rfl))) (fun _ _ _ _ _ => pts_nil) (fun _ _ _ _ _ => (pe_lo l_law_bound (hr.mono (by decide)) (by rfl) (pa_cons (pv 1) (pa_cons (pe_callB (call_lenK (K := K)) (by rfl) T.b_len boot'_len (pa_cons (pe_ix (ix_tupK (K := K)) (pv 3) pe_int (fun _ _ => rfl)) pa_nil)) pa_nil)))))) (pe_lst (pa_cons (pe_callB call_len_seq (by rfl) T.b_len boot'_len (pa_cons (pe_ix ix_tup (pv 3) pe_int (fun _ _ => rfl)) pa_nil)) pa_nil))))
      (pss_one (ps_if (pt_not (pt_val (pe_lk l_law_right hgd (hr.mono (by decide)) (by rfl) (pa_cons (pv 3) (pa_cons (pv 6) (pa_cons (pv 7) pa_nil)))))) (pss_one (ps_ret pe_bl)) pss_nil))))))))
      (pss_one (ps_ret (pe_lk l_law_right hgd (hr.mono (by decide)) (by rfl) (pa_cons (pe_tup (pa_cons (pe_tup (pa_cons (pe_tup (pa_cons pe_int (pa_cons pe_int pa_nil))) (pa_cons (pe_tup (pa_cons pe_int pa_nil)) (pa_cons (pe_tup (pa_cons pe_int pa_nil)) (pa_cons (pe_tup pa_nil) pa_nil))))) (pa_cons (pe_tup (pa_cons pe_int (pa_cons pe_int (pa_cons pe_int (pa_cons pe_int pa_nil))))) pa_nil))) (pa_cons pe_int (pa_cons (pe_lst (pa_cons pe_int (pa_cons pe_int (pa_cons pe_int (pa_cons pe_int pa_nil))))) pa_nil)))))))), ?_⟩
    refine x_start (σ' := [some (.ref a), none, none, none, none, none, none, none, none, none, none]) rfl ?_
    try dsimp only [cxOf]
    repeat walk_at "rd"
    refine ⟨a, ns, rfl, ha, fun p c H1 np nc k1 P1 => ?_⟩
    repeat walk_at "rd"
    refine y_forR1 (by decide) (by decide) ⟨fun i σ H2 => ∃ (y2 y3 y4 y5 y6 y7 y8 y9 y10 : Option V), σ = [some (.ref a), some (.ref p), y2, y3, y4, y5, y6, y7, y8, y9, y10] ∧ PenAt H2 p c (1000 * i), ⟨none, none, none, none, none, none, none, none, none, rfl, P1.keep (Kx.refl [] H1) (by simp) (by simp) (by omega)⟩, fun _ _ _ _ _ => trivial, ?_, ?_⟩
    · rintro i x σ H2 H2' hi ⟨y2, y3, y4, y5, y6, y7, y8, y9, y10, rfl, P2⟩ ⟨rfl, rfl⟩
      have hi4 : i < 2 := hi
      repeat walk_at "rd"
      refine ⟨p, c, _, rfl, P2, by omega, fun B D lab slots outs H3 hB hA wf hn ⟨rw0, z0, hl1, hz0, hz1⟩ k3 P3 => ?_⟩
      have hT := hA.toT
      obtain ⟨S, O, vs, hD, hS, hO, hvl, hv⟩ := id hT.ex
      have h40 := wf.most
      have hol := wf.len
      have hBt : SqT K H3 B [.ref D, .int lab] := SqT.of hB
      repeat walk_at "rd"
      refine y_lcET (xs := outs.map V.int) hO (fun Z nZ => ⟨fun i H4 => Kx [] H3 H4 ∧ H4 Z = some (.lst ((withOut outs i).map V.int)), ⟨(Kx.refl _ _).new nZ, upd_same⟩, ?_, ?_, ?_⟩)
      · rintro i H4 hi ⟨k4, _⟩
        exact k4.sqT (by simp) hO
      · rintro i x H4 H4' hi ⟨k4, e4⟩ ⟨U, x1, x2, rfl, nU, rfl, f1, f2⟩
        cases f1
        rw [List.length_map] at hi
        replace f2 : (outs.map V.int)[i]? = some x2 := f2
        rw [List.getElem?_map, List.getElem?_eq_getElem hi] at f2
        cases Option.some.inj f2
        have hlen := withOut_len outs i
        repeat walk_at "rd"
        refine ⟨rfl, ?_⟩
        repeat walk_at "rd"
        by_cases hpos : 0 < outs[i]
        · refine iteP (decide_eq_true hpos) ?_
          repeat walk_at "rd"
          refine ⟨_, lk_ne e4 nU, big_line (by rw [List.length_map]; omega), (k4.new nU).wr (.inl nZ), ?_⟩
          rw [upd_same, withOut_succ (List.getElem?_eq_getElem hi), if_pos hpos, List.map_append]
          rfl
        · refine iteN (decide_eq_false hpos) ⟨k4.new nU, ?_⟩
          rw [withOut_succ (List.getElem?_eq_getElem hi), if_neg hpos]
          exact lk_ne e4 nU
      rintro H4 ⟨k4, eZ⟩
      rw [List.length_map] at eZ
      have P4 := P3.keep k4 (by simp) (by simp) (Nat.le_refl _)
      have hwl := withOut_len outs outs.length
      have hwm := withOut_in hz0 hz1
      have hnZp : Z ≠ p := by
        obtain ⟨⟨op, hp⟩, _⟩ := P3.some
        exact (ne_of_none hp nZ).symm
      have hwpos : 0 < (withOut outs outs.length).length := List.length_pos_of_mem hwm
      have hT4 := hT.keep k4
      repeat walk_at "rd"
      rw [List.length_map]
      refine x_draw P4 (by omega) (by omega) (by omega) fun d H7 d0 d1 k7 P7 => ?_
      obtain ⟨y, hy, hat⟩ := atI_ints d0 d1
      obtain ⟨ny, zy, rfl, hzy, hzy1⟩ := withOut_mem hy
      have eZ7 := k7 Z _ (by simpa using hnZp) eZ
      have hT7 := hT4.pen P4 k7
      repeat walk_at "rd"
      rename_i tq ntq
      have tqp : tq ≠ p := by
        obtain ⟨⟨op, hp⟩, _⟩ := P7.some
        exact (ne_of_none hp ntq).symm
      have hT8 : HeapT K (upd H7 tq (.tup [.int lab, .int ny])) D slots outs := hT7.keep ((Kx.refl [] H7).new ntq)
      have P8 : PenAt (upd H7 tq (.tup [.int lab, .int ny])) p c (1000 * i + 700 + 1) := P7.keep ((Kx.refl [] H7).new ntq) (by simp) (by simp) (Nat.le_refl _)
      have eq8 := upd_same (H := H7) (a := tq) (o := .tup [.int lab, .int ny])
      generalize upd H7 tq (.tup [.int lab, .int ny]) = H8 at *
      refine y_forT (xs := [.int lab, .int ny]) (SqT.of eq8) ⟨fun t σ H9 => ∃ (y6 y7 y8 y9 y10 : Option V), σ = [some (.ref a), some (.ref p), some (.int (0 + (i : Int))), some (.ref D), some (.int lab), some (.ref Z), y6, y7, y8, y9, y10] ∧ Kx [p] H8 H9 ∧ PenAt H9 p c (1000 * i + 701 + 20 * t), ⟨_, _, _, _, _, rfl, Kx.refl _ _, P8⟩, ?_, ?_, ?_⟩
      · rintro t σ H9 ht ⟨y6, y7, y8, y9, y10, rfl, k9, P9⟩
        exact k9.sqT (by simpa using tqp) (SqT.of eq8)
      · rintro t x σ H9 H9' ht ⟨y6, y7, y8, y9, y10, rfl, k9, P9⟩ ⟨rfl, hx⟩
        obtain ⟨one, zo, rfl, hzo, hzo1⟩ : ∃ (one : Nat) (zo : Int), x = .int (one : Nat) ∧ outs[one]? = some zo ∧ 1 ≤ zo := by
          match t, hx with
          | 0, hx => exact ⟨lab, z0, (Option.some.inj hx).symm, hz0, hz1⟩
          | 1, hx => exact ⟨ny, zy, (Option.some.inj hx).symm, hzy, hzy1⟩
          | _ + 2, hx => cases hx
        have ht2 : t < 2 := ht
        have hT9 := hT8.pen P8 k9
        repeat walk_at "rd"
        rename_i q1 nq1
        have k10 := (Kx.refl [] H9').new (o := .lst [.int 1, .int 2, .int 3]) nq1
        have P10 := P9.keep k10 (by simp) (by simp) (Nat.le_refl _)
        have hT10 := hT9.keep k10
        have e10 := upd_same (H := H9') (a := q1) (o := .lst [.int 1, .int 2, .int 3])
        have q1p : q1 ≠ p := by
          obtain ⟨⟨op, hp⟩, _⟩ := P9.some
          exact (ne_of_none hp nq1).symm
        generalize upd H9' q1 (.lst [.int 1, .int 2, .int 3]) = H10 at *
        obtain ⟨⟨op10, hp10⟩, oc10, hc10⟩ := P10.some
        refine y_lcR1 (by decide) (by decide) (fun C nC => ⟨fun m H11 => Kx [p] H10 H11 ∧ PenAt H11 p c (1000 * i + 701 + 20 * t + 4 * m) ∧ ∃ zs : List Int, H11 C = some (.lst (zs.map V.int)) ∧ zs.length = m ∧ ∀ z ∈ zs, 0 < z,
          ⟨(Kx.refl [p] H10).new nC, P10.keep ((Kx.refl [] H10).new nC) (by simp) (by simp) (by omega), [], upd_same, rfl, fun z h => by cases h⟩, fun _ _ _ _ => trivial, ?_, ?_⟩)
        · rintro m x H11 H11' hm ⟨k11, P11, zs, eC, hzl, hzp⟩ ⟨rfl, rfl⟩
          have hm3 : m < 3 := hm
          have nCp : C ≠ p := fun z => by rw [z, hp10] at nC; cases nC
          have nCc : C ≠ c := fun z => by rw [z, hc10] at nC; cases nC
          have hT11 := hT10.pen P10 k11
          obtain ⟨S5, O5, vs5, hD5, hS5, hO5, hvl5, hv5⟩ := id hT11.ex
          repeat walk_at "rd"
          refine ⟨rfl, ?_⟩
          repeat walk_at "rd"
          refine ⟨p, c, _, vs5.length, rfl, P11, by omega, by omega, by omega, fun lim H12 hlim k12 P12 => ?_⟩
          have eC12 := k12 C _ (by simpa using nCp) eC
          refine ⟨_, eC12, small1000 (by rw [List.length_map]; omega), (k11.trans k12).wr (.inl nC), P12.up (upd_ne nCp.symm) (upd_ne nCc.symm) (by omega), zs ++ [lim], ?_, by rw [List.length_append, hzl]; rfl, fun z hz => ?_⟩
          · rw [upd_same, List.map_append]
            rfl
          · rcases List.mem_append.mp hz with h | h
            · exact hzp z h
            · rw [List.mem_singleton.mp h]
              exact hlim
        rintro H11 ⟨k11, P11, zs, eC, hzl, hzp⟩
        have hz3 : zs.length = 3 := hzl
        have e11 := k11 q1 _ (by simpa using q1p) e10
        have hT11 := hT10.pen P10 k11
        obtain ⟨S5, O5, vs5, hD5, hS5, hO5, hvl5, hv5⟩ := id hT11.ex
        repeat walk_at "rd"
        refine x_catL e11 eC (Nat.le_of_lt (small1000 (by rw [List.length_map]; show 3 + zs.length ≤ 1000; omega))) fun q2 nq2 => ?_
        have k12 := (Kx.refl [] H11).new (o := .lst ([.int 1, .int 2, .int 3] ++ zs.map V.int)) nq2
        have hT12 := hT11.keep k12
        have P12 := P11.keep k12 (by simp) (by simp) (Nat.le_refl _)
        have e12 := upd_same (H := H11) (a := q2) (o := .lst ([.int 1, .int 2, .int 3] ++ zs.map V.int))
        generalize upd H11 q2 (.lst ([.int 1, .int 2, .int 3] ++ zs.map V.int)) = H12 at *
        obtain ⟨S6, O6, vs6, hD6, hS6, hO6, hvl6, hv6⟩ := id hT12.ex
        repeat walk_at "rd"
        rename_i q3 nq3
        refine x_catL (lk_ne e12 nq3) upd_same (Nat.le_of_lt (small1000 (by rw [List.length_append, List.length_map]; show 3 + zs.length + 1 ≤ 1000; omega))) fun q4 nq4 => ?_
        have k14 := ((Kx.refl [] H12).new (o := .lst [.int (vs6.length : Nat)]) nq3).new (o := .lst (([.int 1, .int 2, .int 3] ++ zs.map V.int) ++ [.int (vs6.length : Nat)])) nq4
        have hT14 := hT12.keep k14
        have P14 := P12.keep k14 (by simp) (by simp) (Nat.le_refl _)
        have e14 := upd_same (H := upd H12 q3 (.lst [.int (vs6.length : Nat)])) (a := q4) (o := .lst (([.int 1, .int 2, .int 3] ++ zs.map V.int) ++ [.int (vs6.length : Nat)]))
        generalize upd (upd H12 q3 (.lst [.int (vs6.length : Nat)])) q4 (.lst (([.int 1, .int 2, .int 3] ++ zs.map V.int) ++ [.int (vs6.length : Nat)])) = H14 at *
        have eb : (([.int 1, .int 2, .int 3] ++ zs.map V.int) ++ [.int (vs6.length : Nat)]) = (([1, 2, 3] ++ zs) ++ [(vs6.length : Int)]).map V.int := by
          rw [List.map_append, List.map_append]
          rfl
        rw [eb] at e14
        repeat walk_at "rd"
        refine ⟨D, q4, slots, outs, one, zo, _, rfl, hT14, wf, live_out wf hzo hzo1, hzo, hzo1, SqL.of e14, fun b hb => ?_, fun H15 k15 => ?_⟩
        · simp only [List.mem_append, List.mem_cons, List.not_mem_nil, or_false] at hb
          rcases hb with (h | h) | h
          · omega
          · exact hzp b h
          · rw [h]
            omega
        · repeat walk_at "rd"
          try refine iteN (by decide) ?_
          try refine iteF ?_
          repeat walk_at "rd"
          exact ⟨_, _, _, _, _, rfl, (k9.trans ((k10.mono (by simp)).trans (k11.trans (k12.mono (by simp))))).trans ((k14.mono (by simp)).trans (k15.mono (by simp))), P14.keep k15 (by simp) (by simp) (by omega)⟩
      · rintro σ H9 ⟨y6, y7, y8, y9, y10, rfl, k9, P9⟩
        repeat walk_at "rd"
        exact ⟨_, _, _, _, _, _, _, _, _, rfl, P9.keep (Kx.refl [] _) (by simp) (by simp) (show 1000 * i + 701 + 20 * 2 ≤ 1000 * (i + 1) by omega)⟩
    · rintro σ H2 ⟨y2, y3, y4, y5, y6, y7, y8, y9, y10, rfl, P2⟩
      repeat walk_at "rd"
      rename_i t1 n1 t2 n2 t3 n3 t4 n4 S nS O nO D nD Bq nBq
      refine ⟨D, Bq, [some [some 1, some 2], some [some 3], some [some 2], some []], [1, 0, 0, 0], 0, 1, [1, 2, 3, 4], rfl, ⟨S, O, [.ref t1, .ref t2, .ref t3, .ref t4], SqT.of (by walk_at "lk"), SqT.of (by walk_at "lk"), SqT.of (by walk_at "lk"), rfl, fun i o ho => ?_⟩, ?_, rfl, rfl, by decide, SqL.of upd_same, by decide, fun H4 k4 => k H4⟩
      · match i, ho with
        | 0, ho => exact .inr ⟨t1, [some 1, some 2], (Option.some.inj ho).symm, rfl, SqT.of (by walk_at "lk")⟩
        | 1, ho => exact .inr ⟨t2, [some 3], (Option.some.inj ho).symm, rfl, SqT.of (by walk_at "lk")⟩
        | 2, ho => exact .inr ⟨t3, [some 2], (Option.some.inj ho).symm, rfl, SqT.of (by walk_at "lk")⟩
        | 3, ho => exact .inr ⟨t4, [], (Option.some.inj ho).symm, rfl, SqT.of (by walk_at "lk")⟩
      · refine ⟨rfl, by decide, fun m hm => ?_, by simp, by simp, by simp⟩
        match m, hm with
        | 0, hm => cases hm
        | 1, hm => cases hm
        | 2, hm => cases hm
        | 3, hm => cases hm
end

theorem all_mk {l : PySem.W.OpenLaw} {w : World} {K : PySem.W.Frag} {h : Heap} {mg : Str → Option Value} {fa : Addr} (X : K.In h) (G : h.Ns mainGlobals mg) (hfa : mg "law" = some (.ref fa))
    {C : Addr} (aC : PySem.W.nsIn K mainGlobals "Releasing" = some (some (.ref C))) (pg : PySem.W.plainGet K C Str.empty = true) (hd : PySem.W.hasDictIn K C = true) (po : PySem.W.plainOver K C = true) (sa : PySem.W.findIn K (.ref C) "__setattr__" = some (some (.builtin "object.__setattr__"))) (mk : PySem.W.makesIn K C = true) (kc : PySem.W.keepIn K (.ref C) = true)
    (n_slots : PySem.W.findIn K (.ref C) "slots" = some none)
    (n_outside : PySem.W.findIn K (.ref C) "outside" = some none)
    (n_references : PySem.W.findIn K (.ref C) "references" = some none)
    (n_limit : PySem.W.findIn K (.ref C) "limit" = some none)
    (n_emptied : PySem.W.findIn K (.ref C) "emptied" = some none)
    (n_shelf : PySem.W.findIn K (.ref C) "shelf" = some none)
    (n_events : PySem.W.findIn K (.ref C) "events" = some none)
    {f_slot_uses : Addr} {od_slot_uses an_slot_uses : Option Addr} {sl_slot_uses : Array (Option Value)} {oc_slot_uses kV_slot_uses dc_slot_uses pm_slot_uses cd_slot_uses ct_slot_uses : Value}
    (a_slot_uses : PySem.W.nsIn K mainGlobals "slot_uses" = some (some (.ref f_slot_uses))) (l_slot_uses : K.lookup f_slot_uses = some ⟨oc_slot_uses, od_slot_uses, .func (PySem.W.fnOf "slot_uses" "slot_uses" (defArgs sSlotUses) (defBody sSlotUses) (defScope sSlotUses) .none kV_slot_uses dc_slot_uses pm_slot_uses an_slot_uses cd_slot_uses ct_slot_uses), sl_slot_uses⟩)
    (c_slot_uses : PySem.W.codeIn K cd_slot_uses "slot_uses" = true) (k_slot_uses : PySem.W.keepIn K (.ref f_slot_uses) = true)
    {f_counts : Addr} {od_counts an_counts : Option Addr} {sl_counts : Array (Option Value)} {oc_counts kV_counts dc_counts pm_counts cd_counts ct_counts : Value}
    (a_counts : PySem.W.nsIn K mainGlobals "counts" = some (some (.ref f_counts))) (l_counts : K.lookup f_counts = some ⟨oc_counts, od_counts, .func (PySem.W.fnOf "counts" "counts" (defArgs sCounts) (defBody sCounts) (defScope sCounts) .none kV_counts dc_counts pm_counts an_counts cd_counts ct_counts), sl_counts⟩)
    (c_counts : PySem.W.codeIn K cd_counts "counts" = true) (k_counts : PySem.W.keepIn K (.ref f_counts) = true)
    {f_is_integer : Addr} {od_is_integer an_is_integer : Option Addr} {sl_is_integer : Array (Option Value)} {oc_is_integer kV_is_integer dc_is_integer pm_is_integer cd_is_integer ct_is_integer : Value}
    (a_is_integer : PySem.W.nsIn K mainGlobals "is_integer" = some (some (.ref f_is_integer))) (l_is_integer : K.lookup f_is_integer = some ⟨oc_is_integer, od_is_integer, .func (PySem.W.fnOf "is_integer" "is_integer" (defArgs sIsInteger) (defBody sIsInteger) (defScope sIsInteger) .none kV_is_integer dc_is_integer pm_is_integer an_is_integer cd_is_integer ct_is_integer), sl_is_integer⟩)
    (c_is_integer : PySem.W.codeIn K cd_is_integer "is_integer" = true) (k_is_integer : PySem.W.keepIn K (.ref f_is_integer) = true)
    {f_is_between : Addr} {od_is_between an_is_between : Option Addr} {sl_is_between : Array (Option Value)} {oc_is_between kV_is_between dc_is_between pm_is_between cd_is_between ct_is_between : Value}
    (a_is_between : PySem.W.nsIn K mainGlobals "is_between" = some (some (.ref f_is_between))) (l_is_between : K.lookup f_is_between = some ⟨oc_is_between, od_is_between, .func (PySem.W.fnOf "is_between" "is_between" (defArgs sIsBetween) (defBody sIsBetween) (defScope sIsBetween) .none kV_is_between dc_is_between pm_is_between an_is_between cd_is_between ct_is_between), sl_is_between⟩)
    (c_is_between : PySem.W.codeIn K cd_is_between "is_between" = true) (k_is_between : PySem.W.keepIn K (.ref f_is_between) = true)
    {f_is_live : Addr} {od_is_live an_is_live : Option Addr} {sl_is_live : Array (Option Value)} {oc_is_live kV_is_live dc_is_live pm_is_live cd_is_live ct_is_live : Value}
    (a_is_live : PySem.W.nsIn K mainGlobals "is_live" = some (some (.ref f_is_live))) (l_is_live : K.lookup f_is_live = some ⟨oc_is_live, od_is_live, .func (PySem.W.fnOf "is_live" "is_live" (defArgs sIsLive) (defBody sIsLive) (defScope sIsLive) .none kV_is_live dc_is_live pm_is_live an_is_live cd_is_live ct_is_live), sl_is_live⟩)
    (c_is_live : PySem.W.codeIn K cd_is_live "is_live" = true) (k_is_live : PySem.W.keepIn K (.ref f_is_live) = true)
    {f_need_live : Addr} {od_need_live an_need_live : Option Addr} {sl_need_live : Array (Option Value)} {oc_need_live kV_need_live dc_need_live pm_need_live cd_need_live ct_need_live : Value}
    (a_need_live : PySem.W.nsIn K mainGlobals "need_live" = some (some (.ref f_need_live))) (l_need_live : K.lookup f_need_live = some ⟨oc_need_live, od_need_live, .func (PySem.W.fnOf "need_live" "need_live" (defArgs sNeedLive) (defBody sNeedLive) (defScope sNeedLive) .none kV_need_live dc_need_live pm_need_live an_need_live cd_need_live ct_need_live), sl_need_live⟩)
    (c_need_live : PySem.W.codeIn K cd_need_live "need_live" = true) (k_need_live : PySem.W.keepIn K (.ref f_need_live) = true)
    {f_need_reference : Addr} {od_need_reference an_need_reference : Option Addr} {sl_need_reference : Array (Option Value)} {oc_need_reference kV_need_reference dc_need_reference pm_need_reference cd_need_reference ct_need_reference : Value}
    (a_need_reference : PySem.W.nsIn K mainGlobals "need_reference" = some (some (.ref f_need_reference))) (l_need_reference : K.lookup f_need_reference = some ⟨oc_need_reference, od_need_reference, .func (PySem.W.fnOf "need_reference" "need_reference" (defArgs sNeedReference) (defBody sNeedReference) (defScope sNeedReference) .none kV_need_reference dc_need_reference pm_need_reference an_need_reference cd_need_reference ct_need_reference), sl_need_reference⟩)
    (c_need_reference : PySem.W.codeIn K cd_need_reference "need_reference" = true) (k_need_reference : PySem.W.keepIn K (.ref f_need_reference) = true)
    {f_Releasing_destroy : Addr} {od_Releasing_destroy an_Releasing_destroy : Option Addr} {sl_Releasing_destroy : Array (Option Value)} {oc_Releasing_destroy kV_Releasing_destroy dc_Releasing_destroy pm_Releasing_destroy cd_Releasing_destroy ct_Releasing_destroy : Value}
    (a_Releasing_destroy : PySem.W.findIn K (.ref C) "_destroy" = some (some (.ref f_Releasing_destroy))) (i_Releasing_destroy : PySem.W.isFn K (.ref f_Releasing_destroy) = true) (l_Releasing_destroy : K.lookup f_Releasing_destroy = some ⟨oc_Releasing_destroy, od_Releasing_destroy, .func (PySem.W.fnOf "_destroy" "Releasing._destroy" (defArgs sReleasingDestroy) (defBody sReleasingDestroy) (defScope sReleasingDestroy) .none kV_Releasing_destroy dc_Releasing_destroy pm_Releasing_destroy an_Releasing_destroy cd_Releasing_destroy ct_Releasing_destroy), sl_Releasing_destroy⟩)
    (c_Releasing_destroy : PySem.W.codeIn K cd_Releasing_destroy "Releasing._destroy" = true) (k_Releasing_destroy : PySem.W.keepIn K (.ref f_Releasing_destroy) = true)
    {f_Releasing_release : Addr} {od_Releasing_release an_Releasing_release : Option Addr} {sl_Releasing_release : Array (Option Value)} {oc_Releasing_release kV_Releasing_release dc_Releasing_release pm_Releasing_release cd_Releasing_release ct_Releasing_release : Value}
    (a_Releasing_release : PySem.W.findIn K (.ref C) "_release" = some (some (.ref f_Releasing_release))) (i_Releasing_release : PySem.W.isFn K (.ref f_Releasing_release) = true) (l_Releasing_release : K.lookup f_Releasing_release = some ⟨oc_Releasing_release, od_Releasing_release, .func (PySem.W.fnOf "_release" "Releasing._release" (defArgs sReleasingRelease) (defBody sReleasingRelease) (defScope sReleasingRelease) .none kV_Releasing_release dc_Releasing_release pm_Releasing_release an_Releasing_release cd_Releasing_release ct_Releasing_release), sl_Releasing_release⟩)
    (c_Releasing_release : PySem.W.codeIn K cd_Releasing_release "Releasing._release" = true) (k_Releasing_release : PySem.W.keepIn K (.ref f_Releasing_release) = true)
    {f_Releasing_release_all : Addr} {od_Releasing_release_all an_Releasing_release_all : Option Addr} {sl_Releasing_release_all : Array (Option Value)} {oc_Releasing_release_all kV_Releasing_release_all dc_Releasing_release_all pm_Releasing_release_all cd_Releasing_release_all ct_Releasing_release_all : Value}
    (a_Releasing_release_all : PySem.W.findIn K (.ref C) "_release_all" = some (some (.ref f_Releasing_release_all))) (i_Releasing_release_all : PySem.W.isFn K (.ref f_Releasing_release_all) = true) (l_Releasing_release_all : K.lookup f_Releasing_release_all = some ⟨oc_Releasing_release_all, od_Releasing_release_all, .func (PySem.W.fnOf "_release_all" "Releasing._release_all" (defArgs sReleasingReleaseAll) (defBody sReleasingReleaseAll) (defScope sReleasingReleaseAll) .none kV_Releasing_release_all dc_Releasing_release_all pm_Releasing_release_all an_Releasing_release_all cd_Releasing_release_all ct_Releasing_release_all), sl_Releasing_release_all⟩)
    (c_Releasing_release_all : PySem.W.codeIn K cd_Releasing_release_all "Releasing._release_all" = true) (k_Releasing_release_all : PySem.W.keepIn K (.ref f_Releasing_release_all) = true)
    {f_Releasing_drop : Addr} {od_Releasing_drop an_Releasing_drop : Option Addr} {sl_Releasing_drop : Array (Option Value)} {oc_Releasing_drop kV_Releasing_drop dc_Releasing_drop pm_Releasing_drop cd_Releasing_drop ct_Releasing_drop : Value}
    (a_Releasing_drop : PySem.W.findIn K (.ref C) "drop" = some (some (.ref f_Releasing_drop))) (i_Releasing_drop : PySem.W.isFn K (.ref f_Releasing_drop) = true) (l_Releasing_drop : K.lookup f_Releasing_drop = some ⟨oc_Releasing_drop, od_Releasing_drop, .func (PySem.W.fnOf "drop" "Releasing.drop" (defArgs sReleasingDrop) (defBody sReleasingDrop) (defScope sReleasingDrop) .none kV_Releasing_drop dc_Releasing_drop pm_Releasing_drop an_Releasing_drop cd_Releasing_drop ct_Releasing_drop), sl_Releasing_drop⟩)
    (c_Releasing_drop : PySem.W.codeIn K cd_Releasing_drop "Releasing.drop" = true) (k_Releasing_drop : PySem.W.keepIn K (.ref f_Releasing_drop) = true)
    {f_Releasing_init : Addr} {od_Releasing_init an_Releasing_init : Option Addr} {sl_Releasing_init : Array (Option Value)} {oc_Releasing_init kV_Releasing_init dc_Releasing_init pm_Releasing_init cd_Releasing_init ct_Releasing_init : Value}
    (a_Releasing_init : PySem.W.findIn K (.ref C) "__init__" = some (some (.ref f_Releasing_init))) (i_Releasing_init : PySem.W.isFn K (.ref f_Releasing_init) = true) (l_Releasing_init : K.lookup f_Releasing_init = some ⟨oc_Releasing_init, od_Releasing_init, .func (PySem.W.fnOf "__init__" "Releasing.__init__" (defArgs sReleasingInit) (defBody sReleasingInit) (defScope sReleasingInit) .none kV_Releasing_init dc_Releasing_init pm_Releasing_init an_Releasing_init cd_Releasing_init ct_Releasing_init), sl_Releasing_init⟩)
    (c_Releasing_init : PySem.W.codeIn K cd_Releasing_init "Releasing.__init__" = true) (k_Releasing_init : PySem.W.keepIn K (.ref f_Releasing_init) = true)
    {f_Releasing_result : Addr} {od_Releasing_result an_Releasing_result : Option Addr} {sl_Releasing_result : Array (Option Value)} {oc_Releasing_result kV_Releasing_result dc_Releasing_result pm_Releasing_result cd_Releasing_result ct_Releasing_result : Value}
    (a_Releasing_result : PySem.W.findIn K (.ref C) "result" = some (some (.ref f_Releasing_result))) (i_Releasing_result : PySem.W.isFn K (.ref f_Releasing_result) = true) (l_Releasing_result : K.lookup f_Releasing_result = some ⟨oc_Releasing_result, od_Releasing_result, .func (PySem.W.fnOf "result" "Releasing.result" (defArgs sReleasingResult) (defBody sReleasingResult) (defScope sReleasingResult) .none kV_Releasing_result dc_Releasing_result pm_Releasing_result an_Releasing_result cd_Releasing_result ct_Releasing_result), sl_Releasing_result⟩)
    (c_Releasing_result : PySem.W.codeIn K cd_Releasing_result "Releasing.result" = true) (k_Releasing_result : PySem.W.keepIn K (.ref f_Releasing_result) = true)
    {f_run_drop : Addr} {od_run_drop an_run_drop : Option Addr} {sl_run_drop : Array (Option Value)} {oc_run_drop kV_run_drop dc_run_drop pm_run_drop cd_run_drop ct_run_drop : Value}
    (a_run_drop : PySem.W.nsIn K mainGlobals "run_drop" = some (some (.ref f_run_drop))) (l_run_drop : K.lookup f_run_drop = some ⟨oc_run_drop, od_run_drop, .func (PySem.W.fnOf "run_drop" "run_drop" (defArgs sRunDrop) (defBody sRunDrop) (defScope sRunDrop) .none kV_run_drop dc_run_drop pm_run_drop an_run_drop cd_run_drop ct_run_drop), sl_run_drop⟩)
    (c_run_drop : PySem.W.codeIn K cd_run_drop "run_drop" = true) (k_run_drop : PySem.W.keepIn K (.ref f_run_drop) = true)
    {f_drop : Addr} {od_drop an_drop : Option Addr} {sl_drop : Array (Option Value)} {oc_drop kV_drop dc_drop pm_drop cd_drop ct_drop : Value}
    (a_drop : PySem.W.nsIn K mainGlobals "drop" = some (some (.ref f_drop))) (l_drop : K.lookup f_drop = some ⟨oc_drop, od_drop, .func (PySem.W.fnOf "drop" "drop" (defArgs sDrop) (defBody sDrop) (defScope sDrop) .none kV_drop dc_drop pm_drop an_drop cd_drop ct_drop), sl_drop⟩)
    (c_drop : PySem.W.codeIn K cd_drop "drop" = true) (k_drop : PySem.W.keepIn K (.ref f_drop) = true)
    {f_trace : Addr} {od_trace an_trace : Option Addr} {sl_trace : Array (Option Value)} {oc_trace kV_trace dc_trace pm_trace cd_trace ct_trace : Value}
    (a_trace : PySem.W.nsIn K mainGlobals "trace" = some (some (.ref f_trace))) (l_trace : K.lookup f_trace = some ⟨oc_trace, od_trace, .func (PySem.W.fnOf "trace" "trace" (defArgs sTrace) (defBody sTrace) (defScope sTrace) .none kV_trace dc_trace pm_trace an_trace cd_trace ct_trace), sl_trace⟩)
    (c_trace : PySem.W.codeIn K cd_trace "trace" = true) (k_trace : PySem.W.keepIn K (.ref f_trace) = true)
    {f_law_pen : Addr} {od_law_pen an_law_pen : Option Addr} {sl_law_pen : Array (Option Value)} {oc_law_pen kV_law_pen dc_law_pen pm_law_pen cd_law_pen ct_law_pen : Value}
    (a_law_pen : PySem.W.nsIn K mainGlobals "_law_pen" = some (some (.ref f_law_pen))) (l_law_pen : K.lookup f_law_pen = some ⟨oc_law_pen, od_law_pen, .func (PySem.W.fnOf "_law_pen" "_law_pen" (defArgs sQPen) (defBody sQPen) (defScope sQPen) .none kV_law_pen dc_law_pen pm_law_pen an_law_pen cd_law_pen ct_law_pen), sl_law_pen⟩)
    (c_law_pen : PySem.W.codeIn K cd_law_pen "_law_pen" = true) (k_law_pen : PySem.W.keepIn K (.ref f_law_pen) = true)
    {f_law_draw : Addr} {od_law_draw an_law_draw : Option Addr} {sl_law_draw : Array (Option Value)} {oc_law_draw kV_law_draw dc_law_draw pm_law_draw cd_law_draw ct_law_draw : Value}
    (a_law_draw : PySem.W.nsIn K mainGlobals "_law_draw" = some (some (.ref f_law_draw))) (l_law_draw : K.lookup f_law_draw = some ⟨oc_law_draw, od_law_draw, .func (PySem.W.fnOf "_law_draw" "_law_draw" (defArgs sQDraw) (defBody sQDraw) (defScope sQDraw) .none kV_law_draw dc_law_draw pm_law_draw an_law_draw cd_law_draw ct_law_draw), sl_law_draw⟩)
    (c_law_draw : PySem.W.codeIn K cd_law_draw "_law_draw" = true) (k_law_draw : PySem.W.keepIn K (.ref f_law_draw) = true)
    {f_law_shuffled : Addr} {od_law_shuffled an_law_shuffled : Option Addr} {sl_law_shuffled : Array (Option Value)} {oc_law_shuffled kV_law_shuffled dc_law_shuffled pm_law_shuffled cd_law_shuffled ct_law_shuffled : Value}
    (a_law_shuffled : PySem.W.nsIn K mainGlobals "_law_shuffled" = some (some (.ref f_law_shuffled))) (l_law_shuffled : K.lookup f_law_shuffled = some ⟨oc_law_shuffled, od_law_shuffled, .func (PySem.W.fnOf "_law_shuffled" "_law_shuffled" (defArgs sQShuffled) (defBody sQShuffled) (defScope sQShuffled) .none kV_law_shuffled dc_law_shuffled pm_law_shuffled an_law_shuffled cd_law_shuffled ct_law_shuffled), sl_law_shuffled⟩)
    (c_law_shuffled : PySem.W.codeIn K cd_law_shuffled "_law_shuffled" = true) (k_law_shuffled : PySem.W.keepIn K (.ref f_law_shuffled) = true)
    {f_law_linked : Addr} {od_law_linked an_law_linked : Option Addr} {sl_law_linked : Array (Option Value)} {oc_law_linked kV_law_linked dc_law_linked pm_law_linked cd_law_linked ct_law_linked : Value}
    (a_law_linked : PySem.W.nsIn K mainGlobals "_law_linked" = some (some (.ref f_law_linked))) (l_law_linked : K.lookup f_law_linked = some ⟨oc_law_linked, od_law_linked, .func (PySem.W.fnOf "_law_linked" "_law_linked" (defArgs sQLinked) (defBody sQLinked) (defScope sQLinked) .none kV_law_linked dc_law_linked pm_law_linked an_law_linked cd_law_linked ct_law_linked), sl_law_linked⟩)
    (c_law_linked : PySem.W.codeIn K cd_law_linked "_law_linked" = true) (k_law_linked : PySem.W.keepIn K (.ref f_law_linked) = true)
    {f_law_base : Addr} {od_law_base an_law_base : Option Addr} {sl_law_base : Array (Option Value)} {oc_law_base kV_law_base dc_law_base pm_law_base cd_law_base ct_law_base : Value}
    (a_law_base : PySem.W.nsIn K mainGlobals "_law_base" = some (some (.ref f_law_base))) (l_law_base : K.lookup f_law_base = some ⟨oc_law_base, od_law_base, .func (PySem.W.fnOf "_law_base" "_law_base" (defArgs sQBase) (defBody sQBase) (defScope sQBase) .none kV_law_base dc_law_base pm_law_base an_law_base cd_law_base ct_law_base), sl_law_base⟩)
    (c_law_base : PySem.W.codeIn K cd_law_base "_law_base" = true) (k_law_base : PySem.W.keepIn K (.ref f_law_base) = true)
    {f_law_bound : Addr} {od_law_bound an_law_bound : Option Addr} {sl_law_bound : Array (Option Value)} {oc_law_bound kV_law_bound dc_law_bound pm_law_bound cd_law_bound ct_law_bound : Value}
    (a_law_bound : PySem.W.nsIn K mainGlobals "_law_bound" = some (some (.ref f_law_bound))) (l_law_bound : K.lookup f_law_bound = some ⟨oc_law_bound, od_law_bound, .func (PySem.W.fnOf "_law_bound" "_law_bound" (defArgs sQBound) (defBody sQBound) (defScope sQBound) .none kV_law_bound dc_law_bound pm_law_bound an_law_bound cd_law_bound ct_law_bound), sl_law_bound⟩)
    (c_law_bound : PySem.W.codeIn K cd_law_bound "_law_bound" = true) (k_law_bound : PySem.W.keepIn K (.ref f_law_bound) = true)
    {f_law_held_by : Addr} {od_law_held_by an_law_held_by : Option Addr} {sl_law_held_by : Array (Option Value)} {oc_law_held_by kV_law_held_by dc_law_held_by pm_law_held_by cd_law_held_by ct_law_held_by : Value}
    (a_law_held_by : PySem.W.nsIn K mainGlobals "_law_held_by" = some (some (.ref f_law_held_by))) (l_law_held_by : K.lookup f_law_held_by = some ⟨oc_law_held_by, od_law_held_by, .func (PySem.W.fnOf "_law_held_by" "_law_held_by" (defArgs sQHeldBy) (defBody sQHeldBy) (defScope sQHeldBy) .none kV_law_held_by dc_law_held_by pm_law_held_by an_law_held_by cd_law_held_by ct_law_held_by), sl_law_held_by⟩)
    (c_law_held_by : PySem.W.codeIn K cd_law_held_by "_law_held_by" = true) (k_law_held_by : PySem.W.keepIn K (.ref f_law_held_by) = true)
    {f_law_lost : Addr} {od_law_lost an_law_lost : Option Addr} {sl_law_lost : Array (Option Value)} {oc_law_lost kV_law_lost dc_law_lost pm_law_lost cd_law_lost ct_law_lost : Value}
    (a_law_lost : PySem.W.nsIn K mainGlobals "_law_lost" = some (some (.ref f_law_lost))) (l_law_lost : K.lookup f_law_lost = some ⟨oc_law_lost, od_law_lost, .func (PySem.W.fnOf "_law_lost" "_law_lost" (defArgs sQLost) (defBody sQLost) (defScope sQLost) .none kV_law_lost dc_law_lost pm_law_lost an_law_lost cd_law_lost ct_law_lost), sl_law_lost⟩)
    (c_law_lost : PySem.W.codeIn K cd_law_lost "_law_lost" = true) (k_law_lost : PySem.W.keepIn K (.ref f_law_lost) = true)
    {f_law_right : Addr} {od_law_right an_law_right : Option Addr} {sl_law_right : Array (Option Value)} {oc_law_right kV_law_right dc_law_right pm_law_right cd_law_right ct_law_right : Value}
    (a_law_right : PySem.W.nsIn K mainGlobals "_law_right" = some (some (.ref f_law_right))) (l_law_right : K.lookup f_law_right = some ⟨oc_law_right, od_law_right, .func (PySem.W.fnOf "_law_right" "_law_right" (defArgs sQRight) (defBody sQRight) (defScope sQRight) .none kV_law_right dc_law_right pm_law_right an_law_right cd_law_right ct_law_right), sl_law_right⟩)
    (c_law_right : PySem.W.codeIn K cd_law_right "_law_right" = true) (k_law_right : PySem.W.keepIn K (.ref f_law_right) = true)
    {f_law : Addr} {od_law an_law : Option Addr} {sl_law : Array (Option Value)} {oc_law kV_law dc_law pm_law cd_law ct_law : Value}
    (a_law : PySem.W.nsIn K mainGlobals "law" = some (some (.ref f_law))) (l_law : K.lookup f_law = some ⟨oc_law, od_law, .func (PySem.W.fnOf "law" "law" (defArgs sLaw) (defBody sLaw) (defScope sLaw) .none kV_law dc_law pm_law an_law cd_law ct_law), sl_law⟩)
    (c_law : PySem.W.codeIn K cd_law "law" = true) (k_law : PySem.W.keepIn K (.ref f_law) = true)
    (z_len : PySem.W.nsIn K mainGlobals "len" = some none)
    (z_abs : PySem.W.nsIn K mainGlobals "abs" = some none)
    (z_int : PySem.W.nsIn K mainGlobals "int" = some none)
    (z_bool : PySem.W.nsIn K mainGlobals "bool" = some none)
    (z_list : PySem.W.nsIn K mainGlobals "list" = some none)
    (z_tuple : PySem.W.nsIn K mainGlobals "tuple" = some none)
    (z_min : PySem.W.nsIn K mainGlobals "min" = some none)
    (z_max : PySem.W.nsIn K mainGlobals "max" = some none)
    (z_sum : PySem.W.nsIn K mainGlobals "sum" = some none)
    (z_any : PySem.W.nsIn K mainGlobals "any" = some none)
    (z_all : PySem.W.nsIn K mainGlobals "all" = some none)
    (z_repr : PySem.W.nsIn K mainGlobals "repr" = some none)
    (z_sorted : PySem.W.nsIn K mainGlobals "sorted" = some none)
    (z_isinstance : PySem.W.nsIn K mainGlobals "isinstance" = some none)
    (z_range : PySem.W.nsIn K mainGlobals "range" = some none)
    (z_enumerate : PySem.W.nsIn K mainGlobals "enumerate" = some none) :
    ∃ fd : FuncData, (∀ (s : Shared) (v : Value), BindsTo s fd ⟨[v], []⟩ [("_law_script", v)]) ∧ ∀ base : Heap, K.In base → base.Ns mainGlobals mg → FnG l.prog w K mg base 9 fa fd ["_law_script"] (spLaw K) := by
  have e := hfa.symm.trans (PySem.W.mg_of X G a_law)
  cases e
  have T : Txt mg := ⟨PySem.W.mg_none_of X G z_len, PySem.W.mg_none_of X G z_abs, PySem.W.mg_none_of X G z_int, PySem.W.mg_none_of X G z_bool, PySem.W.mg_none_of X G z_list, PySem.W.mg_none_of X G z_tuple, PySem.W.mg_none_of X G z_min, PySem.W.mg_none_of X G z_max, PySem.W.mg_none_of X G z_sum, PySem.W.mg_none_of X G z_any, PySem.W.mg_none_of X G z_all, PySem.W.mg_none_of X G z_repr, PySem.W.mg_none_of X G z_sorted, PySem.W.mg_none_of X G z_isinstance, PySem.W.mg_none_of X G z_range, PySem.W.mg_none_of X G z_enumerate⟩
  have F_slot_uses := fun_mk (st := sSlotUses) l_slot_uses c_slot_uses k_slot_uses
  have F_counts := fun_mk (st := sCounts) l_counts c_counts k_counts
  have F_is_integer := fun_mk (st := sIsInteger) l_is_integer c_is_integer k_is_integer
  have F_is_between := fun_mk (st := sIsBetween) l_is_between c_is_between k_is_between
  have F_is_live := fun_mk (st := sIsLive) l_is_live c_is_live k_is_live
  have F_need_live := fun_mk (st := sNeedLive) l_need_live c_need_live k_need_live
  have F_need_reference := fun_mk (st := sNeedReference) l_need_reference c_need_reference k_need_reference
  have F_Releasing_destroy := fun_mk (st := sReleasingDestroy) l_Releasing_destroy c_Releasing_destroy k_Releasing_destroy
  have F_Releasing_release := fun_mk (st := sReleasingRelease) l_Releasing_release c_Releasing_release k_Releasing_release
  have F_Releasing_release_all := fun_mk (st := sReleasingReleaseAll) l_Releasing_release_all c_Releasing_release_all k_Releasing_release_all
  have F_Releasing_drop := fun_mk (st := sReleasingDrop) l_Releasing_drop c_Releasing_drop k_Releasing_drop
  have F_Releasing_init := fun_mk (st := sReleasingInit) l_Releasing_init c_Releasing_init k_Releasing_init
  have F_Releasing_result := fun_mk (st := sReleasingResult) l_Releasing_result c_Releasing_result k_Releasing_result
  have F_run_drop := fun_mk (st := sRunDrop) l_run_drop c_run_drop k_run_drop
  have F_drop := fun_mk (st := sDrop) l_drop c_drop k_drop
  have F_trace := fun_mk (st := sTrace) l_trace c_trace k_trace
  have F_law_pen := fun_mk (st := sQPen) l_law_pen c_law_pen k_law_pen
  have F_law_draw := fun_mk (st := sQDraw) l_law_draw c_law_draw k_law_draw
  have F_law_shuffled := fun_mk (st := sQShuffled) l_law_shuffled c_law_shuffled k_law_shuffled
  have F_law_linked := fun_mk (st := sQLinked) l_law_linked c_law_linked k_law_linked
  have F_law_base := fun_mk (st := sQBase) l_law_base c_law_base k_law_base
  have F_law_bound := fun_mk (st := sQBound) l_law_bound c_law_bound k_law_bound
  have F_law_held_by := fun_mk (st := sQHeldBy) l_law_held_by c_law_held_by k_law_held_by
  have F_law_lost := fun_mk (st := sQLost) l_law_lost c_law_lost k_law_lost
  have F_law_right := fun_mk (st := sQRight) l_law_right c_law_right k_law_right
  have F_law := fun_mk (st := sLaw) l_law c_law k_law
  have cR : Cls K C := ⟨pg, hd, po, sa⟩
  have hC : ClR K C := ⟨cR, n_slots, n_outside, n_references, n_limit, n_emptied, n_shelf, n_events⟩
  refine ⟨PySem.W.fnOf "law" "law" (defArgs sLaw) (defBody sLaw) (defScope sLaw) .none kV_law dc_law pm_law an_law cd_law ct_law, fun s v => .of_eq rfl, fun base _ _ => ?_⟩
  have b_slot_uses := F_slot_uses.binds (ps := ["slots"]) fun _ _ _ _ _ _ us hl => match us, hl with | [_], _ => rfl
  have l_slot_uses : Lo l.prog w K mg base "slot_uses" 1 ["slots"] (spUses K) := ⟨f_slot_uses, _, ok_uses F_slot_uses T, PySem.W.mg_of X G a_slot_uses, k_slot_uses, b_slot_uses⟩
  have b_counts := F_counts.binds (ps := ["heap"]) fun _ _ _ _ _ _ us hl => match us, hl with | [_], _ => rfl
  have l_counts : Lo l.prog w K mg base "counts" 2 ["heap"] (spCounts K) := ⟨f_counts, _, ok_counts F_counts T l_slot_uses, PySem.W.mg_of X G a_counts, k_counts, b_counts⟩
  have b_is_integer := F_is_integer.binds (ps := ["value"]) fun _ _ _ _ _ _ us hl => match us, hl with | [_], _ => rfl
  have l_is_integer : Lo l.prog w K mg base "is_integer" 1 ["value"] (spIsInt) := ⟨f_is_integer, _, ok_isInt F_is_integer T, PySem.W.mg_of X G a_is_integer, k_is_integer, b_is_integer⟩
  have b_is_between := F_is_between.binds (ps := ["value", "low", "high"]) fun _ _ _ _ _ _ us hl => match us, hl with | [_, _, _], _ => rfl
  have l_is_between : Lo l.prog w K mg base "is_between" 2 ["value", "low", "high"] (spBetween) := ⟨f_is_between, _, ok_between F_is_between T l_is_integer, PySem.W.mg_of X G a_is_between, k_is_between, b_is_between⟩
  have b_is_live := F_is_live.binds (ps := ["heap", "value"]) fun _ _ _ _ _ _ us hl => match us, hl with | [_, _], _ => rfl
  have l_is_live : Lo l.prog w K mg base "is_live" 3 ["heap", "value"] (spIsLive K) := ⟨f_is_live, _, ok_isLive F_is_live T l_is_between, PySem.W.mg_of X G a_is_live, k_is_live, b_is_live⟩
  have b_need_live := F_need_live.binds (ps := ["heap", "node"]) fun _ _ _ _ _ _ us hl => match us, hl with | [_, _], _ => rfl
  have l_need_live : Lo l.prog w K mg base "need_live" 4 ["heap", "node"] (spNeedLive K) := ⟨f_need_live, _, ok_needLive F_need_live T l_is_live, PySem.W.mg_of X G a_need_live, k_need_live, b_need_live⟩
  have b_need_reference := F_need_reference.binds (ps := ["heap", "node"]) fun _ _ _ _ _ _ us hl => match us, hl with | [_, _], _ => rfl
  have l_need_reference : Lo l.prog w K mg base "need_reference" 5 ["heap", "node"] (spNeedRef K) := ⟨f_need_reference, _, ok_needRef F_need_reference T l_need_live, PySem.W.mg_of X G a_need_reference, k_need_reference, b_need_reference⟩
  have b_Releasing_destroy := F_Releasing_destroy.binds (ps := ["self", "node", "depth"]) fun _ _ _ _ _ _ us hl => match us, hl with | [_, _, _], _ => rfl
  have m_destroy : Lm l.prog w K mg base C "_destroy" 1 ["self", "node", "depth"] (spDestroy K C) := ⟨f_Releasing_destroy, _, ok_destroy F_Releasing_destroy T, ⟨a_Releasing_destroy, i_Releasing_destroy, k_Releasing_destroy⟩, b_Releasing_destroy⟩
  have b_Releasing_release := F_Releasing_release.binds (ps := ["self", "holder", "slot", "node", "depth"]) fun _ _ _ _ _ _ us hl => match us, hl with | [_, _, _, _, _], _ => rfl
  have m_release : Lm l.prog w K mg base C "_release" 2 ["self", "holder", "slot", "node", "depth"] (spRelease K C) := ⟨f_Releasing_release, _, ok_release F_Releasing_release T m_destroy cR, ⟨a_Releasing_release, i_Releasing_release, k_Releasing_release⟩, b_Releasing_release⟩
  have b_Releasing_release_all := F_Releasing_release_all.binds (ps := ["self"]) fun _ _ _ _ _ _ us hl => match us, hl with | [_], _ => rfl
  have m_release_all : Lm l.prog w K mg base C "_release_all" 3 ["self"] (spReleaseAll K C) := ⟨f_Releasing_release_all, _, ok_releaseAll F_Releasing_release_all T m_release cR, ⟨a_Releasing_release_all, i_Releasing_release_all, k_Releasing_release_all⟩, b_Releasing_release_all⟩
  have b_Releasing_drop := F_Releasing_drop.binds (ps := ["self", "node"]) fun _ _ _ _ _ _ us hl => match us, hl with | [_, _], _ => rfl
  have m_drop : Lm l.prog w K mg base C "drop" 4 ["self", "node"] (spMDrop K C) := ⟨f_Releasing_drop, _, ok_mdrop F_Releasing_drop T m_release_all m_destroy cR, ⟨a_Releasing_drop, i_Releasing_drop, k_Releasing_drop⟩, b_Releasing_drop⟩
  have b_Releasing_init := F_Releasing_init.binds (ps := ["self", "heap", "limit"]) fun _ _ _ _ _ _ us hl => match us, hl with | [_, _, _], _ => rfl
  have n_Releasing : Ln l.prog w K mg base C "Releasing" 3 ["self", "heap", "limit"] (spMInit K C) := ⟨f_Releasing_init, _, ok_minit F_Releasing_init T l_counts, ⟨mk, a_Releasing_init, i_Releasing_init, kc⟩, PySem.W.mg_of X G aC, b_Releasing_init⟩
  have b_Releasing_result := F_Releasing_result.binds (ps := ["self"]) fun _ _ _ _ _ _ us hl => match us, hl with | [_], _ => rfl
  have m_result : Lm l.prog w K mg base C "result" 1 ["self"] (spResult K C) := ⟨f_Releasing_result, _, ok_result F_Releasing_result T, ⟨a_Releasing_result, i_Releasing_result, k_Releasing_result⟩, b_Releasing_result⟩
  have b_run_drop := F_run_drop.binds (ps := ["heap", "node", "limit"]) fun _ _ _ _ _ _ us hl => match us, hl with | [_, _, _], _ => rfl
  have l_run_drop : Lo l.prog w K mg base "run_drop" 6 ["heap", "node", "limit"] (spRun K C) := ⟨f_run_drop, _, ok_run F_run_drop T hC cR l_need_reference n_Releasing m_drop, PySem.W.mg_of X G a_run_drop, k_run_drop, b_run_drop⟩
  have b_law_pen := F_law_pen.binds (ps := ["_law_script"]) fun _ _ _ _ _ _ us hl => match us, hl with | [_], _ => rfl
  have l_law_pen : Lo l.prog w K mg base "_law_pen" 1 ["_law_script"] (spPen K) := ⟨f_law_pen, _, ok_pen F_law_pen T, PySem.W.mg_of X G a_law_pen, k_law_pen, b_law_pen⟩
  have b_law_draw := F_law_draw.binds (ps := ["_law_pen_here", "_law_most_one"]) fun _ _ _ _ _ _ us hl => match us, hl with | [_, _], _ => rfl
  have l_law_draw : Lo l.prog w K mg base "_law_draw" 1 ["_law_pen_here", "_law_most_one"] (spDraw) := ⟨f_law_draw, _, ok_draw F_law_draw T, PySem.W.mg_of X G a_law_draw, k_law_draw, b_law_draw⟩
  have b_law_shuffled := F_law_shuffled.binds (ps := ["_law_pen_here", "_law_row"]) fun _ _ _ _ _ _ us hl => match us, hl with | [_, _], _ => rfl
  have l_law_shuffled : Lo l.prog w K mg base "_law_shuffled" 2 ["_law_pen_here", "_law_row"] (spShuf K) := ⟨f_law_shuffled, _, ok_shuf F_law_shuffled T l_law_draw, PySem.W.mg_of X G a_law_shuffled, k_law_shuffled, b_law_shuffled⟩
  have b_law_linked := F_law_linked.binds (ps := ["_law_pen_here", "_law_labels", "_law_alive"]) fun _ _ _ _ _ _ us hl => match us, hl with | [_, _, _], _ => rfl
  have l_law_linked : Lo l.prog w K mg base "_law_linked" 2 ["_law_pen_here", "_law_labels", "_law_alive"] (spLinked K) := ⟨f_law_linked, _, ok_linked F_law_linked T l_law_draw, PySem.W.mg_of X G a_law_linked, k_law_linked, b_law_linked⟩
  have b_law_base := F_law_base.binds (ps := ["_law_pen_here"]) fun _ _ _ _ _ _ us hl => match us, hl with | [_], _ => rfl
  have l_law_base : Lo l.prog w K mg base "_law_base" 3 ["_law_pen_here"] (spBase K) := ⟨f_law_base, _, ok_base F_law_base T l_law_draw l_law_shuffled l_law_linked, PySem.W.mg_of X G a_law_base, k_law_base, b_law_base⟩
  have b_law_bound := F_law_bound.binds (ps := ["_law_pen_here", "_law_size"]) fun _ _ _ _ _ _ us hl => match us, hl with | [_, _], _ => rfl
  have l_law_bound : Lo l.prog w K mg base "_law_bound" 2 ["_law_pen_here", "_law_size"] (spBound) := ⟨f_law_bound, _, ok_bound F_law_bound T l_law_draw, PySem.W.mg_of X G a_law_bound, k_law_bound, b_law_bound⟩
  have b_law_held_by := F_law_held_by.binds (ps := ["_law_base_here"]) fun _ _ _ _ _ _ us hl => match us, hl with | [_], _ => rfl
  have l_law_held_by : Lo l.prog w K mg base "_law_held_by" 1 ["_law_base_here"] (spHeld K) := ⟨f_law_held_by, _, ok_held F_law_held_by T, PySem.W.mg_of X G a_law_held_by, k_law_held_by, b_law_held_by⟩
  have b_law_lost := F_law_lost.binds (ps := ["_law_base_here", "_law_spot", "_law_held_by_here"]) fun _ _ _ _ _ _ us hl => match us, hl with | [_, _, _], _ => rfl
  have l_law_lost : Lo l.prog w K mg base "_law_lost" 1 ["_law_base_here", "_law_spot", "_law_held_by_here"] (spLost K) := ⟨f_law_lost, _, ok_lost F_law_lost T, PySem.W.mg_of X G a_law_lost, k_law_lost, b_law_lost⟩
  have x_drop : Lkx l.prog w K mg base "drop" 7 ["heap", "node", "limit"] ["limit"] (gApp 2 1) (spDrop K) := ⟨f_drop, _, gApp 2 1, ok_drop F_drop T hC cR l_run_drop m_result, PySem.W.mg_of X G a_drop, k_drop, ⟨fun s us ws _ hl => by have h := gApp_to (n := 2) (m := 1) hl (by decide); obtain ⟨_, _, rfl⟩ := len2 h.1; obtain ⟨_, rfl⟩ := len1 h.2; exact .of_eq rfl, gApp_rel⟩⟩
  have x_trace : Lkx l.prog w K mg base "trace" 7 ["heap", "node", "limit"] ["limit"] (gApp 2 1) (spTrace K) := ⟨f_trace, _, gApp 2 1, ok_trace F_trace T hC cR l_run_drop, PySem.W.mg_of X G a_trace, k_trace, ⟨fun s us ws _ hl => by have h := gApp_to (n := 2) (m := 1) hl (by decide); obtain ⟨_, _, rfl⟩ := len2 h.1; obtain ⟨_, rfl⟩ := len1 h.2; exact .of_eq rfl, gApp_rel⟩⟩
  have b_law_right := F_law_right.binds (ps := ["_law_base_here", "_law_spot", "_law_bounds"]) fun _ _ _ _ _ _ us hl => match us, hl with | [_, _, _], _ => rfl
  have l_law_right : Lk l.prog w K mg base "_law_right" 8 ["_law_base_here", "_law_spot", "_law_bounds"] (spRight K) := ⟨f_law_right, _, ok_right F_law_right T l_law_held_by l_law_lost x_drop x_trace, PySem.W.mg_of X G a_law_right, k_law_right, b_law_right⟩
  exact ok_law F_law T l_law_pen l_law_base l_law_draw l_law_bound l_law_right
end SF
open PySem PySem.W PyProof.Rows in
set_option maxRecDepth 100000 in
set_option maxHeartbeats 0 in
theorem PySem.Challenge.cw_slotfall_k15_whole_limit_changes_only_th_holds : PySem.Challenge.rw_slotfall_k15_whole_limit_changes_only_th.Holds := by
  w_on; o_law; k_head; (case hw => w_witness2)
  k_fill
  refine SF.walkG (l := PySem.Challenge.rw_slotfall_k15_whole_limit_changes_only_th) (n := 63) (k := 9) (x := "_law_script") (sp := SF.spLaw) rfl (by decide) rfl ⟨rfl, by decide, by decide⟩ (fun w h Y => PySem.W.kIn_of Y) ?F (fun _ _ a ns _ _ _ hS => ⟨a, ns, rfl, hS, fun _ => rfl⟩)
  case F =>
    intro w mg fa h KX G hmg
    refine' SF.all_mk KX G hmg ?aC ?pg ?hd ?po ?sa ?mk ?kc ?n_slots ?n_outside ?n_references ?n_limit ?n_emptied ?n_shelf ?n_events ?a_slot_uses ?l_slot_uses ?c_slot_uses ?k_slot_uses ?a_counts ?l_counts ?c_counts ?k_counts ?a_is_integer ?l_is_integer ?c_is_integer ?k_is_integer ?a_is_between ?l_is_between ?c_is_between ?k_is_between ?a_is_live ?l_is_live ?c_is_live ?k_is_live ?a_need_live ?l_need_live ?c_need_live ?k_need_live ?a_need_reference ?l_need_reference ?c_need_reference ?k_need_reference ?a_Releasing_destroy ?i_Releasing_destroy ?l_Releasing_destroy ?c_Releasing_destroy ?k_Releasing_destroy ?a_Releasing_release ?i_Releasing_release ?l_Releasing_release ?c_Releasing_release ?k_Releasing_release ?a_Releasing_release_all ?i_Releasing_release_all ?l_Releasing_release_all ?c_Releasing_release_all ?k_Releasing_release_all ?a_Releasing_drop ?i_Releasing_drop ?l_Releasing_drop ?c_Releasing_drop ?k_Releasing_drop ?a_Releasing_init ?i_Releasing_init ?l_Releasing_init ?c_Releasing_init ?k_Releasing_init ?a_Releasing_result ?i_Releasing_result ?l_Releasing_result ?c_Releasing_result ?k_Releasing_result ?a_run_drop ?l_run_drop ?c_run_drop ?k_run_drop ?a_drop ?l_drop ?c_drop ?k_drop ?a_trace ?l_trace ?c_trace ?k_trace ?a_law_pen ?l_law_pen ?c_law_pen ?k_law_pen ?a_law_draw ?l_law_draw ?c_law_draw ?k_law_draw ?a_law_shuffled ?l_law_shuffled ?c_law_shuffled ?k_law_shuffled ?a_law_linked ?l_law_linked ?c_law_linked ?k_law_linked ?a_law_base ?l_law_base ?c_law_base ?k_law_base ?a_law_bound ?l_law_bound ?c_law_bound ?k_law_bound ?a_law_held_by ?l_law_held_by ?c_law_held_by ?k_law_held_by ?a_law_lost ?l_law_lost ?c_law_lost ?k_law_lost ?a_law_right ?l_law_right ?c_law_right ?k_law_right ?a_law ?l_law ?c_law ?k_law ?z_len ?z_abs ?z_int ?z_bool ?z_list ?z_tuple ?z_min ?z_max ?z_sum ?z_any ?z_all ?z_repr ?z_sorted ?z_isinstance ?z_range ?z_enumerate
    (case aC => k_is)
    (case pg => k_is)
    (case hd => k_is)
    (case po => k_is)
    (case sa => k_is)
    (case mk => k_is)
    (case kc => k_is)
    (case n_slots => k_is)
    (case n_outside => k_is)
    (case n_references => k_is)
    (case n_limit => k_is)
    (case n_emptied => k_is)
    (case n_shelf => k_is)
    (case n_events => k_is)
    (case a_slot_uses => k_is)
    (case l_slot_uses => k_is)
    (case c_slot_uses => k_is)
    (case k_slot_uses => k_is)
    (case a_counts => k_is)
    (case l_counts => k_is)
    (case c_counts => k_is)
    (case k_counts => k_is)
    (case a_is_integer => k_is)
    (case l_is_integer => k_is)
    (case c_is_integer => k_is)
    (case k_is_integer => k_is)
    (case a_is_between => k_is)
    (case l_is_between => k_is)
    (case c_is_between => k_is)
    (case k_is_between => k_is)
    (case a_is_live => k_is)
    (case l_is_live => k_is)
    (case c_is_live => k_is)
    (case k_is_live => k_is)
    (case a_need_live => k_is)
    (case l_need_live => k_is)
    (case c_need_live => k_is)
    (case k_need_live => k_is)
    (case a_need_reference => k_is)
    (case l_need_reference => k_is)
    (case c_need_reference => k_is)
    (case k_need_reference => k_is)
    (case a_Releasing_destroy => k_is)
    (case i_Releasing_destroy => k_is)
    (case l_Releasing_destroy => k_is)
    (case c_Releasing_destroy => k_is)
    (case k_Releasing_destroy => k_is)
    (case a_Releasing_release => k_is)
    (case i_Releasing_release => k_is)
    (case l_Releasing_release => k_is)
    (case c_Releasing_release => k_is)
    (case k_Releasing_release => k_is)
    (case a_Releasing_release_all => k_is)
    (case i_Releasing_release_all => k_is)
    (case l_Releasing_release_all => k_is)
    (case c_Releasing_release_all => k_is)
    (case k_Releasing_release_all => k_is)
    (case a_Releasing_drop => k_is)
    (case i_Releasing_drop => k_is)
    (case l_Releasing_drop => k_is)
    (case c_Releasing_drop => k_is)
    (case k_Releasing_drop => k_is)
    (case a_Releasing_init => k_is)
    (case i_Releasing_init => k_is)
    (case l_Releasing_init => k_is)
    (case c_Releasing_init => k_is)
    (case k_Releasing_init => k_is)
    (case a_Releasing_result => k_is)
    (case i_Releasing_result => k_is)
    (case l_Releasing_result => k_is)
    (case c_Releasing_result => k_is)
    (case k_Releasing_result => k_is)
    (case a_run_drop => k_is)
    (case l_run_drop => k_is)
    (case c_run_drop => k_is)
    (case k_run_drop => k_is)
    (case a_drop => k_is)
    (case l_drop => k_is)
    (case c_drop => k_is)
    (case k_drop => k_is)
    (case a_trace => k_is)
    (case l_trace => k_is)
    (case c_trace => k_is)
    (case k_trace => k_is)
    (case a_law_pen => k_is)
    (case l_law_pen => k_is)
    (case c_law_pen => k_is)
    (case k_law_pen => k_is)
    (case a_law_draw => k_is)
    (case l_law_draw => k_is)
    (case c_law_draw => k_is)
    (case k_law_draw => k_is)
    (case a_law_shuffled => k_is)
    (case l_law_shuffled => k_is)
    (case c_law_shuffled => k_is)
    (case k_law_shuffled => k_is)
    (case a_law_linked => k_is)
    (case l_law_linked => k_is)
    (case c_law_linked => k_is)
    (case k_law_linked => k_is)
    (case a_law_base => k_is)
    (case l_law_base => k_is)
    (case c_law_base => k_is)
    (case k_law_base => k_is)
    (case a_law_bound => k_is)
    (case l_law_bound => k_is)
    (case c_law_bound => k_is)
    (case k_law_bound => k_is)
    (case a_law_held_by => k_is)
    (case l_law_held_by => k_is)
    (case c_law_held_by => k_is)
    (case k_law_held_by => k_is)
    (case a_law_lost => k_is)
    (case l_law_lost => k_is)
    (case c_law_lost => k_is)
    (case k_law_lost => k_is)
    (case a_law_right => k_is)
    (case l_law_right => k_is)
    (case c_law_right => k_is)
    (case k_law_right => k_is)
    (case a_law => k_is)
    (case l_law => k_is)
    (case c_law => k_is)
    (case k_law => k_is)
    (case z_len => k_is)
    (case z_abs => k_is)
    (case z_int => k_is)
    (case z_bool => k_is)
    (case z_list => k_is)
    (case z_tuple => k_is)
    (case z_min => k_is)
    (case z_max => k_is)
    (case z_sum => k_is)
    (case z_any => k_is)
    (case z_all => k_is)
    (case z_repr => k_is)
    (case z_sorted => k_is)
    (case z_isinstance => k_is)
    (case z_range => k_is)
    (case z_enumerate => k_is)

