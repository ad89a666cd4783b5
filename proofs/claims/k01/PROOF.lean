import PyProof.Rows.All
import Wide.All
import OpenK.AllK
import Wide.FinOn
import HandS.ForExc
import HandS.ExcOwn
import HandS.ExcInit
import HandS.ExcField
import HandS.FStr
import HandS.ExcSuper
import KE.KExcSuper
import HandS.HotCalls
import HandS.RaiseFrom
import HandS.ExcInitHot
import HandS.ForMost
import HandS.More
import PyProof.CollectStr
import HandS.Walk
import HandS.IsInst
import HandS.Property
import HandS.Text
import HandS.Strs
import PyProof.ListStr
import HandS.Conv
import HandS.Zip
import HandS.ExcIs
import HandS.SlotsOwn
import HandS.ClsMeth
import HandS.Defaults
import PySem.Challenge.RW_talepost_k01_texts_and_sets
import HandS.TupSets
import KE.KeyNested
import KE.KSortTupG
import HandS.SetBool
import HandS.WordsExc
import KE.Datum
import PyProof.StrLawsRepr
import HandS.Dict
import HandS.WordsDict
import HandS.SuiteRaise
set_option Elab.async false
set_option linter.all false
set_option maxRecDepth 100000
set_option maxHeartbeats 4000000
namespace Vk
open PySem PySem.Spec PyProof.Rows L2
/-! o.m(e, ..) whose def may raise, in a try -/
def tMethS (C : Addr) (m : Str) (sp : Sp) (E : L2.St → XK) (ta : TE) (t : TA) : TE := fun σ H Q => ta σ H fun x H1 => ∃ a dx fs, x = .ref a ∧ H1 a = some (.ins C dx fs) ∧ fs.lookup m = none ∧ t σ H1 fun vs H2 => sp (x :: vs) H2 Q (E σ)
section
variable {X : Cx} {CX : CXT} {k : Nat} {f C : Addr} {fd : FuncData} {ps : List Str} {sp : Sp} {E : L2.St → XK} {m : Str} {apos pos : Pos} {o e : Expr} {es : List Expr} {ta : TE} {t : TA}
theorem pe_methS {pl : Sem Bool} (he : PE X o ta) (c : Cls X.K C) (hm : Meth X.K C m f) (F : FnOk X.prog X.w X.K X.mg X.base CX k f fd ps sp) (hr : Room k X.A) (hb : Binds X.K fd ps []) (hx : ∀ σ, PassesAt CX X σ (E σ)) (ha : PA X (e :: es) t)
    (hst : starEach (e :: es) X.env = (false, eval e X.env) :: starEach es X.env := by rfl) (hpl : (backTo pos (starEach es X.env)).any (·.1) = false := by rfl)
    (ht : eval (.Call (.Attribute o m apos) (e :: es) [] pos) X.env = (do
      let ov ← eval o X.env
      standAt apos.atName
      let (f, first) ← holding [ov] (getMethod ov m pl)
      callWith pos f first (backTo pos (starEach (e :: es) X.env)) (backToKw pos (keywordEach [] X.env))) := by rfl) :
    PE X (.Call (.Attribute o m apos) (e :: es) [] pos) (tMethS C m sp E ta t) := by
  refine ⟨fun pins s σ H Q I h => ?_⟩
  refine PySem.W.methodCall_KW (pl := pl) (thn (he.run pins s σ H _ I h) fun u s1 ⟨x, H1, I1, rx, a, dx, fs, ex, ea, l, q⟩ => ?_) ht
  subst ex
  obtain rfl : u = Value.ref a := rx
  refine getmeth_ok I1 ea c hm l ?_
  refine PySem.W.callWith_K (first := [.ref a]) (h₀ := X.base) I.ok.mod.kin hm.kp (thn (ha.run pos pins s1 σ H1 _ I1 q) fun us s2 ⟨vs, H2, I2, r, q2⟩ => ⟨I2.kIn, ?_⟩) hst hpl
  exact run_fnS (us := .ref a :: us) (vs := .ref a :: vs) F hr hb (hx σ) I2 (.cons rfl r) q2
end
end Vk
set_option Elab.async false
set_option linter.all false
set_option maxRecDepth 100000
set_option maxHeartbeats 2000000
namespace Vk
open PySem PySem.Spec PyProof.Rows L2

/-- the context of a body that closes over its class's cell -/
def cxS (CX : CXT) (P : Program) (w : World) (K : PySem.W.Frag) (mg : Str → Option Value) (base : Heap) (N : List Str) (qual : Str) (scope : Scope) (f cc : Addr) (cd : Value) (A : Around) (outer : List Env) (s : Shared) (H : Hp) (E : XK) : Cx where
  prog := P
  w := w
  K := K
  mg := mg
  base := base
  A := A.deeper (PySem.W.ksEnv qual scope s.heap.objs.size f cd cc)
  N := N
  s_0 := s
  H_0 := H
  env := PySem.W.ksEnv qual scope s.heap.objs.size f cd cc
  outer := outer
  stack := PySem.W.ksEnv qual scope s.heap.objs.size f cd cc :: outer
  ex := []
  calm := true
  fn := fun _ => false
  pn := []
  xe := fun e s' => wpAny (model P w) (A.deeper (PySem.W.ksEnv qual scope s.heap.objs.size f cd cc)) (leaving (PySem.W.ksEnv qual scope s.heap.objs.size f cd cc) e) (fun _ s'' => CX outer H s E e s'') (fun e' s'' => CX outer H s E e' s'') s'

/-- what the text has written of an own exception class at C and its __init__ at fI, whose code is at cda, its cell at cc -/
structure SupC (P : Program) (K : PySem.W.Frag) (mg : Str → Option Value) (C cc cda : Addr) : Prop where
  oex : OexC K C
  cell : ∃ cl cld csl, K.lookup cc = some ⟨cl, cld, .cell (some (.ref C)), csl⟩
  code : ∃ (ccl : Value) (cdd : Option Addr) (vs : Array Value) (ccs : Array (Option Value)) (file : Str) (tf : Tok), K.lookup cda = some ⟨ccl, cdd, .fields vs, ccs⟩ ∧ vs[2]? = some (.str file tf) ∧ ((P.main.file : Str) == file) = true
  sub : PySem.W.mroIn K C (.ref C) = some true
  sup : PySem.W.ks_superIn K C C "__init__" = some (some (.builtin "ValueError.__init__"))
  subV : PySem.W.subIn K (.ref C) (.type "ValueError") = some true
  noTop : (P.main.scope.names.lookup ("super" : Str)).isSome = false
  noMg : mg "super" = none
  any : PySem.W.nsIn K cStatics "thirdparty.any" = some none

structure SScope (N : List Str) (sc : Scope) : Prop where
  kind : sc.kind = .function
  co : sc.isCoroutine = false
  gen : sc.isGenerator = false
  nd : N.Nodup
  par : ∀ x ∈ N, sc.names.lookup x = some .local
  nocell : ∀ x ∈ sc.names, x.2 ≠ .cell
  free : ∀ x, sc.names.lookup x = some .free → x = "__class__"
  sup : sc.names.lookup ("super" : Str) = some .globalImplicit
  cls : sc.names.lookup ("__class__" : Str) = some .free

theorem rev_get {N : List Str} {us : List Value} (hlen : N.length = us.length) (nd : N.Nodup) {i : Nat} {x : Str} {u : Value} (h1 : N[i]? = some x) (h2 : us[i]? = some u) : (N.zip us).reverse.lookup x = some u := by
  have key : ∀ (l : List (Str × Value)), (l.map (·.1)).Nodup → ∀ x u, (x, u) ∈ l → l.lookup x = some u := by
    intro l
    induction l with
    | nil => intro _ _ _ h; cases h
    | cons p l ih =>
      intro hn x u hm
      obtain ⟨a, b⟩ := p
      simp only [List.map_cons, List.nodup_cons] at hn
      rcases List.mem_cons.mp hm with e | hm
      · cases e
        simp [List.lookup]
      · have hne : (x == a) = false := by
          have : x ≠ a := fun z => hn.1 (z ▸ List.mem_map_of_mem hm)
          simpa using this
        simp [List.lookup, hne, ih hn.2 x u hm]
  have hz : (N.zip us)[i]? = some (x, u) := by
    rw [List.getElem?_zip_eq_some]
    exact ⟨h1, h2⟩
  refine key _ ?_ _ _ (List.mem_reverse.mpr (List.mem_of_getElem? hz))
  rw [List.map_reverse]
  refine (List.pairwise_reverse (R := fun a b : Str => a ≠ b)).mpr ?_
  refine List.Pairwise.imp (R := fun a b : Str => a ≠ b) (fun h => Ne.symm h) ?_
  rw [List.map_fst_zip (Nat.le_of_eq hlen)]
  exact nd

theorem inv_s {CX : CXT} {P : Program} {w : World} {K : PySem.W.Frag} {mg : Str → Option Value} {base : Heap} {N : List Str} {qual : Str} {scope : Scope} {f cc : Addr} {cd : Value} {A : Around} {outer : List Env} {s : Shared} {H : Hp} {E : XK} {us : List Value} {vs : List V} {h1 : Heap} {tk : Nat} {oc : Value} {ocd : Option Addr} {osl : Array (Option Value)} {cv : Option Value}
    (S : SScope N scope) (hd : A.handled = none) (e0 : Env0 P w K mg base A outer s H) (hl : vs.length = N.length) (r : Vals vs us) (hcell : K.lookup cc = some ⟨oc, ocd, .cell cv, osl⟩)
    (hns : h1.Ns s.heap.objs.size (fun x => (N.zip us).reverse.lookup x)) (hk : ∀ b o, s.heap.get? b = some o → h1.get? b = some o) :
    Inv (cxS CX P w K mg base N qual scope f cc cd A outer s H E) [] (vs.map some) H { s with heap := h1, toks := tk } := by
  have noA : ∀ b : Addr, b ∉ (cxS CX P w K mg base N qual scope f cc cd A outer s H E).ex := fun b z => absurd (show b ∈ ([] : List Addr) from z) (by simp)
  have hcs : ∀ y c, (cxS CX P w K mg base N qual scope f cc cd A outer s H E).env.cells.lookup y = some c → y = "__class__" ∧ c = cc := fun y c h => by
    have h' : List.lookup y [(("__class__" : Str), cc)] = some c := h
    by_cases e : y = "__class__"
    · subst e
      simp [List.lookup] at h'
      exact ⟨rfl, h'.symm⟩
    · have q : (y == ("__class__" : Str)) = false := by simpa using e
      simp [List.lookup, q] at h'
  have hcb : ∃ o, base.get? cc = some o ∧ o.data = .cell cv := ⟨_, e0.mod.kin _ _ hcell, rfl⟩
  obtain ⟨ob, hb1, hb2⟩ := hcb
  refine ⟨⟨e0.mod, S.kind, rfl, rfl, Nat.le_refl _, fun y z c h1 h2 => ?_, fun y hy => ?_, fun y c h _ => absurd h (by show ¬ (false = true); decide), fun _ => hd, Around.frames_deeper e0.frames, .inr ⟨rfl, rfl⟩, fun b z => absurd z (noA b), e0.bs, e0.bsz, fun b _ _ => noA b, fun b z => absurd z (noA b), e0.funs, e0.frf⟩,
    rfl, e0.bare, Un.kept hk, ⟨_, hns, fun i y v h1 h2 h3 => ?_⟩, fun y c h => ?_, e0.hok.fresh (Nat.le_refl _), fun y c h => ?_, fun p hp => absurd (show p ∈ ([] : List (Addr × Obj)) from hp) (by simp), e0.hok.kept hk, ?_⟩
  · exact (hcs y c h1).1.trans (hcs z c h2).1.symm
  · have hy : scope.names.lookup y = some .cell ∨ scope.names.lookup y = some .free := hy
    rcases hy with hy | hy
    · exact absurd rfl (S.nocell _ (PySem.mem_of_lookup hy))
    · have e := S.free y hy
      subst e
      exact ⟨cc, by show List.lookup ("__class__" : Str) [(("__class__" : Str), cc)] = _; simp [List.lookup]⟩
  · have h1' : N[i]? = some y := h1
    have ha : vs[i]? = some v := by
      rw [List.getElem?_map] at h2
      cases e : vs[i]? with
      | none => rw [e] at h2; cases h2
      | some a => rw [e] at h2; cases h2; rfl
    obtain ⟨u, hu, rv⟩ := r.get ha
    exact ⟨u, rv, .inl ⟨S.par y (List.mem_of_getElem? h1'), rev_get (hl.symm.trans r.length) S.nd h1' hu⟩⟩
  · obtain ⟨_, rfl⟩ := hcs y c h
    exact ⟨cv, ob, hk _ _ (e0.bs _ _ hb1).1, hb2⟩
  · obtain ⟨_, rfl⟩ := hcs y c h
    exact (e0.bs _ _ hb1).2
  · show (vs.map some).length = N.length
    rw [List.length_map, hl]

/-- ValueError.__init__ bound to the exception at e, called -/
theorem call_bv {prog : Program} {w : World} {A : Around} {E : Value → Shared → Prop} {h : Heap} {g : Array GenState} {d : Drawn} {t : Nat} {os : OsState}
    {nm q : Str} {C N : Addr} {bs bm : List Value} {hdct : Bool} {sn : List Str} {sub : List Value} {ab : Bool} {col : Option Bool} {dd : Option Addr} {k0 k1 k2 k3 k5 : Option Value}
    {u e t0 : Addr} {rest : List Value} {Q : Value → Shared → Prop}
    (hC : h.get? C = some (excClassObj nm q C N bs bm hdct sn sub ab col dd k0 k1 k2 k3 k5 "ValueError.__new__")) (he : h.get? e = some (HandSPX.excO C t0)) (hu : h.get? u = some (PySem.W.kxs_mw "ValueError.__init__" e)) (hrest : rest.length ≤ sizeLine)
    (hq : ∀ h' t1, (∀ b o, b ≠ e → h.get? b = some o → h'.get? b = some o) → h'.get? e = some (HandSPX.excO C t1) → Q .none ⟨h', g, d, t, os⟩) :
    wpAny (model prog w) A (call (.ref u) rest) Q E ⟨h, g, d, t, os⟩ := by
  refine wpAny_call (codeAny_of_tree ?_)
  show wpAny _ A.in1 (callAny (.ref u) ⟨rest, []⟩) _ _ _
  unfold callAny
  refine wpAny_bind (wpAny_load hu ?_)
  simp only [PySem.W.kxs_mw, show (Value.type "method-wrapper" == Value.type "method" || Value.type "method-wrapper" == Value.type "builtin_function_or_method" || Value.type "method-wrapper" == Value.type "method-wrapper") = true from by decide, if_true]
  refine W.KFB.if_so (by decide) ?_
  refine wpAny_bind (PySem.ESX.check_bound F.excBase_ValueError hC he rfl ?_)
  refine wpAny_bind (wpAny_pure (wpAny_pure ?_))
  refine ⟨plainId_quiet F.excBase_ValueError.init.plain _, codeAny_builtin F.excBase_ValueError.initEntry ?_⟩
  refine PySem.W.exc_init_tree (cls := .ref C) (t0 := t0) (dv := none) (c2 := .none) (c3 := .none) (b4 := .bool false) he hrest fun h' k e' _ => hq h' _ k e'

/-- what super().__init__(e) asks: the argument; the exception, fresh -/
def tSup (C : Addr) (te : TE) : TS := fun D σ H => te σ H fun _ H1 => (∃ a, σ[0]? = some (some (.ref a)) ∧ H1 a = some (exo a C none)) ∧ D.nx σ H1

theorem fn_super {CX : CXT} {P : Program} {w : World} {K : PySem.W.Frag} {mg : Str → Option Value} {base : Heap} {k : Nat} {f C cc cda : Addr} {name qual self : Str} {params : Arguments} {body : List Stmt} {scope : Scope} {dV kV doc pm ct oc : Value} {an od : Option Addr}
    {osl : Array (Option Value)} {N : List Str} {sp : Sp} {parts : List Expr} {rest : List Stmt} {p0 p1 p2 p3 p4 jp : Pos} {ar : Arg} {N' : List Str} {pl : Sem Bool}
    (T : SupC P K mg C cc cda)
    (lk : K.lookup f = some ⟨oc, od, .func (PySem.W.ksFn name qual params body scope dV kV doc pm an (.ref cda) ct cc), osl⟩) (hcd : PySem.W.codeIn K (.ref cda) qual = true) (S : SScope N scope) (hN : N = self :: N')
    (hpar : (params.posonlyargs ++ params.args).head? = some ar) (har : ar.arg = self)
    (hbd : body = .Expr (.Call (.Attribute (.Call (.Name "super" p0) [] [] p1) "__init__" p2) [.JoinedStr parts jp] [] p3) p4 :: rest)
    (hcall : ∀ env : Env, eval (.Call (.Attribute (.Call (.Name "super" p0) [] [] p1) "__init__" p2) [.JoinedStr parts jp] [] p3) env = (do
      let ov ← attributeBase (.Call (.Name "super" p0) [] [] p1) "__init__" env (eval (.Call (.Name "super" p0) [] [] p1) env)
      standAt p2.atName
      let (f, first) ← holding [ov] (getMethod ov "__init__" pl)
      callWith p3 f first (backTo p3 (starEach [.JoinedStr parts jp] env)) []))
    (hsw : ∀ env : Env, swapsWith (.Call (.Attribute (.Call (.Name "super" p0) [] [] p1) "__init__" p2) [.JoinedStr parts jp] [] p3) none p4.line env = pure false)
    (len : ∀ vs H Q E, sp vs H Q E → vs.length = N.length)
    (hbody : ∀ (A : Around) (outer : List Env) (s : Shared) (H : Hp) (vs : List V) (Q : VK) (E : XK), Room k (A.deeper (PySem.W.ksEnv qual scope s.heap.objs.size f (.ref cda) cc)) → sp vs H Q E →
      ∃ te t, PE (cxS CX P w K mg base N qual scope f cc (.ref cda) A outer s H E) (.JoinedStr parts jp) te ∧ PSs (cxS CX P w K mg base N qual scope f cc (.ref cda) A outer s H E) rest t ∧
        (∃ a, vs[0]? = some (.ref a) ∧ H a = some (exo a C none)) ∧ tSeq (tSup C te) t { nx := fun _ H' => Q .non H', rt := Q } (vs.map some) H) :
    FnOk P w K mg base CX (k + 1) f (PySem.W.ksFn name qual params body scope dV kV doc pm an (.ref cda) ct cc) N sp := by
  refine ⟨len, fun A outer s H args us vs Q E hr e0 hb r hsp => ?_⟩
  have hl := len _ _ _ _ hsp
  have KX : K.In s.heap := e0.mod.kin.keeps fun b o e => (e0.bs b o e).1
  have lim : s.heap.NoLimit := e0.mod.nolimit.keeps fun b o e => (e0.bs b o e).1
  obtain ⟨cl, cld, csl, hcell⟩ := T.cell
  obtain ⟨ccl, cdd, vsC, ccs, file, tf, hcode, hvs2, hfile⟩ := T.code
  obtain ⟨nm, q, Nc, bs, bm, sn, sub, ab, col, dd, k0, k1, k2, k3, k5, hC, hbm⟩ := T.oex.cls
  obtain ⟨te, t, hpe, hps, ⟨a, ha0, hea⟩, hq⟩ := hbody A outer s H vs Q E (hr.deeper _) hsp
  refine ks_codeAny_call_defAt (fd := PySem.W.ksFn name qual params body scope dV kV doc pm an (.ref cda) ct cc) (body := body) (binds := N.zip us) hr.depth (KX _ _ lk) rfl lim (PySem.W.codeRec_of KX hcd) rfl hb S.nocell (fun y hy => S.par y.1 (List.of_mem_zip (a := y.1) (b := y.2) hy).1) (fun h1 hns hk => ?_) S.co S.gen S.kind
  have I : Inv (cxS CX P w K mg base N qual scope f cc (.ref cda) A outer s H E) [] (vs.map some) H { s with heap := h1, toks := s.toks + (N.zip us).length } := inv_s S hr.hd e0 hl r hcell hns hk
  subst hbd
  subst hN
  have ka0 : ∃ u0 us', us = u0 :: us' := by
    cases us with
    | nil => have q := r.length; rw [hl] at q; exact absurd q (by simp)
    | cons u0 us' => exact ⟨u0, us', rfl⟩
  obtain ⟨u0, us', rfl⟩ := ka0
  have hu0 : u0 = Value.ref a := by
    cases r with
    | cons r0 rt =>
      rw [List.getElem?_cons_zero] at ha0
      cases ha0
      exact r0
  subst hu0
  have hL : ((self :: N').zip (Value.ref a :: us')).reverse.lookup self = some (Value.ref a) := rev_get (by rw [← r.length]; exact hl.symm) S.nd (i := 0) rfl rfl
  have hself : scope.names.lookup self = some .local := S.par self List.mem_cons_self
  have hne : a ≠ C := fun z => by
    obtain ⟨t1, ho⟩ := exo_at e0.hok hea
    rw [z, KX _ _ hC] at ho
    cases ho
  generalize hs1 : s.toks + ((self :: N').zip (Value.ref a :: us')).length = tk1 at I ⊢
  obtain ⟨hp0, g, d, tk, os⟩ := s
  let env := PySem.W.ksEnv qual scope hp0.objs.size f (.ref cda) cc
  show PySem.wpAt (model P w) (A.deeper env) (.func (.Expr (.Call (.Attribute (.Call (.Name "super" p0) [] [] p1) "__init__" p2) [.JoinedStr parts jp] [] p3) p4 :: rest) env) (execs (.Expr (.Call (.Attribute (.Call (.Name "super" p0) [] [] p1) "__init__" p2) [.JoinedStr parts jp] [] p3) p4 :: rest) env) _ _ _
  have hint : interactive env = false := by
    unfold interactive
    rw [show env.scope.kind = ScopeKind.function from S.kind]
    rfl
  refine ks_wpAt_execs_cons (ks_wpAt_Expr_any (ks_wpAt_MethodCall (pl := pl) ?_ (hcall env)) hint (hsw env))
  · refine ks_wpAt_super_base (env := env) S.sup S.cls (by decide) rfl (hk _ _ (KX _ _ lk)) rfl hpar rfl (hk _ _ (KX _ _ hcode)) rfl hvs2 hfile T.noTop ?_
    obtain ⟨mb, hb1, hb2⟩ := I.mod.blt
    have hbs : mb ("super" : Str) = some (.type "super") := (hb2 _ (by decide)).trans (by decide +kernel)
    refine PySem.W.ks_loadName_global (env := env) S.kind S.sup (Calls.loadGlobal_builtin (env := env) (I.mod.glob.keeps I.bk) T.noMg (hb1.keeps I.bk) hbs ⟨rfl, ?_⟩)
    refine wpAny_loadName_free (env := env) S.kind S.cls rfl ⟨_, hk _ _ (KX _ _ hcell), rfl⟩ ?_
    rw [har]
    refine wpAny_loadName_local (env := env) S.kind hself hns hL ?_
    have KX1 : K.In h1 := KX.keeps hk
    have hC1 := KX1 _ _ hC
    obtain ⟨t1, hx1⟩ := exo_at I.hok hea
    have hcl : PySem.W.clsIn K C = some { name := nm, bases := bs, mro := .ref C :: bm, ns := Nc, qualname := q, hasDict := true, slotNames := sn, subclasses := sub, abstract := ab, collection := col, hasDel := false } := by unfold PySem.W.clsIn; rw [hC] <;> rfl
    have hsup := T.sup
    unfold PySem.W.ks_superIn at hsup
    rw [hcl] at hsup
    refine ks_wpAny_isType_cls hC1 rfl ⟨rfl, ?_⟩
    refine ks_wpAny_call_super hC1 rfl hx1 rfl (fun c z => by cases z) (PySem.W.looks_mroIn KX1 T.sub) (fun h2 e2 k2 => ?_)
    have I1 : Inv (cxS CX P w K mg base (self :: N') qual scope f cc (.ref cda) A outer ⟨hp0, g, d, tk, os⟩ H E) [] (vs.map some) H ⟨h2, g, d, tk1, os⟩ := I.kept (t' := tk1) k2
    have KX2 : K.In h2 := KX1.keeps k2
    have J2 : PySem.W.InstAt h2 a ({ cls := .ref C, dict := none, data := .fields #[.ref t1, .none, .none, .none, .bool false, .none] } : Obj) C none := ⟨k2 _ _ hx1, rfl, rfl, trivial⟩
    refine PySem.W.kxs_getMethod PySem.W.kxs_ValueError e2 (PySem.W.looks_opaque KX2 T.any) (fun A Q E s k q => wpAny_bind ((PySem.W.looks_clsIn KX2 hcl) A _ E s k (wpAny_pure q))) rfl KX2 hsup (J2.type.andThen (PySem.W.looks_subIn KX2 T.subV)) hne (by decide) ?_
    have fp := I1.fpOk (b := h2.objs.size) (H' := H) (Nat.le_refl _) (I1.hok.fresh (Nat.le_refl _))
    have I2 : Inv (cxS CX P w K mg base (self :: N') qual scope f cc (.ref cda) A outer ⟨hp0, g, d, tk, os⟩ H E) [(h2.objs.size, PySem.W.kxs_mw "ValueError.__init__" a)] (vs.map some) H ⟨h2.push (PySem.W.kxs_mw "ValueError.__init__" a), g, d, tk1 + 1, os⟩ :=
      (I1.kept (t' := tk1 + 1) (h' := h2.push (PySem.W.kxs_mw "ValueError.__init__" a)) fun b o z => Heap.get?_push_of_some _ z).pins_of fun p hp => by
        have ep : p = (h2.objs.size, PySem.W.kxs_mw "ValueError.__init__" a) := by simpa using hp
        subst ep
        exact ⟨Heap.get?_push_at rfl rfl, fp.1, fp.2.1, fp.2.2.1, fun v z => by cases z⟩
    have hst : starEach [Expr.JoinedStr parts jp] env = (false, eval (.JoinedStr parts jp) env) :: starEach [] env := rfl
    rw [hst]
    refine PySem.W.kxs_callWith (i := "ValueError.__init__") (x := a) (by rfl) (Calls.evalArgs_plain ?_)
    refine Calls.spliced_cons (thn (hpe.run [(h2.objs.size, PySem.W.kxs_mw "ValueError.__init__" a)] _ (vs.map some) H _ I2 hq) fun u1 s3 hh => Calls.spliced_nil ?_)
    obtain ⟨v1, H3, I3, r3, ⟨a', ea', hea3⟩, q3⟩ := hh
    have ea2 : a' = a := by
      rw [List.getElem?_map, ha0] at ea'
      cases ea'
      rfl
    subst ea2
    have hu3 : s3.heap.get? h2.objs.size = some (PySem.W.kxs_mw "ValueError.__init__" a') := (I3.pin (h2.objs.size, PySem.W.kxs_mw "ValueError.__init__" a') (by simp)).1
    refine ⟨hu3, ?_⟩
    obtain ⟨t3, hx3⟩ := exo_at I3.hok hea3
    have KX3 := I3.kIn
    have hlen1 : [u1].length ≤ sizeLine := by
      rw [sizeLine_eq]
      exact (by decide : 1 ≤ 16777216)
    obtain ⟨hp3, g3, d3, tk3, os3⟩ := s3
    refine call_bv (KX3 _ _ hC) hx3 hu3 hlen1 fun h4 t4 k4 hx4 => ?_
    have J := I3.write (t' := tk3) (x := a') (e := a') (o := exo a' C none) (by rw [hea3]; exact True.intro) (.inl rfl) k4 ⟨_, hx4⟩ (exo_ok hx4)
    have eu : upd H3 a' (exo a' C none) = H3 := by
      funext b
      by_cases hb : b = a'
      · rw [hb, upd_same, hea3]
      · rw [upd_ne hb]
    rw [eu] at J
    have J0 : Inv (cxS CX P w K mg base (self :: N') qual scope f cc (.ref cda) A outer ⟨hp0, g, d, tk, os⟩ H E) [] (vs.map some) H3 ⟨h4, g3, d3, tk3, os3⟩ := Inv.unpinned (pins := []) J
    refine PySem.wpAt_of_wpAny ?_
    refine wpAny_mono (hps.run [] _ (vs.map some) H3 _ J0 q3) (fun fl s' hs => ?_) fun e s' hs => hs
    have fin : ∀ {σ' : L2.St} {H' : Hp} {v : V} {u : Value}, Inv (cxS CX P w K mg base (self :: N') qual scope f cc (.ref cda) A outer ⟨hp0, g, d, tk, os⟩ H E) [] σ' H' s' → RelV v u → Q v H' → CE outer P w H ⟨hp0, g, d, tk, os⟩ Q u s' :=
      fun {σ' H' v u} J rv q => ⟨v, H', J.os, J.bare, J.base, J.hok, rv, q⟩
    cases fl with
    | ret u =>
      obtain ⟨v, σ', H', J, rv, q⟩ := hs
      exact fin J rv q
    | next =>
      obtain ⟨σ', H', J, q⟩ := hs
      exact fin (v := V.non) (u := Value.none) J rfl q
    | brk =>
      obtain ⟨_, _, _, q⟩ := hs
      exact False.elim q
    | cont =>
      obtain ⟨_, _, _, q⟩ := hs
      exact False.elim q
end Vk
set_option Elab.async false
set_option linter.all false
set_option maxRecDepth 100000
set_option maxHeartbeats 2000000
namespace Vk
open PySem PySem.Spec PyProof.Rows L2 L2H
/-! an own error's __init__ that says super().__init__(f".."), called while an error is handled -/
/-- .. the context of its body -/
def cxSH (CX : CXT) (P : Program) (w : World) (K : PySem.W.Frag) (mg : Str → Option Value) (base : Heap) (N : List Str) (qual : Str) (scope : Scope) (f cc : Addr) (cd : Value) (A : Around) (outer : List Env) (s : Shared) (H : Hp) (E : XK) (p : Addr × Obj) : Cx where
  prog := P
  w := w
  K := K
  mg := mg
  base := base
  A := A.deeper (PySem.W.ksEnv qual scope s.heap.objs.size f cd cc)
  N := N
  s_0 := s
  H_0 := H
  env := PySem.W.ksEnv qual scope s.heap.objs.size f cd cc
  outer := outer
  stack := PySem.W.ksEnv qual scope s.heap.objs.size f cd cc :: outer
  ex := []
  calm := false
  fn := fun _ => false
  pn := [p]
  xe := fun e s' => wpAny (model P w) (A.deeper (PySem.W.ksEnv qual scope s.heap.objs.size f cd cc)) (leaving (PySem.W.ksEnv qual scope s.heap.objs.size f cd cc) e) (fun _ s'' => CX outer H s E e s'') (fun e' s'' => CX outer H s E e' s'') s'

theorem inv_sH {CX : CXT} {P : Program} {w : World} {K : PySem.W.Frag} {mg : Str → Option Value} {base : Heap} {N : List Str} {qual : Str} {scope : Scope} {f cc : Addr} {cd : Value} {A : Around} {outer : List Env} {s : Shared} {H : Hp} {E : XK} {us : List Value} {vs : List V} {h1 : Heap} {tk : Nat} {oc : Value} {ocd : Option Addr} {osl : Array (Option Value)} {cv : Option Value}
    (S : SScope N scope) {p : Addr × Obj} (hpin : PinOk outer H s p) (e0 : Env0 P w K mg base A outer s H) (hl : vs.length = N.length) (r : Vals vs us) (hcell : K.lookup cc = some ⟨oc, ocd, .cell cv, osl⟩)
    (hns : h1.Ns s.heap.objs.size (fun x => (N.zip us).reverse.lookup x)) (hk : ∀ b o, s.heap.get? b = some o → h1.get? b = some o) :
    Inv (cxSH CX P w K mg base N qual scope f cc cd A outer s H E p) [] (vs.map some) H { s with heap := h1, toks := tk } := by
  have noA : ∀ b : Addr, b ∉ (cxSH CX P w K mg base N qual scope f cc cd A outer s H E p).ex := fun b z => absurd (show b ∈ ([] : List Addr) from z) (by simp)
  have hcs : ∀ y c, (cxSH CX P w K mg base N qual scope f cc cd A outer s H E p).env.cells.lookup y = some c → y = "__class__" ∧ c = cc := fun y c h => by
    have h' : List.lookup y [(("__class__" : Str), cc)] = some c := h
    by_cases e : y = "__class__"
    · subst e
      simp [List.lookup] at h'
      exact ⟨rfl, h'.symm⟩
    · have q : (y == ("__class__" : Str)) = false := by simpa using e
      simp [List.lookup, q] at h'
  have hcb : ∃ o, base.get? cc = some o ∧ o.data = .cell cv := ⟨_, e0.mod.kin _ _ hcell, rfl⟩
  obtain ⟨ob, hb1, hb2⟩ := hcb
  refine ⟨⟨e0.mod, S.kind, rfl, rfl, Nat.le_refl _, fun y z c h1 h2 => ?_, fun y hy => ?_, fun y c h _ => absurd h (by show ¬ (false = true); decide), (fun z => Bool.noConfusion (show false = true from z)), Around.frames_deeper e0.frames, .inr ⟨rfl, rfl⟩, fun b z => absurd z (noA b), e0.bs, e0.bsz, fun b _ _ => noA b, fun b z => absurd z (noA b), e0.funs, e0.frf⟩,
    rfl, e0.bare, Un.kept hk, ⟨_, hns, fun i y v h1 h2 h3 => ?_⟩, fun y c h => ?_, e0.hok.fresh (Nat.le_refl _), fun y c h => ?_, fun q hq => ?_, e0.hok.kept hk, ?_⟩
  · exact (hcs y c h1).1.trans (hcs z c h2).1.symm
  · have hy : scope.names.lookup y = some .cell ∨ scope.names.lookup y = some .free := hy
    rcases hy with hy | hy
    · exact absurd rfl (S.nocell _ (PySem.mem_of_lookup hy))
    · have e := S.free y hy
      subst e
      exact ⟨cc, by show List.lookup ("__class__" : Str) [(("__class__" : Str), cc)] = _; simp [List.lookup]⟩
  · have h1' : N[i]? = some y := h1
    have ha : vs[i]? = some v := by
      rw [List.getElem?_map] at h2
      cases e : vs[i]? with
      | none => rw [e] at h2; cases h2
      | some a => rw [e] at h2; cases h2; rfl
    obtain ⟨u, hu, rv⟩ := r.get ha
    exact ⟨u, rv, .inl ⟨S.par y (List.mem_of_getElem? h1'), rev_get (hl.symm.trans r.length) S.nd h1' hu⟩⟩
  · obtain ⟨_, rfl⟩ := hcs y c h
    exact ⟨cv, ob, hk _ _ (e0.bs _ _ hb1).1, hb2⟩
  · obtain ⟨_, rfl⟩ := hcs y c h
    exact (e0.bs _ _ hb1).2
  · have eq : q = p := by simpa using (show q ∈ [p] ++ ([] : List (Addr × Obj)) from hq)
    rw [eq]
    exact ⟨hk p.1 p.2 hpin.get, hpin.free, Nat.ne_of_lt (Heap.lt_size hpin.get), hpin.nofs, hpin.nocell⟩
  · show (vs.map some).length = N.length
    rw [List.length_map, hl]

theorem fn_superH {CX : CXT} {P : Program} {w : World} {K : PySem.W.Frag} {mg : Str → Option Value} {base : Heap} {k : Nat} {f C cc cda : Addr} {name qual self : Str} {params : Arguments} {body : List Stmt} {scope : Scope} {dV kV doc pm ct oc : Value} {an od : Option Addr}
    {osl : Array (Option Value)} {N : List Str} {sp : Sp} {parts : List Expr} {rest : List Stmt} {p0 p1 p2 p3 p4 jp : Pos} {ar : Arg} {N' : List Str} {pl : Sem Bool}
    (T : SupC P K mg C cc cda)
    (lk : K.lookup f = some ⟨oc, od, .func (PySem.W.ksFn name qual params body scope dV kV doc pm an (.ref cda) ct cc), osl⟩) (hcd : PySem.W.codeIn K (.ref cda) qual = true) (S : SScope N scope) (hN : N = self :: N')
    (hpar : (params.posonlyargs ++ params.args).head? = some ar) (har : ar.arg = self)
    (hbd : body = .Expr (.Call (.Attribute (.Call (.Name "super" p0) [] [] p1) "__init__" p2) [.JoinedStr parts jp] [] p3) p4 :: rest)
    (hcall : ∀ env : Env, eval (.Call (.Attribute (.Call (.Name "super" p0) [] [] p1) "__init__" p2) [.JoinedStr parts jp] [] p3) env = (do
      let ov ← attributeBase (.Call (.Name "super" p0) [] [] p1) "__init__" env (eval (.Call (.Name "super" p0) [] [] p1) env)
      standAt p2.atName
      let (f, first) ← holding [ov] (getMethod ov "__init__" pl)
      callWith p3 f first (backTo p3 (starEach [.JoinedStr parts jp] env)) []))
    (hsw : ∀ env : Env, swapsWith (.Call (.Attribute (.Call (.Name "super" p0) [] [] p1) "__init__" p2) [.JoinedStr parts jp] [] p3) none p4.line env = pure false)
    (len : ∀ vs H Q E, sp vs H Q E → vs.length = N.length)
    (hbody : ∀ (A : Around) (outer : List Env) (s : Shared) (H : Hp) (vs : List V) (Q : VK) (E : XK) (p : Addr × Obj), Hot1 A p → RoomH k (A.deeper (PySem.W.ksEnv qual scope s.heap.objs.size f (.ref cda) cc)) → sp vs H Q E →
      ∃ te t, PE (cxSH CX P w K mg base N qual scope f cc (.ref cda) A outer s H E p) (.JoinedStr parts jp) te ∧ PSs (cxSH CX P w K mg base N qual scope f cc (.ref cda) A outer s H E p) rest t ∧
        (∃ a, vs[0]? = some (.ref a) ∧ H a = some (exo a C none)) ∧ tSeq (tSup C te) t { nx := fun _ H' => Q .non H', rt := Q } (vs.map some) H) :
    FnH P w K mg base CX (k + 1) f (PySem.W.ksFn name qual params body scope dV kV doc pm an (.ref cda) ct cc) N sp := by
  refine ⟨len, fun A outer s H args us vs Q E p hr hot hpin e0 hb r hsp => ?_⟩
  have hl := len _ _ _ _ hsp
  have KX : K.In s.heap := e0.mod.kin.keeps fun b o e => (e0.bs b o e).1
  have lim : s.heap.NoLimit := e0.mod.nolimit.keeps fun b o e => (e0.bs b o e).1
  obtain ⟨cl, cld, csl, hcell⟩ := T.cell
  obtain ⟨ccl, cdd, vsC, ccs, file, tf, hcode, hvs2, hfile⟩ := T.code
  obtain ⟨nm, q, Nc, bs, bm, sn, sub, ab, col, dd, k0, k1, k2, k3, k5, hC, hbm⟩ := T.oex.cls
  obtain ⟨te, t, hpe, hps, ⟨a, ha0, hea⟩, hq⟩ := hbody A outer s H vs Q E p hot (hr.deeper _) hsp
  refine ks_codeAny_call_defAt (fd := PySem.W.ksFn name qual params body scope dV kV doc pm an (.ref cda) ct cc) (body := body) (binds := N.zip us) hr.depth (KX _ _ lk) rfl lim (PySem.W.codeRec_of KX hcd) rfl hb S.nocell (fun y hy => S.par y.1 (List.of_mem_zip (a := y.1) (b := y.2) hy).1) (fun h1 hns hk => ?_) S.co S.gen S.kind
  have I : Inv (cxSH CX P w K mg base N qual scope f cc (.ref cda) A outer s H E p) [] (vs.map some) H { s with heap := h1, toks := s.toks + (N.zip us).length } := inv_sH S hpin e0 hl r hcell hns hk
  subst hbd
  subst hN
  have ka0 : ∃ u0 us', us = u0 :: us' := by
    cases us with
    | nil => have q := r.length; rw [hl] at q; exact absurd q (by simp)
    | cons u0 us' => exact ⟨u0, us', rfl⟩
  obtain ⟨u0, us', rfl⟩ := ka0
  have hu0 : u0 = Value.ref a := by
    cases r with
    | cons r0 rt =>
      rw [List.getElem?_cons_zero] at ha0
      cases ha0
      exact r0
  subst hu0
  have hL : ((self :: N').zip (Value.ref a :: us')).reverse.lookup self = some (Value.ref a) := rev_get (by rw [← r.length]; exact hl.symm) S.nd (i := 0) rfl rfl
  have hself : scope.names.lookup self = some .local := S.par self List.mem_cons_self
  have hne : a ≠ C := fun z => by
    obtain ⟨t1, ho⟩ := exo_at e0.hok hea
    rw [z, KX _ _ hC] at ho
    cases ho
  generalize hs1 : s.toks + ((self :: N').zip (Value.ref a :: us')).length = tk1 at I ⊢
  obtain ⟨hp0, g, d, tk, os⟩ := s
  let env := PySem.W.ksEnv qual scope hp0.objs.size f (.ref cda) cc
  show PySem.wpAt (model P w) (A.deeper env) (.func (.Expr (.Call (.Attribute (.Call (.Name "super" p0) [] [] p1) "__init__" p2) [.JoinedStr parts jp] [] p3) p4 :: rest) env) (execs (.Expr (.Call (.Attribute (.Call (.Name "super" p0) [] [] p1) "__init__" p2) [.JoinedStr parts jp] [] p3) p4 :: rest) env) _ _ _
  have hint : interactive env = false := by
    unfold interactive
    rw [show env.scope.kind = ScopeKind.function from S.kind]
    rfl
  refine ks_wpAt_execs_cons (ks_wpAt_Expr_any (ks_wpAt_MethodCall (pl := pl) ?_ (hcall env)) hint (hsw env))
  · refine ks_wpAt_super_base (env := env) S.sup S.cls (by decide) rfl (hk _ _ (KX _ _ lk)) rfl hpar rfl (hk _ _ (KX _ _ hcode)) rfl hvs2 hfile T.noTop ?_
    obtain ⟨mb, hb1, hb2⟩ := I.mod.blt
    have hbs : mb ("super" : Str) = some (.type "super") := (hb2 _ (by decide)).trans (by decide +kernel)
    refine PySem.W.ks_loadName_global (env := env) S.kind S.sup (Calls.loadGlobal_builtin (env := env) (I.mod.glob.keeps I.bk) T.noMg (hb1.keeps I.bk) hbs ⟨rfl, ?_⟩)
    refine wpAny_loadName_free (env := env) S.kind S.cls rfl ⟨_, hk _ _ (KX _ _ hcell), rfl⟩ ?_
    rw [har]
    refine wpAny_loadName_local (env := env) S.kind hself hns hL ?_
    have KX1 : K.In h1 := KX.keeps hk
    have hC1 := KX1 _ _ hC
    obtain ⟨t1, hx1⟩ := exo_at I.hok hea
    have hcl : PySem.W.clsIn K C = some { name := nm, bases := bs, mro := .ref C :: bm, ns := Nc, qualname := q, hasDict := true, slotNames := sn, subclasses := sub, abstract := ab, collection := col, hasDel := false } := by unfold PySem.W.clsIn; rw [hC] <;> rfl
    have hsup := T.sup
    unfold PySem.W.ks_superIn at hsup
    rw [hcl] at hsup
    refine ks_wpAny_isType_cls hC1 rfl ⟨rfl, ?_⟩
    refine ks_wpAny_call_super hC1 rfl hx1 rfl (fun c z => by cases z) (PySem.W.looks_mroIn KX1 T.sub) (fun h2 e2 k2 => ?_)
    have I1 : Inv (cxSH CX P w K mg base (self :: N') qual scope f cc (.ref cda) A outer ⟨hp0, g, d, tk, os⟩ H E p) [] (vs.map some) H ⟨h2, g, d, tk1, os⟩ := I.kept (t' := tk1) k2
    have KX2 : K.In h2 := KX1.keeps k2
    have J2 : PySem.W.InstAt h2 a ({ cls := .ref C, dict := none, data := .fields #[.ref t1, .none, .none, .none, .bool false, .none] } : Obj) C none := ⟨k2 _ _ hx1, rfl, rfl, trivial⟩
    refine PySem.W.kxs_getMethod PySem.W.kxs_ValueError e2 (PySem.W.looks_opaque KX2 T.any) (fun A Q E s k q => wpAny_bind ((PySem.W.looks_clsIn KX2 hcl) A _ E s k (wpAny_pure q))) rfl KX2 hsup (J2.type.andThen (PySem.W.looks_subIn KX2 T.subV)) hne (by decide) ?_
    have fp := I1.fpOk (b := h2.objs.size) (H' := H) (Nat.le_refl _) (I1.hok.fresh (Nat.le_refl _))
    have I2 : Inv (cxSH CX P w K mg base (self :: N') qual scope f cc (.ref cda) A outer ⟨hp0, g, d, tk, os⟩ H E p) [(h2.objs.size, PySem.W.kxs_mw "ValueError.__init__" a)] (vs.map some) H ⟨h2.push (PySem.W.kxs_mw "ValueError.__init__" a), g, d, tk1 + 1, os⟩ :=
      (I1.kept (t' := tk1 + 1) (h' := h2.push (PySem.W.kxs_mw "ValueError.__init__" a)) fun b o z => Heap.get?_push_of_some _ z).pins_of fun p hp => by
        have ep : p = (h2.objs.size, PySem.W.kxs_mw "ValueError.__init__" a) := by simpa using hp
        subst ep
        exact ⟨Heap.get?_push_at rfl rfl, fp.1, fp.2.1, fp.2.2.1, fun v z => by cases z⟩
    have hst : starEach [Expr.JoinedStr parts jp] env = (false, eval (.JoinedStr parts jp) env) :: starEach [] env := rfl
    rw [hst]
    refine PySem.W.kxs_callWith (i := "ValueError.__init__") (x := a) (by rfl) (Calls.evalArgs_plain ?_)
    refine Calls.spliced_cons (thn (hpe.run [(h2.objs.size, PySem.W.kxs_mw "ValueError.__init__" a)] _ (vs.map some) H _ I2 hq) fun u1 s3 hh => Calls.spliced_nil ?_)
    obtain ⟨v1, H3, I3, r3, ⟨a', ea', hea3⟩, q3⟩ := hh
    have ea2 : a' = a := by
      rw [List.getElem?_map, ha0] at ea'
      cases ea'
      rfl
    subst ea2
    have hu3 : s3.heap.get? h2.objs.size = some (PySem.W.kxs_mw "ValueError.__init__" a') := (I3.pin (h2.objs.size, PySem.W.kxs_mw "ValueError.__init__" a') (by simp)).1
    refine ⟨hu3, ?_⟩
    obtain ⟨t3, hx3⟩ := exo_at I3.hok hea3
    have KX3 := I3.kIn
    have hlen1 : [u1].length ≤ sizeLine := by
      rw [sizeLine_eq]
      exact (by decide : 1 ≤ 16777216)
    obtain ⟨hp3, g3, d3, tk3, os3⟩ := s3
    refine call_bv (KX3 _ _ hC) hx3 hu3 hlen1 fun h4 t4 k4 hx4 => ?_
    have J := I3.write (t' := tk3) (x := a') (e := a') (o := exo a' C none) (by rw [hea3]; exact True.intro) (.inl rfl) k4 ⟨_, hx4⟩ (exo_ok hx4)
    have eu : upd H3 a' (exo a' C none) = H3 := by
      funext b
      by_cases hb : b = a'
      · rw [hb, upd_same, hea3]
      · rw [upd_ne hb]
    rw [eu] at J
    have J0 : Inv (cxSH CX P w K mg base (self :: N') qual scope f cc (.ref cda) A outer ⟨hp0, g, d, tk, os⟩ H E p) [] (vs.map some) H3 ⟨h4, g3, d3, tk3, os3⟩ := Inv.unpinned (pins := []) J
    refine PySem.wpAt_of_wpAny ?_
    refine wpAny_mono (hps.run [] _ (vs.map some) H3 _ J0 q3) (fun fl s' hs => ?_) fun e s' hs => hs
    have fin : ∀ {σ' : L2.St} {H' : Hp} {v : V} {u : Value}, Inv (cxSH CX P w K mg base (self :: N') qual scope f cc (.ref cda) A outer ⟨hp0, g, d, tk, os⟩ H E p) [] σ' H' s' → RelV v u → Q v H' → CE outer P w H ⟨hp0, g, d, tk, os⟩ Q u s' :=
      fun {σ' H' v u} J rv q => ⟨v, H', J.os, J.bare, J.base, J.hok, rv, q⟩
    cases fl with
    | ret u =>
      obtain ⟨v, σ', H', J, rv, q⟩ := hs
      exact fin J rv q
    | next =>
      obtain ⟨σ', H', J, q⟩ := hs
      exact fin (v := V.non) (u := Value.none) J rfl q
    | brk =>
      obtain ⟨_, _, _, q⟩ := hs
      exact False.elim q
    | cont =>
      obtain ⟨_, _, _, q⟩ := hs
      exact False.elim q
end Vk
set_option Elab.async false
set_option linter.all false
set_option maxRecDepth 100000
set_option maxHeartbeats 4000000
/-! sorted(text): the signs of a text in order; list(text) -/
namespace Vk
open PySem PySem.Spec PyProof.Rows L2
def signsOf (z : Str) : List Str := z.cps.toList.map fun c => (⟨#[c]⟩ : Str)
theorem signs_strs {z : Str} {acc : Array Value} (h : ItemsOf (SignAt z) acc z.cps.size) : StrsAre acc.toList (signsOf z) := by
  have hsz : acc.size = z.cps.size := h.1
  have hL : acc.toList.length = (signsOf z).length := by
    rw [Array.length_toList, hsz]
    unfold signsOf
    rw [List.length_map, Array.length_toList]
  refine strs_at hL fun j v e => ?_
  have e1 : acc[j]? = some v := by rw [← Array.getElem?_toList]; exact e
  obtain ⟨c, u, hc, ev⟩ := h.2 j v e1
  refine ⟨⟨#[c]⟩, u, ?_, ev⟩
  unfold signsOf
  rw [List.getElem?_map, Array.getElem?_toList, hc]
  rfl
section
variable {X : Cx}
def rSortT : List V → Hp → VK → Prop := fun vs H Q => ∃ z : Str, vs = [.str z] ∧ z.length < 64 ∧
  ∀ ys p, ys.Perm (signsOf z) → sortedS ys = true → H p = none → Q (.ref p) (upd H p (.lst (ys.map V.str)))
theorem cr_sortT (hcalm : X.calm = true) : CallR X (.builtin "sorted") rSortT := by
  intro pins s σ H xs us Q I r q
  obtain ⟨z, ex, h64, q⟩ := q
  subst ex
  obtain ⟨u, eu, rx⟩ := vals1 r
  subst eu
  obtain ⟨t, rfl⟩ := rx
  have hz2 : z.cps.size < 64 := h64
  refine Calls.call_function_entry PyProof.Rows.kind_sorted PyProof.Rows.plain_sorted PyProof.Rows.entry_sorted (PyProof.Rows.args_sorted1 _) ?_
  unfold Builtin.«sorted»
  refine wpAny_bind (m := checkCount "sorted" 1 1 _) (wpAny_pure ?_)
  refine wpAny_bind (wpAny_collect_str (A := X.A.in1) (I.ok.hd hcalm) z t (fun s1 acc hk hg hd ho hacc => ?_) (by rw [sizeLine_eq]; omega))
  obtain ⟨h1, g1, d1, tk1, os1⟩ := s1
  have eg : g1 = s.gens := hg
  have ed : d1 = s.drawn := hd
  have eo : os1 = s.os := ho
  subst eg; subst ed; subst eo
  have hS := signs_strs hacc
  have hal : acc.toList.length = z.cps.size := by rw [Array.length_toList]; exact hacc.1
  have I1 : Inv X pins σ H { s with heap := h1, toks := tk1 } := I.kept hk
  refine wpAny_bind (wpAny_newList ?_ (by rw [hal, sizeLine_eq]; omega))
  have hoL : (h1.push (seqObj "list" acc.toList.toArray 0)).get? h1.objs.size = some (seqObj "list" acc.toList.toArray 0) := Heap.get?_push_size _ rfl
  show wpAny _ _ _ _ _ { s with heap := h1.push (seqObj "list" acc.toList.toArray 0), toks := tk1 }
  refine wpAny_bind (wpAny_holding (wpAny_call_entry PyProof.Rows.slot_list_sort ⟨_, hoL, rfl⟩ PyProof.Rows.entry_list_sort
    (list_sort_treeK strKind_oneLt (s := { s with heap := h1.push (seqObj "list" acc.toList.toArray 0), toks := tk1 }) hoL hS.keysOf (fun v₁ v₂ more e => keyKind_strs (by rw [← e]; exact hS)) (by rw [hal]; exact hz2) fun st2 hp hs => ⟨_, rfl, ?_⟩)
    (PyProof.Rows.args_list_sort _)))
  obtain ⟨ys, g1, g2, g3⟩ := sorted_out_str hS hp hs
  obtain ⟨e', he'⟩ := PyProof.Rows.sortedHeap_at (vs := acc.toList) (out := (arrOf st2).map (·.2)) hoL
  have hlen : (ys.map V.str).length ≤ sizeLine := by
    rw [List.length_map, g2.length_eq]
    unfold signsOf
    rw [List.length_map, Array.length_toList, sizeLine_eq]
    omega
  refine wpAny_pure ⟨_, rfl, .ref h1.objs.size, upd H h1.objs.size (.lst (ys.map V.str)), I1.laid (t' := tk1) (fun b u e => ?_) (Nat.le_refl _)
    (show ObjOk X.prog X.w _ _ _ (.lst (ys.map V.str)) from ⟨hlen, ((arrOf st2).map (·.2)).toList, e', vals_of_strs g1, by rw [Array.toArray_toList]; exact he'⟩), rfl, q ys _ g2 g3 (I1.hok.fresh (Nat.le_refl _))⟩
  have hb : b < h1.objs.size := Heap.lt_size e
  rw [PyProof.Rows.sortedHeap_old (Nat.ne_of_lt hb) (by rw [size_push']; exact Nat.lt_succ_of_lt hb)]
  exact Heap.get?_push_of_some _ e
/-- list(x), x a text -/
def rListT : List V → Hp → VK → Prop := fun vs H Q => ∃ z : Str, vs = [.str z] ∧ z.length ≤ 4000 ∧ ∀ p, H p = none → Q (.ref p) (upd H p (.lst ((signsOf z).map V.str)))
end
/-! sorted texts: two arrangements of the same texts are one -/
theorem lt_irr (a : List Nat) : ltCps a a = false := by
  rw [ltCps_eq]
  exact decide_eq_false (List.lt_irrefl a)
end Vk
set_option Elab.async false
set_option linter.all false
set_option maxRecDepth 100000
set_option maxHeartbeats 1000000
/-! texts as lists of codes; comprehensions over a text -/
namespace Vk
open PySem PySem.Spec PyProof.Rows L2
/-- the text of these codes -/
def S (l : List Nat) : Str := ⟨l.toArray⟩
theorem S_of (z : Str) : z = S z.cps.toList := by
  obtain ⟨a⟩ := z
  simp [S]
theorem S_len (l : List Nat) : (S l).length = l.length := by
  show l.toArray.size = l.length
  simp
theorem S_cps (l : List Nat) : (S l).cps.toList = l := by simp [S]
theorem S_size (l : List Nat) : (S l).cps.size = l.length := S_len l
theorem S_inj {a b : List Nat} : S a = S b ↔ a = b := by
  constructor
  · intro h
    have := congrArg (fun z : Str => z.cps.toList) h
    simpa [S] using this
  · rintro rfl
    rfl
theorem S_one (c : Nat) : (⟨#[c]⟩ : Str) = S [c] := rfl
theorem S_app (a b : List Nat) : S a ++ S b = S (a ++ b) := by
  show (⟨a.toArray ++ b.toArray⟩ : Str) = ⟨(a ++ b).toArray⟩
  simp
theorem S_get {l : List Nat} {i c : Nat} : (S l).cps[i]? = some c ↔ l[i]? = some c := by
  show l.toArray[i]? = some c ↔ _
  simp
theorem signs_S (l : List Nat) : signsOf (S l) = l.map fun c => S [c] := by
  unfold signsOf
  rw [S_cps]
  rfl
theorem S_cut (l : List Nat) (lo hi : Option Int) : cutS (S l) lo hi = S ((l.drop (HT.sIx l.length 0 lo)).take (HT.sIx l.length l.length hi - HT.sIx l.length 0 lo)) := by
  unfold cutS
  rw [S_cps, S_len]
  rfl
theorem S_to (l : List Nat) (k : Nat) : cutS (S l) none (some (k : Int)) = S (l.take k) := by
  rw [S_cut, HT.sIx_none, HT.sIx_nat, List.drop_zero, Nat.sub_zero]
  congr 1
  rw [← List.take_take, List.take_length]
theorem S_from (l : List Nat) (k : Nat) : cutS (S l) (some (k : Int)) none = S (l.drop k) := by
  rw [S_cut, HT.sIx_none, HT.sIx_nat]
  congr 1
  by_cases h : k ≤ l.length
  · rw [Nat.min_eq_left h]
    exact List.take_of_length_le (by rw [List.length_drop]; exact Nat.le_refl _)
  · rw [Nat.min_eq_right (by omega), Nat.sub_self, List.take_zero, List.drop_eq_nil_of_le (by omega)]
/-- what join does of single signs -/
theorem join_signs : ∀ l : List Nat, Txt.join (S []) (l.map fun c => S [c]) = S l := by
  have key : ∀ l : List Nat, Str.join (S []) (l.map fun c => S [c]) = S l := by
    intro l
    induction l with
    | nil => rfl
    | cons c r ih =>
      cases r with
      | nil => rfl
      | cons d r =>
        show S [c] ++ S [] ++ Str.join (S []) ((d :: r).map fun c => S [c]) = _
        rw [ih, S_app, S_app]
        rfl
  intro l
  exact (PySem.StrLaws.glued_eq_join _ _).trans (key l)
/-! sorted -/
def srtL (l : List Nat) : List Nat := l.mergeSort fun a b => decide (a ≤ b)
theorem srtL_perm (l : List Nat) : (srtL l).Perm l := List.mergeSort_perm _ _
theorem srtL_le (l : List Nat) : (srtL l).Pairwise (· ≤ ·) := by
  have h := List.pairwise_mergeSort (le := fun a b : Nat => decide (a ≤ b)) (by simp; omega) (by simp; omega) l
  exact h.imp fun h => by simpa using h
theorem srtL_len (l : List Nat) : (srtL l).length = l.length := (srtL_perm l).length_eq
theorem srtL_mem {l : List Nat} {c : Nat} : c ∈ srtL l ↔ c ∈ l := (srtL_perm l).mem_iff
theorem srtL_nodup {l : List Nat} : (srtL l).Nodup ↔ l.Nodup := (srtL_perm l).nodup_iff
theorem srt_eq {a b : List Nat} (p : a.Perm b) (ha : a.Pairwise (· ≤ ·)) : a = srtL b :=
  List.Perm.eq_of_pairwise (le := (· ≤ ·)) (fun x y _ _ h1 h2 => Nat.le_antisymm h1 h2) ha (srtL_le b) (p.trans (srtL_perm b).symm)
theorem srtL_congr {a b : List Nat} : srtL a = srtL b ↔ a.Perm b := by
  constructor
  · intro h
    exact (srtL_perm a).symm.trans (h ▸ srtL_perm b)
  · intro p
    exact srt_eq ((srtL_perm a).trans p) (srtL_le a)
theorem rising_le : ∀ (c : Nat) (l : List Nat), risingS (S [c]) (l.map fun c => S [c]) = true → (c :: l).Pairwise (· ≤ ·)
  | c, [], _ => by simp
  | c, d :: l, h => by
    have h' : (!ltCps (S [d]).cps.toList (S [c]).cps.toList && risingS (S [d]) (l.map fun c => S [c])) = true := h
    obtain ⟨h1, h2⟩ := Bool.and_eq_true_iff.mp h'
    have ih := rising_le d l h2
    have hcd : c ≤ d := by
      rw [ltCps_eq] at h1
      simp [S] at h1
      exact Nat.le_of_not_lt fun z => of_decide_eq_false h1 (List.Lex.rel z)
    rw [List.pairwise_cons]
    refine ⟨fun x hx => ?_, ih⟩
    rcases List.mem_cons.mp hx with rfl | hx
    · exact hcd
    · exact Nat.le_trans hcd ((List.pairwise_cons.mp ih).1 x hx)
theorem sorted_signs {l : List Nat} {ys : List Str} (p : ys.Perm (l.map fun c => S [c])) (h : sortedS ys = true) : ys = (srtL l).map fun c => S [c] := by
  have hq : ∃ zs : List Nat, ys = zs.map fun c => S [c] := by
    refine ⟨ys.map fun z => z.cps.toList.headD 0, ?_⟩
    rw [List.map_map]
    refine (List.map_id ys).symm.trans (List.map_congr_left fun y hy => ?_)
    obtain ⟨c, _, rfl⟩ := List.mem_map.mp (p.mem_iff.mp hy)
    simp [S]
  obtain ⟨zs, rfl⟩ := hq
  have hp : zs.Perm l := by
    have q := p.map fun z : Str => z.cps.toList.headD 0
    rw [List.map_map, List.map_map] at q
    have e : ∀ l : List Nat, l.map ((fun z : Str => z.cps.toList.headD 0) ∘ fun c => S [c]) = l := fun l => (List.map_congr_left fun c _ => by simp [S]).trans (List.map_id l)
    rw [e, e] at q
    exact q
  have hs : zs.Pairwise (· ≤ ·) := by
    cases zs with
    | nil => exact .nil
    | cons c r => exact rising_le c r h
  rw [srt_eq hp hs]
/-! a comprehension over a text -/
theorem lc_text {l : List Nat} {j : Nat} {tt : TT} {te : TE} {vs : List Nat} {σ : L2.St} {H1 : Hp} {D : Addr} {Qd : Hp → Prop} (p : Nat → Bool) (v : Nat → V) (hl : l.length ≤ 4000)
    (hw : ∀ x, wipe ((wipe σ vs).set j (some x)) vs = wipe σ vs)
    (ht : ∀ c ∈ l, ∀ (H2 : Hp) (Q : Bool → Hp → Prop), (∀ b, b ≠ D → H2 b = H1 b) → Q (p c) H2 → tt ((wipe σ vs).set j (some (.str (S [c])))) H2 Q)
    (he : ∀ c ∈ l, p c = true → ∀ (H2 : Hp) (Q : VK), (∀ b, b ≠ D → H2 b = H1 b) → Q (v c) H2 → te ((wipe σ vs).set j (some (.str (S [c])))) H2 Q)
    (hq : Qd (upd H1 D (.lst ((l.filter p).map v)))) :
    ∃ W : Nat → Nat → Hp → Prop, (∃ m, W 0 m (upd H1 D (.lst []))) ∧ ∀ i m H, W i m H →
      ((Its (S l)).stop i H ∧ Qd H) ∨ ((Its (S l)).go i H ∧ ∃ Nx : Hp → Prop, (∀ H', Nx H' → ∃ m', m' < m ∧ W (i + 1) m' H') ∧ ∀ x H', (Its (S l)).yld i H x H' → gName j x (wipe σ vs) H' fun σ2 H2 => wipe σ2 vs = wipe σ vs ∧ tt σ2 H2 fun b H3 =>
        if b = true then te σ2 H3 fun y H4 => ∃ acc, H4 D = some (.lst acc) ∧ acc.length < sizeLine ∧ Nx (upd H4 D (.lst (acc ++ [y]))) else Nx H3) := by
  have hz : (S l).cps.size = l.length := S_size l
  refine lc_it walk_str (fun i H => H = upd H1 D (.lst (((l.take i).filter p).map v))) rfl (fun _ _ _ _ => trivial) ?_ ?_
  · rintro i x H H' hi hP ⟨rfl, c, hc, rfl⟩
    subst hP
    have hc2 : l[i]? = some c := S_get.mp hc
    have hm : c ∈ l := List.mem_of_getElem? hc2
    have off : ∀ b, b ≠ D → (upd H1 D (.lst (((l.take i).filter p).map v))) b = H1 b := fun b hb => upd_ne hb
    have e1 : l.take (i + 1) = l.take i ++ [c] := by
      rw [List.take_add_one, hc2]
      rfl
    refine ⟨hw _, ht c hm _ _ off ?_⟩
    by_cases hp : p c = true
    · rw [if_pos hp]
      refine he c hm hp _ _ off ⟨_, upd_same, ?_, ?_⟩
      · rw [List.length_map, sizeLine_eq]
        have h1 := List.length_filter_le p (l.take i)
        rw [List.length_take] at h1
        omega
      · rw [upd_upd, e1, List.filter_append, List.filter_cons_of_pos hp, List.filter_nil, List.map_append]
        rfl
    · rw [if_neg hp, e1, List.filter_append, List.filter_cons_of_neg hp, List.filter_nil, List.append_nil]
  · rintro H rfl
    rw [hz, List.take_length]
    exact hq
end Vk
set_option Elab.async false
set_option linter.all false
set_option maxRecDepth 100000
set_option maxHeartbeats 4000000
namespace Vk
open PySem PySem.Spec PyProof.Rows L2
/-! V0: the readings, one step each, said the way a walk uses them -/
section
variable {D : Ends} {σ : L2.St} {H : Hp} {t u : TS} {te ta tb : TE} {c : TT} {Q : VK} {K : PySem.W.Frag}
theorem iSeq (h : t { nx := u D, rt := D.rt, bk := D.bk, ct := D.ct } σ H) : tSeq t u D σ H := h
theorem iNext (h : D.nx σ H) : tNext D σ H := h
theorem iBreak (h : D.bk σ H) : tBreak D σ H := h
theorem iCont (h : D.ct σ H) : tCont D σ H := h
theorem iDrop (h : te σ H fun _ H1 => D.nx σ H1) : tDrop te D σ H := h
theorem iRet (h : te σ H D.rt) : tRet te D σ H := h
theorem iRetN (h : D.rt .non H) : tRetN D σ H := h
theorem iIfS (h : c σ H fun b H1 => if b = true then t D σ H1 else u D σ H1) : tIfS c t u D σ H := h
theorem iAsg {g : TG} (h : te σ H fun x H1 => g x σ H1 D.nx) : tAsg te g D σ H := h
theorem iName {i : Nat} {v : V} {Q : L2.St → Hp → Prop} (h : Q (σ.set i (some v)) H) : gName i v σ H Q := h
theorem iSub {to ti : TE} {tt : TSet} {v : V} {Q : L2.St → Hp → Prop} (h : to σ H fun o H1 => ti σ H1 fun i H2 => tt o i v H2 fun H3 => Q σ H3) : gSub to ti tt v σ H Q := h
theorem iVar {i : Nat} {v : V} (e : σ[i]? = some (some v)) (h : Q v H) : tVar i σ H Q := ⟨v, e, h⟩
theorem iC {v : V} (h : Q v H) : tC v σ H Q := h
theorem iOp {r : R2} (h : ta σ H fun x H1 => tb σ H1 fun y H2 => r x y H2 Q) : tOp r ta tb σ H Q := h
theorem iUn {r : V → Hp → VK → Prop} (h : ta σ H fun x H1 => r x H1 Q) : tUn r ta σ H Q := h
theorem iI0 {g : Int → Int → V} {i j : Int} (h : Q (g i j) H) : rI0 g (.int i) (.int j) H Q := ⟨i, j, rfl, rfl, h⟩
theorem iI {C : Int → Int → Prop} {g : Int → Int → V} {i j : Int} (hc : C i j) (h : Q (g i j) H) : rI C g (.int i) (.int j) H Q := ⟨i, j, rfl, rfl, hc, h⟩
theorem iU {g : Int → V} {i : Int} (h : Q (g i) H) : rU g (.int i) H Q := ⟨i, rfl, h⟩
theorem iEq {x y : V} (hs : scal x y = true) (h : Q (.bl (decide (x = y))) H) : rEq x y H Q := ⟨hs, h⟩
theorem iNe {x y : V} (hs : scal x y = true) (h : Q (.bl (!decide (x = y))) H) : rNe x y H Q := ⟨hs, h⟩
theorem iB {Q : Bool → Hp → Prop} (h : te σ H fun x H1 => ∃ c, x = .bl c ∧ Q c H1) : tB te σ H Q := h
theorem iTest {Q : Bool → Hp → Prop} (h : te σ H fun x H1 => ∃ c, x = .bl c ∧ Q c H1) : tTest te σ H Q := h
theorem iAnd {t u : TT} {Q : Bool → Hp → Prop} (h : t σ H fun c H1 => if c = true then u σ H1 Q else Q false H1) : tAnd t u σ H Q := h
theorem iOr {t u : TT} {Q : Bool → Hp → Prop} (h : t σ H fun c H1 => if c = true then Q true H1 else u σ H1 Q) : tOr t u σ H Q := h
theorem iNot {t : TT} {Q : Bool → Hp → Prop} (h : t σ H fun c H1 => Q (!c) H1) : tNot t σ H Q := h
theorem iAndV (h : ta σ H fun x H1 => ∃ c, x = .bl c ∧ if c = true then tb σ H1 Q else Q (.bl false) H1) : tAndV ta tb σ H Q := h
theorem iOrV (h : ta σ H fun x H1 => ∃ c, x = .bl c ∧ if c = true then Q (.bl true) H1 else tb σ H1 Q) : tOrV ta tb σ H Q := h
theorem iNotV (h : ta σ H fun x H1 => ∃ c, x = .bl c ∧ Q (.bl (!c)) H1) : tNotV ta σ H Q := h
theorem iIfE (h : c σ H fun b H1 => if b = true then ta σ H1 Q else tb σ H1 Q) : tIf c ta tb σ H Q := h
theorem iNil {Q : List V → Hp → Prop} (h : Q [] H) : tNil σ H Q := h
theorem iCons {tr : TA} {Q : List V → Hp → Prop} (h : ta σ H fun x H1 => tr σ H1 fun xs H2 => Q (x :: xs) H2) : tCons ta tr σ H Q := h
theorem iTup {ts : TA} (h : ts σ H fun xs H1 => xs.length ≤ sizeLine ∧ ∀ p, H1 p = none → Q (.ref p) (upd H1 p (.tup xs))) : tTup ts σ H Q := h
theorem iLst {ts : TA} (h : ts σ H fun xs H1 => xs.length ≤ sizeLine ∧ ∀ p, H1 p = none → Q (.ref p) (upd H1 p (.lst xs))) : tLst ts σ H Q := h
theorem iCB {r : List V → Hp → VK → Prop} {ts : TA} (h : ts σ H fun vs H1 => r vs H1 Q) : tCB r ts σ H Q := h
theorem iCall {sp : Sp} {dvs : List V} {E : XK} {ts : TA} (h : ts σ H fun vs H1 => sp (vs ++ dvs) H1 Q E) : tCall sp dvs E ts σ H Q := h
theorem iFld {f : Str} (h : ta σ H fun x H1 => ∃ a C dx fs v, x = .ref a ∧ H1 a = some (.ins C dx fs) ∧ Cls K C ∧ NoAttr K C f ∧ fs.lookup f = some v ∧ Q v H1) : tFld K ta f σ H Q := h
theorem iM1 {r : V → List V → Hp → VK → Prop} {to : TE} (h : to σ H fun x H1 => (∃ a, x = .str a) ∧ te σ H1 fun y H2 => r x [y] H2 Q) : tM1 r to te σ H Q := h
theorem iBM {T : String} {r : V → List V → Hp → VK → Prop} {to : TE} {ts : TA} (h : to σ H fun x H1 => tyV K T x H1 ∧ ts σ H1 fun xs H2 => r x xs H2 Q) : tBM K T r to ts σ H Q := h
theorem iSl {r : V → Option Int → Option Int → Hp → VK → Prop} {tl th : TO} (h : te σ H fun x H1 => tl σ H1 fun l H2 => th σ H2 fun u H3 => r x l u H3 Q) : tSl r te tl th σ H Q := h
theorem iIxL {p : Addr} {xs : List V} {i : Int} {v : V} (hq : SqL K H p xs) (e : atI xs i = some v) (h : Q v H) : rIxL K (.ref p) (.int i) H Q := ⟨p, xs, i, v, rfl, rfl, hq, e, h⟩
theorem iIxT {p : Addr} {xs : List V} {i : Int} {v : V} (hq : SqT K H p xs) (e : atI xs i = some v) (h : Q v H) : rIxT K (.ref p) (.int i) H Q := ⟨p, xs, i, v, rfl, rfl, hq, e, h⟩
theorem iIxS {l : List Nat} {i : Int} {c : Nat} (hz : l.length ≤ 100000) (e : atI l i = some c) (h : Q (.str (S [c])) H) : rIxS (.str (S l)) (.int i) H Q :=
  ⟨S l, i, c, rfl, rfl, (by rw [S_len, sizeLine_eq]; omega), (by rw [S_cps]; exact e), h⟩
theorem iSlS {l : List Nat} {lo hi : Option Int} (hz : l.length ≤ 100000) (h : Q (.str (cutS (S l) lo hi)) H) : rSlS (.str (S l)) lo hi H Q :=
  ⟨S l, rfl, (by rw [S_len, sizeLine_eq]; omega), h⟩
theorem iBd {P : Prop} [Decidable P] {A B : Prop} (h1 : P → A) (h2 : ¬ P → B) : if decide P = true then A else B := ite2 (fun h => h1 (of_decide_eq_true h)) fun h => h2 fun p => h (decide_eq_true p)
theorem iBnd {P : Prop} [Decidable P] {A B : Prop} (h1 : ¬ P → A) (h2 : P → B) : if (!decide P) = true then A else B := ite2 (fun h => h1 (by simpa using h)) fun h => h2 (by simpa using h)
theorem iBb {b : Bool} {A B : Prop} (h1 : b = true → A) (h2 : b = false → B) : if b = true then A else B := ite2 h1 fun h => h2 (by simpa using h)
theorem iBbn {b : Bool} {A B : Prop} (h1 : b = false → A) (h2 : b = true → B) : if (!b) = true then A else B := ite2 (fun h => h1 (by simpa using h)) fun h => h2 (by simpa using h)
theorem iTT {A B : Prop} (h : A) : if true = true then A else B := iteT h
theorem iFF {A B : Prop} (h : B) : if false = true then A else B := iteF h
theorem iNTT {A B : Prop} (h : B) : if (!true) = true then A else B := iteF h
theorem iNFF {A B : Prop} (h : A) : if (!false) = true then A else B := iteT h
theorem iEx {α : Sort _} {p : α → Prop} (w : α) (h : p w) : ∃ x, p x := ⟨w, h⟩
theorem iSetL {p : Addr} {xs ys : List V} {i : Int} {j : Nat} {v : V} {Q : Hp → Prop} (h : H p = some (.lst xs)) (hj : ixN xs.length i = some j) (e : xs.set j v = ys) (k : Q (upd H p (.lst ys))) : rSetL (.ref p) (.int i) v H Q :=
  ⟨p, xs, i, j, rfl, rfl, h, hj, (by rw [e]; exact k)⟩
theorem iNoPart {Q : Option Int → Hp → Prop} (h : Q none H) : tNoPart σ H Q := h
theorem iPart {Q : Option Int → Hp → Prop} (h : te σ H fun x H1 => ∃ i, x = .int i ∧ Q (some i) H1) : tPart te σ H Q := h
theorem pe_strS {X : Cx} {x : Str} {l : List Nat} {j : Nat} {pos : Pos} (h : x = S l) : PE X (.Constant (.str x) j pos) (tC (.str (S l))) := h ▸ pe_str
theorem iSFld {tv : TE} {f : Str} (h : tv σ H fun y H1 => ta σ H1 fun x H2 => ∃ a C dx fs, x = .ref a ∧ H2 a = some (.ins C dx fs) ∧ Cls K C ∧ NoAttr K C f ∧ fs.length < 1000 ∧ D.nx σ (upd H2 a (.ins C dx (putF f y fs)))) : sFld K ta tv f D σ H := h
theorem eSFld {a C dx : Addr} {fs fs' : List (Str × V)} {f : Str} {y : V} (e1 : H a = some (.ins C dx fs)) (c : Cls K C) (n : NoAttr K C f) (hl : fs.length < 1000) (ep : putF f y fs = fs') (h : D.nx σ (upd H a (.ins C dx fs'))) :
    ∃ (b C dx : Addr) (gs : List (Str × V)), V.ref a = .ref b ∧ H b = some (.ins C dx gs) ∧ Cls K C ∧ NoAttr K C f ∧ gs.length < 1000 ∧ D.nx σ (upd H b (.ins C dx (putF f y gs))) := ⟨a, C, dx, fs, rfl, e1, c, n, hl, by rw [ep]; exact h⟩
theorem iCon {f : Str} (h : ta σ H fun x H1 => ∃ a C dx fs v u, x = .ref a ∧ H1 a = some (.ins C dx fs) ∧ Cls K C ∧ Con K C f v u ∧ fs.lookup f = none ∧ Q v H1) : tCon K ta f σ H Q := h
theorem iProp {C : Addr} {sp : Sp} {dvs : List V} {E : XK} (h : ta σ H fun x H1 => ∃ a dx fs, x = .ref a ∧ H1 a = some (.ins C dx fs) ∧ sp (.ref a :: dvs) H1 Q E) : tProp C sp dvs E ta σ H Q := h
theorem iMeth {C : Addr} {m : Str} {sp : Sp} {dvs : List V} {E : XK} {t : TA} (h : ta σ H fun x H1 => ∃ a dx fs, x = .ref a ∧ H1 a = some (.ins C dx fs) ∧ fs.lookup m = none ∧ t σ H1 fun vs H2 => sp (x :: (vs ++ dvs)) H2 Q E) : tMeth C m sp dvs E ta t σ H Q := h
theorem iCall0 {sp : Sp} {E : XK} {ts : TA} (h : ts σ H fun vs H1 => sp vs H1 Q E) : tCall sp [] E ts σ H Q := by
  have e : (fun (vs : List V) (H1 : Hp) => sp (vs ++ []) H1 Q E) = fun vs H1 => sp vs H1 Q E := by
    funext vs H1
    rw [List.append_nil]
  show ts σ H fun vs H1 => sp (vs ++ []) H1 Q E
  rw [e]
  exact h
theorem iMeth0 {C : Addr} {m : Str} {sp : Sp} {E : XK} {t : TA} (h : ta σ H fun x H1 => ∃ a dx fs, x = .ref a ∧ H1 a = some (.ins C dx fs) ∧ fs.lookup m = none ∧ t σ H1 fun vs H2 => sp (x :: vs) H2 Q E) : tMeth C m sp [] E ta t σ H Q := by
  have e : (fun (x : V) (H1 : Hp) => ∃ a dx fs, x = .ref a ∧ H1 a = some (.ins C dx fs) ∧ fs.lookup m = none ∧ t σ H1 fun vs H2 => sp (x :: (vs ++ [])) H2 Q E) = fun x H1 => ∃ a dx fs, x = .ref a ∧ H1 a = some (.ins C dx fs) ∧ fs.lookup m = none ∧ t σ H1 fun vs H2 => sp (x :: vs) H2 Q E := by
    funext x H1
    simp only [List.append_nil]
  show ta σ H fun (x : V) (H1 : Hp) => ∃ a dx fs, x = .ref a ∧ H1 a = some (.ins C dx fs) ∧ fs.lookup m = none ∧ t σ H1 fun vs H2 => sp (x :: (vs ++ [])) H2 Q E
  rw [e]
  exact h
/-- here the walk stands still -/
def Stop (p : Prop) : Prop := p
/-! while, by an invariant -/
def Less (W : Nat → L2.St → Hp → Prop) (m : Nat) : L2.St → Hp → Prop := fun σ' H' => ∃ m', m' < m ∧ W m' σ' H'
def WB (W : Nat → L2.St → Hp → Prop) (m : Nat) (tb : TS) (D : Ends) (b : Bool) (σ : L2.St) (H1 : Hp) : Prop :=
  if b = true then ∃ N : L2.St → Hp → Prop, (∀ σ' H', N σ' H' → ∃ m', m' < m ∧ W m' σ' H') ∧ tb { D with nx := N, ct := N, bk := D.nx } σ H1 else D.nx σ H1
theorem iWT {W : Nat → L2.St → Hp → Prop} {m : Nat} {tb : TS} (h : tb { nx := Less W m, rt := D.rt, bk := D.nx, ct := Less W m } σ H) : WB W m tb D true σ H := iteT ⟨Less W m, fun _ _ z => z, h⟩
theorem iWF {W : Nat → L2.St → Hp → Prop} {m : Nat} {tb : TS} (h : D.nx σ H) : WB W m tb D false σ H := iteF h
theorem iWD {P : Prop} [Decidable P] {W : Nat → L2.St → Hp → Prop} {m : Nat} {tb : TS} (h1 : P → tb { nx := Less W m, rt := D.rt, bk := D.nx, ct := Less W m } σ H) (h2 : ¬ P → D.nx σ H) : WB W m tb D (decide P) σ H := by
  by_cases h : P
  · rw [decide_eq_true h]
    exact iWT (h1 h)
  · rw [decide_eq_false h]
    exact iWF (h2 h)
theorem iWDN {P : Prop} [Decidable P] {W : Nat → L2.St → Hp → Prop} {m : Nat} {tb : TS} (h1 : ¬ P → tb { nx := Less W m, rt := D.rt, bk := D.nx, ct := Less W m } σ H) (h2 : P → D.nx σ H) : WB W m tb D (!decide P) σ H := by
  by_cases h : P
  · rw [decide_eq_true h]
    exact iWF (h2 h)
  · rw [decide_eq_false h]
    exact iWT (h1 h)
theorem while_w {c : TT} {tb : TS} (W : Nat → L2.St → Hp → Prop) (h0 : ∃ m, W m σ H) (hs : ∀ m σ H, W m σ H → c σ H fun b H1 => WB W m tb D b σ H1) : tWhile c tb D σ H := ⟨W, h0, hs⟩
/-! heaps -/
theorem upd_old {p x : Addr} {o u : HO} (hp : H p = none) (h : H x = some u) : upd H p o x = some u := by
  rw [upd_ne (ne_of_none h hp)]
  exact h
theorem upd_oth {p x : Addr} {o u : HO} (hp : x ≠ p) (h : H x = some u) : upd H p o x = some u := by rw [upd_ne hp]; exact h
theorem Same.get {H' : Hp} {x : Addr} {u : HO} (s : Same H H') (h : H x = some u) : H' x = some u := s _ _ h
/-- all but the listed stand as they stood -/
def Fr (L : List Addr) (H H' : Hp) : Prop := ∀ x u, x ∉ L → H x = some u → H' x = some u
theorem Fr.get {H' : Hp} {L : List Addr} {x : Addr} {u : HO} (s : Fr L H H') (hx : x ∉ L) (h : H x = some u) : H' x = some u := s _ _ hx h
theorem Fr.refl (L : List Addr) (H : Hp) : Fr L H H := fun _ _ _ h => h
theorem Fr.trans {L : List Addr} {H H1 H2 : Hp} (a : Fr L H H1) (b : Fr L H1 H2) : Fr L H H2 := fun x u n h => b x u n (a x u n h)
theorem Fr.of_same {L : List Addr} {H H1 : Hp} (a : Same H H1) : Fr L H H1 := fun x u _ h => a x u h
theorem Fr.upd_in {L : List Addr} {H : Hp} {p : Addr} {o : HO} (hp : p ∈ L) : Fr L H (upd H p o) := fun x u n h => upd_oth (fun z => n (z ▸ hp)) h
theorem Fr.upd_new {L : List Addr} {H : Hp} {p : Addr} {o : HO} (hp : H p = none) : Fr L H (upd H p o) := fun x u _ h => upd_old hp h
theorem Fr.mono {L M : List Addr} {H H1 : Hp} (a : Fr L H H1) (h : ∀ x ∈ L, x ∈ M) : Fr M H H1 := fun x u n e => a x u (fun z => n (h x z)) e
theorem Fr.in0 {L : List Addr} {H : Hp} {p : Addr} {o : HO} : Fr (p :: L) H (upd H p o) := Fr.upd_in List.mem_cons_self
theorem Fr.in1 {L : List Addr} {H : Hp} {p q : Addr} {o : HO} : Fr (q :: p :: L) H (upd H p o) := Fr.upd_in (List.mem_cons_of_mem _ List.mem_cons_self)
theorem Fr.in2 {L : List Addr} {H : Hp} {p q r : Addr} {o : HO} : Fr (q :: r :: p :: L) H (upd H p o) := Fr.upd_in (List.mem_cons_of_mem _ (List.mem_cons_of_mem _ List.mem_cons_self))
theorem Fr.wk {L : List Addr} {H H1 : Hp} {p : Addr} (h : Fr L H H1) : Fr (p :: L) H H1 := h.mono fun _ hx => List.mem_cons_of_mem _ hx
theorem Fr.wk1 {H H1 : Hp} {p q : Addr} (h : Fr [p] H H1) : Fr [p, q] H H1 := h.mono fun x hx => by
  rw [List.mem_singleton] at hx
  subst hx
  exact List.mem_cons_self
theorem Same.upd_new {H : Hp} {p : Addr} {o : HO} (hp : H p = none) : Same H (upd H p o) := fun x u h => upd_old hp h
theorem Same.tr {H H1 H2 : Hp} (a : Same H H1) (b : Same H1 H2) : Same H H2 := fun x u h => b x u (a x u h)
theorem Fr.same {H H1 : Hp} (a : Fr [] H H1) : Same H H1 := fun x u h => a x u (List.not_mem_nil) h
theorem Fr.none {L : List Addr} {H H1 : Hp} {x : Addr} (a : Fr L H H1) (hx : x ∉ L) (h : H1 x = none) : H x = none := by
  cases e : H x with
  | none => rfl
  | some u => rw [a x u hx e] at h; cases h
end
end Vk
/-! the walk -/
section
open Vk L2
local macro_rules | `(tactic| walk_at "lk") => `(tactic| first
  | assumption
  | exact upd_same
  | (refine upd_old (by assumption) ?_; walk_at "lk")
  | (refine upd_oth (by first | assumption | (apply Ne.symm; assumption)) ?_; walk_at "lk")
  | (refine Same.get (by assumption) ?_; walk_at "lk"))
example {H : L2.Hp} {a p : PySem.Addr} {o u : L2.HO} (h : H a = some u) (hp : H p = none) : L2.upd H p o a = some u := by walk_at "lk"
end
set_option Elab.async false
set_option linter.all false
set_option maxRecDepth 100000
set_option maxHeartbeats 4000000
namespace Vk
open PySem PySem.Spec PyProof.Rows L2
/-! V1: texts as lists of signs -/
theorem S_le {l : List Nat} (h : l.length ≤ 100000) : (S l).length ≤ sizeLine := by rw [S_len, sizeLine_eq]; omega
def rAddS : R2 := fun x y H Q => ∃ a b : List Nat, x = .str (S a) ∧ y = .str (S b) ∧ a.length + b.length ≤ 100000 ∧ Q (.str (S (a ++ b))) H
theorem op_addS {X : Cx} : OpR X (binaryOp .Add) rAddS := by
  intro pins s σ H x y v u Q I rx ry h
  obtain ⟨a, b, rfl, rfl, hz, q⟩ := h
  refine op_add_str pins s σ H _ _ v u Q I rx ry ⟨S a, S b, rfl, rfl, ?_, ?_⟩
  · rw [S_len, S_len, sizeLine_eq]; omega
  · rw [S_app]; exact q
def rLenS1 : List V → Hp → VK → Prop := fun xs H Q => ∃ l : List Nat, xs = [.str (S l)] ∧ l.length ≤ 100000 ∧ Q (.int (l.length : Nat)) H
theorem call_lenS {X : Cx} : CallR X (.builtin "len") rLenS1 := by
  intro pins s σ H xs us Q I r h
  obtain ⟨l, rfl, hz, q⟩ := h
  refine call_len_str pins s σ H _ us Q I r ⟨S l, rfl, S_le hz, ?_⟩
  rw [S_len]
  exact q
def rInS (neg : Bool) : R2 := fun x y H Q => ∃ (c : Nat) (l : List Nat), x = .str (S [c]) ∧ y = .str (S l) ∧ Q (.bl (if neg then !decide (c ∈ l) else decide (c ∈ l))) H
theorem op_inS {X : Cx} : OpR X (compareOp .In) (rInS false) := by
  intro pins s σ H x y v u Q I rx ry h
  obtain ⟨c, l, rfl, rfl, q⟩ := h
  exact op_in_sign pins s σ H _ _ v u Q I rx ry ⟨c, S l, rfl, rfl, by simpa [S_cps] using q⟩
theorem op_notInS {X : Cx} : OpR X (compareOp .NotIn) (rInS true) := by
  intro pins s σ H x y v u Q I rx ry h
  obtain ⟨c, l, rfl, rfl, q⟩ := h
  exact op_notIn_sign pins s σ H _ _ v u Q I rx ry ⟨c, S l, rfl, rfl, by simpa [S_cps] using q⟩
/-! the place of a sign -/
def n1 (l : List Nat) (c : Nat) : Nat := (l.takeWhile (· != c)).length
theorem n1_le (l : List Nat) (c : Nat) : n1 l c ≤ l.length := (List.takeWhile_prefix _).length_le
theorem n1_nil (c : Nat) : n1 [] c = 0 := rfl
theorem n1_cons (x : Nat) (l : List Nat) (c : Nat) : n1 (x :: l) c = if x = c then 0 else n1 l c + 1 := by
  unfold n1
  rw [List.takeWhile_cons]
  by_cases h : x = c
  · rw [if_pos h]
    simp [h]
  · rw [if_neg h]
    simp [h]
theorem n1_mem {l : List Nat} {c : Nat} : c ∈ l ↔ n1 l c < l.length := by
  induction l with
  | nil => simp [n1]
  | cons x r ih =>
    rw [n1_cons, List.mem_cons, List.length_cons]
    by_cases h : x = c
    · rw [if_pos h]
      simp [h]
    · rw [if_neg h]
      have h2 : ¬ c = x := fun z => h z.symm
      simp only [h2, false_or, ih]
      omega
theorem n1_not {l : List Nat} {c : Nat} (h : c ∉ l) : n1 l c = l.length := by
  have h1 := n1_le l c
  have h2 : ¬ n1 l c < l.length := fun z => h (n1_mem.mpr z)
  omega
theorem n1_at {l : List Nat} {c : Nat} (h : c ∈ l) : l[n1 l c]? = some c := by
  induction l with
  | nil => cases h
  | cons x r ih =>
    rw [n1_cons]
    by_cases hx : x = c
    · rw [if_pos hx, hx]
      rfl
    · rw [if_neg hx, List.getElem?_cons_succ]
      refine ih ?_
      rcases List.mem_cons.mp h with h | h
      · exact absurd h.symm hx
      · exact h
theorem n1_before {l : List Nat} {c k : Nat} (h : k < n1 l c) : l[k]? ≠ some c := by
  induction l generalizing k with
  | nil => simp
  | cons x r ih =>
    rw [n1_cons] at h
    by_cases hx : x = c
    · rw [if_pos hx] at h
      omega
    · rw [if_neg hx] at h
      cases k with
      | zero => simpa using hx
      | succ k =>
        rw [List.getElem?_cons_succ]
        exact ih (by omega)
theorem n1_eq {l : List Nat} {c k : Nat} (h : l[k]? = some c) (hb : ∀ j, j < k → l[j]? ≠ some c) : n1 l c = k := by
  have hm : c ∈ l := List.mem_of_getElem? h
  have h1 := n1_at hm
  rcases Nat.lt_trichotomy (n1 l c) k with h2 | h2 | h2
  · exact absurd h1 (hb _ h2)
  · exact h2
  · exact absurd h (n1_before h2)
theorem at_one (l : List Nat) (c i : Nat) : StrLaws.At (S l) (S [c]) (S l).length i ↔ l[i]? = some c := by
  have h := StrLaws.subAt_one (S l) c i
  rw [show (⟨#[c]⟩ : Str) = S [c] from rfl] at h
  rw [S_cps] at h
  exact h
theorem findS (l : List Nat) (c : Nat) : Txt.find (S l) (S [c]) = if c ∈ l then (n1 l c : Int) else -1 := by
  unfold Txt.find
  rcases StrLaws.occ_head (S l) (S [c]) 1 (Nat.le_refl 1) with ⟨h0, hn⟩ | ⟨i, r, h0, hi, hn⟩
  · rw [h0]
    have hc : c ∉ l := fun hm => by
      obtain ⟨j, hj⟩ := List.getElem?_of_mem hm
      exact hn j ((at_one l c j).mpr hj)
    rw [if_neg hc]
  · rw [h0]
    have h1 := (at_one l c i).mp hi
    rw [if_pos (List.mem_of_getElem? h1), n1_eq h1 fun j hj e => hn j hj ((at_one l c j).mpr e)]
theorem startsS (l : List Nat) (c : Nat) : Txt.startswith (S l) (S [c]) = decide (l[0]? = some c) := by
  have h := at_one l c 0
  unfold StrLaws.At at h
  unfold Txt.startswith
  rw [Bool.eq_iff_iff, Bool.and_eq_true, decide_eq_true_eq, decide_eq_true_eq]
  exact h
theorem partS (l : List Nat) (c : Nat) : (Txt.partition (S l) (S [c])).1 = S (l.take (n1 l c)) := by
  have ey : TL.tl (S [c]) = c :: [] := by simp [TL.tl, S]
  by_cases h : c ∈ l
  · have h1 := n1_at h
    have hlt : n1 l c < l.length := n1_mem.mp h
    have e : S l = S (l.take (n1 l c)) ++ S [c] ++ S (l.drop (n1 l c + 1)) := by
      rw [S_app, S_app]
      congr 1
      have e2 : l.drop (n1 l c) = c :: l.drop (n1 l c + 1) := by
        rw [List.drop_eq_getElem_cons hlt]
        rw [List.getElem?_eq_getElem hlt] at h1
        rw [Option.some.inj h1]
      rw [List.append_assoc, List.singleton_append, ← e2, List.take_append_drop]
    have hno : c ∉ TL.tl (S (l.take (n1 l c))) := by
      have : TL.tl (S (l.take (n1 l c))) = l.take (n1 l c) := by simp [TL.tl, S]
      rw [this]
      intro hm
      obtain ⟨j, hj⟩ := List.getElem?_of_mem hm
      have hj2 : j < n1 l c := by
        have := (List.getElem?_eq_some_iff.mp hj).1
        rw [List.length_take] at this
        omega
      rw [List.getElem?_take_of_lt hj2] at hj
      exact n1_before hj2 hj
    have q := TL.partition_app (y := S [c]) ey (a := S (l.take (n1 l c))) (b := S (l.drop (n1 l c + 1))) hno
    rw [← e] at q
    rw [q]
  · have hno : c ∉ TL.tl (S l) := by
      have : TL.tl (S l) = l := by simp [TL.tl, S]
      rw [this]
      exact h
    rw [TL.partition_none ey hno, n1_not h, List.take_length]
/-! cuts -/
section
variable {H : Hp} {Q : VK} {l : List Nat} {i j : Int} {m n : Nat}
theorem iSlTo (hz : l.length ≤ 100000) (e : i = (n : Int)) (h : Q (.str (S (l.take n))) H) : rSlS (.str (S l)) none (some i) H Q := by
  subst e
  refine ⟨S l, rfl, S_le hz, ?_⟩
  rw [S_to]
  exact h
theorem iSlFrom (hz : l.length ≤ 100000) (e : i = (n : Int)) (h : Q (.str (S (l.drop n))) H) : rSlS (.str (S l)) (some i) none H Q := by
  subst e
  refine ⟨S l, rfl, S_le hz, ?_⟩
  rw [S_from]
  exact h
theorem S_mid (l : List Nat) (m n : Nat) : cutS (S l) (some (m : Int)) (some (n : Int)) = S ((l.take n).drop m) := by
  rw [S_cut]
  have e1 : HT.sIx l.length 0 (some (m : Int)) = min m l.length := by
    have q := S_from l m
    unfold HT.sIx
    simp only []
    split
    · omega
    · omega
  have e2 : HT.sIx l.length l.length (some (n : Int)) = min n l.length := by
    unfold HT.sIx
    simp only []
    split
    · omega
    · omega
  rw [e1, e2]
  congr 1
  rw [List.drop_take]
  by_cases h : m ≤ l.length
  · rw [Nat.min_eq_left h]
    by_cases h2 : n ≤ l.length
    · rw [Nat.min_eq_left h2]
    · rw [Nat.min_eq_right (Nat.le_of_not_le h2)]
      have h3 : (l.drop m).length = l.length - m := List.length_drop
      rw [List.take_of_length_le (Nat.le_of_eq h3), List.take_of_length_le (by omega)]
  · rw [Nat.min_eq_right (Nat.le_of_not_le h), List.drop_of_length_le (Nat.le_refl _), List.drop_of_length_le (Nat.le_of_not_le h)]
    simp
theorem iSlMid (hz : l.length ≤ 100000) (e1 : i = (m : Int)) (e2 : j = (n : Int)) (h : Q (.str (S ((l.take n).drop m))) H) : rSlS (.str (S l)) (some i) (some j) H Q := by
  subst e1 e2
  refine ⟨S l, rfl, S_le hz, ?_⟩
  rw [S_mid]
  exact h
end
theorem iAddS {a b : List Nat} {H : Hp} {Q : VK} (hz : a.length + b.length ≤ 100000) (h : Q (.str (S (a ++ b))) H) : rAddS (.str (S a)) (.str (S b)) H Q := ⟨a, b, rfl, rfl, hz, h⟩
theorem iLenS1 {l : List Nat} {H : Hp} {Q : VK} (hz : l.length ≤ 100000) (h : Q (.int (l.length : Nat)) H) : rLenS1 [.str (S l)] H Q := ⟨l, rfl, hz, h⟩
theorem iInS {c : Nat} {l : List Nat} {H : Hp} {Q : VK} (h : Q (.bl (decide (c ∈ l))) H) : rInS false (.str (S [c])) (.str (S l)) H Q := ⟨c, l, rfl, rfl, by simpa using h⟩
theorem iNotInS {c : Nat} {l : List Nat} {H : Hp} {Q : VK} (h : Q (.bl (!decide (c ∈ l))) H) : rInS true (.str (S [c])) (.str (S l)) H Q := ⟨c, l, rfl, rfl, by simpa using h⟩
def rFindS : V → List V → Hp → VK → Prop := fun x xs H Q => ∃ (l : List Nat) (c : Nat), x = .str (S l) ∧ xs = [.str (S [c])] ∧ Q (.int (if c ∈ l then (n1 l c : Int) else -1)) H
theorem mt_findS {X : Cx} : MtR X "str.find" rFindS := by
  intro pins s σ H x xs v us Q I rx rs h
  obtain ⟨l, c, rfl, rfl, q⟩ := h
  exact mt_find pins s σ H _ _ v us Q I rx rs ⟨_, _, rfl, rfl, by rw [findS]; exact q⟩
def rStartS : V → List V → Hp → VK → Prop := fun x xs H Q => ∃ (l : List Nat) (c : Nat), x = .str (S l) ∧ xs = [.str (S [c])] ∧ Q (.bl (decide (l[0]? = some c))) H
theorem mt_startS {X : Cx} : MtR X "str.startswith" rStartS := by
  intro pins s σ H x xs v us Q I rx rs h
  obtain ⟨l, c, rfl, rfl, q⟩ := h
  exact mt_startswith pins s σ H _ _ v us Q I rx rs ⟨_, _, rfl, rfl, by rw [startsS]; exact q⟩
def rPartS : V → List V → Hp → VK → Prop := fun x xs H Q => ∃ (l : List Nat) (c : Nat), x = .str (S l) ∧ xs = [.str (S [c])] ∧ l.length ≤ 100000 ∧ ∀ p, H p = none → ∀ y z : V, Q (.ref p) (upd H p (.tup [.str (S (l.take (n1 l c))), y, z]))
theorem mt_partS {X : Cx} : MtR X "str.partition" rPartS := by
  intro pins s σ H x xs v us Q I rx rs h
  obtain ⟨l, c, rfl, rfl, hz, q⟩ := h
  exact mt_partition pins s σ H _ _ v us Q I rx rs ⟨_, _, rfl, rfl, rfl, S_le hz, fun p hp => by rw [partS]; exact q p hp _ _⟩
theorem iFindS {c : Nat} {l : List Nat} {H : Hp} {Q : VK} (h : Q (.int (if c ∈ l then (n1 l c : Int) else -1)) H) : rFindS (.str (S l)) [.str (S [c])] H Q := ⟨l, c, rfl, rfl, h⟩
theorem iFindYes {c : Nat} {l : List Nat} {H : Hp} {Q : VK} (hc : c ∈ l) (h : Q (.int (n1 l c : Nat)) H) : rFindS (.str (S l)) [.str (S [c])] H Q := iFindS (by rw [if_pos hc]; exact h)
theorem iFindNo {c : Nat} {l : List Nat} {H : Hp} {Q : VK} (hc : ¬ c ∈ l) (h : Q (.int (-1)) H) : rFindS (.str (S l)) [.str (S [c])] H Q := iFindS (by rw [if_neg hc]; exact h)
theorem iStartS {c : Nat} {l : List Nat} {H : Hp} {Q : VK} (h : Q (.bl (decide (l[0]? = some c))) H) : rStartS (.str (S l)) [.str (S [c])] H Q := ⟨l, c, rfl, rfl, h⟩
theorem iPartS {c : Nat} {l : List Nat} {H : Hp} {Q : VK} (hz : l.length ≤ 100000) (h : ∀ p, H p = none → ∀ y z : V, Q (.ref p) (upd H p (.tup [.str (S (l.take (n1 l c))), y, z]))) : rPartS (.str (S l)) [.str (S [c])] H Q := ⟨l, c, rfl, rfl, hz, h⟩
theorem inV_S (t : List Nat) : ∀ us : List (List Nat), inV (.str (S t)) (us.map fun l => V.str (S l)) = decide (t ∈ us)
  | [] => rfl
  | u :: r => by
    have ih := inV_S t r
    unfold inV at ih ⊢
    rw [List.map_cons, List.any_cons, ih]
    have e : eqV (V.str (S u)) (V.str (S t)) = decide (t = u) := by
      show (S u == S t) = _
      by_cases h : t = u
      · subst h
        simp
      · have h2 : S u ≠ S t := fun e => h (S_inj.mp e).symm
        rw [beq_eq_false_iff_ne.mpr h2, decide_eq_false h]
    rw [e, Bool.eq_iff_iff]
    simp
/-- a text among written texts -/
theorem iInL {K : PySem.W.Frag} {p : Addr} {t : List Nat} {us : List (List Nat)} {xs : List V} {H : Hp} {Q : VK} (hq : SqL K H p xs ∨ SqT K H p xs) (hx : xs = us.map fun l => V.str (S l)) (h : Q (.bl (decide (t ∈ us))) H) : rIn K false (.str (S t)) (.ref p) H Q := by
  subst hx
  refine ⟨p, _, rfl, hq, rfl, ?_, ?_⟩
  · rw [List.all_map]
    simp [flatV]
  · rw [if_neg Bool.false_ne_true, inV_S]
    exact h
theorem iNInL {K : PySem.W.Frag} {p : Addr} {t : List Nat} {us : List (List Nat)} {xs : List V} {H : Hp} {Q : VK} (hq : SqL K H p xs ∨ SqT K H p xs) (hx : xs = us.map fun l => V.str (S l)) (h : Q (.bl (!decide (t ∈ us))) H) : rIn K true (.str (S t)) (.ref p) H Q := by
  subst hx
  refine ⟨p, _, rfl, hq, rfl, ?_, ?_⟩
  · rw [List.all_map]
    simp [flatV]
  · rw [if_pos rfl, inV_S]
    exact h
end Vk
set_option Elab.async false
set_option linter.all false
set_option maxRecDepth 100000
set_option maxHeartbeats 4000000
namespace Vk
open PySem PySem.Spec PyProof.Rows L2
/-! V2: isinstance -/
section
variable {K : PySem.W.Frag} {H : Hp} {Q : VK}
theorem isi_int_int {i : Int} (h : Q (.bl true) H) : rIsi K [.int i, .ty "int"] H Q := ⟨_, _, _, _, true, rfl, .ty "int", .base (.int i), rfl, h⟩
theorem isi_int_bool {i : Int} (h : Q (.bl false) H) : rIsi K [.int i, .ty "bool"] H Q := ⟨_, _, _, _, false, rfl, .ty "bool", .base (.int i), rfl, h⟩
theorem isi_int_str {i : Int} (h : Q (.bl false) H) : rIsi K [.int i, .ty "str"] H Q := ⟨_, _, _, _, false, rfl, .ty "str", .base (.int i), rfl, h⟩
theorem isi_str_str {z : Str} (h : Q (.bl true) H) : rIsi K [.str z, .ty "str"] H Q := ⟨_, _, _, _, true, rfl, .ty "str", .base (.str z), rfl, h⟩
theorem isi_str_int {z : Str} (h : Q (.bl false) H) : rIsi K [.str z, .ty "int"] H Q := ⟨_, _, _, _, false, rfl, .ty "int", .base (.str z), rfl, h⟩
theorem isi_str_bool {z : Str} (h : Q (.bl false) H) : rIsi K [.str z, .ty "bool"] H Q := ⟨_, _, _, _, false, rfl, .ty "bool", .base (.str z), rfl, h⟩
theorem isi_bl_bool {b : Bool} (h : Q (.bl true) H) : rIsi K [.bl b, .ty "bool"] H Q := ⟨_, _, _, _, true, rfl, .ty "bool", .base (.bl b), rfl, h⟩
theorem isi_bl_int {b : Bool} (h : Q (.bl true) H) : rIsi K [.bl b, .ty "int"] H Q := ⟨_, _, _, _, true, rfl, .ty "int", .base (.bl b), rfl, h⟩
theorem isi_bl_str {b : Bool} (h : Q (.bl false) H) : rIsi K [.bl b, .ty "str"] H Q := ⟨_, _, _, _, false, rfl, .ty "str", .base (.bl b), rfl, h⟩
end
end Vk
set_option Elab.async false
set_option linter.all false
set_option maxRecDepth 100000
set_option maxHeartbeats 4000000
namespace Vk
open PySem PySem.Spec PyProof.Rows L2
/-! V3: comprehensions, loops, texts joined -/
theorem SqL.off {K : PySem.W.Frag} {H1 H2 : Hp} {a D : Addr} {xs : List V} (h : SqL K H1 a xs) (hD : H1 D = none) (off : ∀ b, b ≠ D → H2 b = H1 b) : SqL K H2 a xs := by
  rcases h with h | h
  · refine .inl ?_
    rcases h with h | ⟨o, h⟩
    · exact .inl ((off a (ne_of_none h hD)).trans h)
    · exact .inr ⟨o, (off a (ne_of_none h hD)).trans h⟩
  · exact .inr h
theorem SqL.same {K : PySem.W.Frag} {H1 H2 : Hp} {a : Addr} {xs : List V} (h : SqL K H1 a xs) (s : Same H1 H2) : SqL K H2 a xs := by
  rcases h with h | h
  · refine .inl ?_
    rcases h with h | ⟨o, h⟩
    · exact .inl (s _ _ h)
    · exact .inr ⟨o, s _ _ h⟩
  · exact .inr h
section
variable {K : PySem.W.Frag} {σ : L2.St} {H H1 : Hp} {Q : VK} {te tl : TE} {tt : TT} {vs : List Nat} {g : TG} {ta : TA}
/-- the loop of a comprehension, for the walk to stop at -/
def LcG (J : It) (g : TG) (tt : TT) (te : TE) (vs : List Nat) (σ : L2.St) (H1 : Hp) (D : Addr) (Q : VK) : Prop := ∃ W : Nat → Nat → Hp → Prop, (∃ m, W 0 m (upd H1 D (.lst []))) ∧ ∀ i m H, W i m H →
  (J.stop i H ∧ Q (.ref D) H) ∨ (J.go i H ∧ ∃ Nx : Hp → Prop, (∀ H', Nx H' → ∃ m', m' < m ∧ W (i + 1) m' H') ∧ ∀ x H', J.yld i H x H' → g x (wipe σ vs) H' fun σ2 H2 => wipe σ2 vs = wipe σ vs ∧ tt σ2 H2 fun b H3 =>
    if b = true then te σ2 H3 fun y H4 => ∃ acc, H4 D = some (.lst acc) ∧ acc.length < sizeLine ∧ Nx (upd H4 D (.lst (acc ++ [y]))) else Nx H3)
theorem iLcL (h : tl σ H fun x H1 => ∃ a, x = .ref a ∧ (∃ xs, SqL K H1 a xs) ∧ ∀ D, H1 D = none → LcG (Itl K a) g tt te vs σ H1 D Q) : tLc (iList K tl) g tt te vs σ H Q := h
theorem iLcS (h : tl σ H fun x H1 => ∃ z, x = .str z ∧ ∀ D, H1 D = none → LcG (Its z) g tt te vs σ H1 D Q) : tLc (iStr tl) g tt te vs σ H Q := h
theorem iLcR1 (h : ta σ H fun ws H1 => ∃ j : Int, ws = [.int j] ∧ -(2 ^ 62) ≤ j ∧ j < 2 ^ 62 ∧ ∀ D, H1 D = none → LcG (Itr 0 j.toNat) g tt te vs σ H1 D Q) : tLc (iRng1 ta) g tt te vs σ H Q := h
/-- a comprehension over a list that stands still, nothing else done -/
theorem lcg_list {a D : Addr} {xs : List V} {j : Nat} (p : V → Bool) (v : V → V) (hl : xs.length ≤ 4000) (hx : SqL K H1 a xs) (hD : H1 D = none)
    (hw : ∀ x, wipe ((wipe σ vs).set j (some x)) vs = wipe σ vs)
    (ht : ∀ x ∈ xs, ∀ (H2 : Hp) (Q : Bool → Hp → Prop), (∀ b, b ≠ D → H2 b = H1 b) → Q (p x) H2 → tt ((wipe σ vs).set j (some x)) H2 Q)
    (he : ∀ x ∈ xs, p x = true → ∀ (H2 : Hp) (Q : VK), (∀ b, b ≠ D → H2 b = H1 b) → Q (v x) H2 → te ((wipe σ vs).set j (some x)) H2 Q)
    (hq : Q (.ref D) (upd H1 D (.lst ((xs.filter p).map v)))) : LcG (Itl K a) (gName j) tt te vs σ H1 D Q := by
  refine lc_it (walk_list (K := K) (a := a) (xs := xs)) (fun i H => H = upd H1 D (.lst (((xs.take i).filter p).map v))) rfl (fun i H hi e => ?_) ?_ ?_
  · subst e
    exact SqL.off hx hD fun b hb => upd_ne hb
  · rintro i x H H' hi hP ⟨rfl, hc⟩
    subst hP
    have hm : x ∈ xs := List.mem_of_getElem? hc
    have off : ∀ b, b ≠ D → (upd H1 D (.lst (((xs.take i).filter p).map v))) b = H1 b := fun b hb => upd_ne hb
    have e1 : xs.take (i + 1) = xs.take i ++ [x] := by
      rw [List.take_add_one, hc]
      rfl
    refine ⟨hw _, ht x hm _ _ off ?_⟩
    by_cases hp : p x = true
    · rw [if_pos hp]
      refine he x hm hp _ _ off ⟨_, upd_same, ?_, ?_⟩
      · rw [List.length_map, sizeLine_eq]
        have h1 := List.length_filter_le p (xs.take i)
        rw [List.length_take] at h1
        omega
      · rw [upd_upd, e1, List.filter_append, List.filter_cons_of_pos hp, List.filter_nil, List.map_append]
        rfl
    · rw [if_neg hp, e1, List.filter_append, List.filter_cons_of_neg hp, List.filter_nil, List.append_nil]
  · rintro H rfl
    rw [List.take_length]
    exact hq
/-! for -/
/-- the loop of a for, for the walk to stop at -/
def ForG (J : It) (g : TG) (tb : TS) (D : Ends) (σ : L2.St) (H1 : Hp) : Prop := ∃ W : Nat → Nat → L2.St → Hp → Prop, (∃ m, W 0 m σ H1) ∧ ∀ i m σ H, W i m σ H →
  (J.stop i H ∧ D.nx σ H) ∨ (J.go i H ∧ ∃ N : L2.St → Hp → Prop, (∀ σ' H', N σ' H' → ∃ m', m' < m ∧ W (i + 1) m' σ' H') ∧ ∀ x H', J.yld i H x H' → g x σ H' fun σ2 H2 => tb { D with nx := N, ct := N, bk := D.nx } σ2 H2)
theorem iForL {D : Ends} {tb : TS} (h : tl σ H fun x H1 => ∃ a, x = .ref a ∧ (∃ xs, SqL K H1 a xs) ∧ ForG (Itl K a) g tb D σ H1) : tFor (iList K tl) g tb D σ H := h
theorem iForS {D : Ends} {tb : TS} (h : tl σ H fun x H1 => ∃ z, x = .str z ∧ ForG (Its z) g tb D σ H1) : tFor (iStr tl) g tb D σ H := h
theorem iForR1 {D : Ends} {tb : TS} (h : ta σ H fun ws H1 => ∃ j : Int, ws = [.int j] ∧ -(2 ^ 62) ≤ j ∧ j < 2 ^ 62 ∧ ForG (Itr 0 j.toNat) g tb D σ H1) : tFor (iRng1 ta) g tb D σ H := h
theorem iForR2 {D : Ends} {tb : TS} (h : ta σ H fun ws H1 => ∃ i j : Int, ws = [.int i, .int j] ∧ (-(2 ^ 62) ≤ i ∧ i < 2 ^ 62 ∧ -(2 ^ 62) ≤ j ∧ j < 2 ^ 62) ∧ ForG (Itr i (j - i).toNat) g tb D σ H1) : tFor (iRng2 ta) g tb D σ H := h
/-- a loop over a text -/
theorem for_S {D : Ends} {tb : TS} {l : List Nat} (Pv : Nat → L2.St → Hp → Prop) (h0 : Pv 0 σ H)
    (hs : ∀ i c σ H, l[i]? = some c → Pv i σ H → g (.str (S [c])) σ H fun σ2 H2 => tb { nx := Pv (i + 1), rt := D.rt, bk := D.nx, ct := Pv (i + 1) } σ2 H2) (hd : ∀ σ H, Pv l.length σ H → D.nx σ H) : ForG (Its (S l)) g tb D σ H := by
  refine for_it walk_str Pv h0 (fun _ _ _ _ _ => trivial) ?_ ?_
  · rintro i x σ H H' hi hP ⟨rfl, c, hc, rfl⟩
    exact hs i c σ _ (S_get.mp hc) hP
  · intro σ H h
    rw [S_size] at h
    exact hd σ H h
/-- a loop over range(n) -/
theorem for_R {D : Ends} {tb : TS} {lo : Int} {n : Nat} (Pv : Nat → L2.St → Hp → Prop) (h0 : Pv 0 σ H)
    (hs : ∀ i σ H, i < n → Pv i σ H → g (.int (lo + (i : Int))) σ H fun σ2 H2 => tb { nx := Pv (i + 1), rt := D.rt, bk := D.nx, ct := Pv (i + 1) } σ2 H2) (hd : ∀ σ H, Pv n σ H → D.nx σ H) : ForG (Itr lo n) g tb D σ H :=
  for_range Pv h0 hs hd
/-- a loop over a list -/
theorem for_L {D : Ends} {tb : TS} {a : Addr} {xs : List V} (Pv : Nat → L2.St → Hp → Prop) (h0 : Pv 0 σ H) (hl : ∀ i σ H, i ≤ xs.length → Pv i σ H → SqL K H a xs)
    (hs : ∀ i x σ H, xs[i]? = some x → Pv i σ H → g x σ H fun σ2 H2 => tb { nx := Pv (i + 1), rt := D.rt, bk := D.nx, ct := Pv (i + 1) } σ2 H2) (hd : ∀ σ H, Pv xs.length σ H → D.nx σ H) : ForG (Itl K a) g tb D σ H :=
  for_list Pv h0 hl hs hd
/-- a comprehension over range(n), which may change the heap -/
theorem lcg_R {D : Addr} {n j : Nat} {lo : Int} (Pv : Nat → Hp → Prop) (h0 : Pv 0 (upd H1 D (.lst []))) (hw : ∀ x, wipe ((wipe σ vs).set j (some x)) vs = wipe σ vs)
    (hs : ∀ i H, i < n → Pv i H → tt ((wipe σ vs).set j (some (.int (lo + (i : Int))))) H fun b H3 => if b = true then te ((wipe σ vs).set j (some (.int (lo + (i : Int))))) H3 fun y H4 => ∃ acc, H4 D = some (.lst acc) ∧ acc.length < sizeLine ∧ Pv (i + 1) (upd H4 D (.lst (acc ++ [y]))) else Pv (i + 1) H3)
    (hd : ∀ H, Pv n H → Q (.ref D) H) : LcG (Itr lo n) (gName j) tt te vs σ H1 D Q := by
  refine lc_it walk_range Pv h0 (fun _ _ _ _ => trivial) ?_ hd
  rintro i x H H' hi hP ⟨rfl, rfl⟩
  exact ⟨hw _, hs i _ hi hP⟩
/-- .. over a text -/
theorem lcg_S {D : Addr} {j : Nat} {l : List Nat} (Pv : Nat → Hp → Prop) (h0 : Pv 0 (upd H1 D (.lst []))) (hw : ∀ x, wipe ((wipe σ vs).set j (some x)) vs = wipe σ vs)
    (hs : ∀ i c H, l[i]? = some c → Pv i H → tt ((wipe σ vs).set j (some (.str (S [c])))) H fun b H3 => if b = true then te ((wipe σ vs).set j (some (.str (S [c])))) H3 fun y H4 => ∃ acc, H4 D = some (.lst acc) ∧ acc.length < sizeLine ∧ Pv (i + 1) (upd H4 D (.lst (acc ++ [y]))) else Pv (i + 1) H3)
    (hd : ∀ H, Pv l.length H → Q (.ref D) H) : LcG (Its (S l)) (gName j) tt te vs σ H1 D Q := by
  refine lc_it walk_str Pv h0 (fun _ _ _ _ => trivial) ?_ ?_
  · rintro i x H H' hi hP ⟨rfl, c, hc, rfl⟩
    exact ⟨hw _, hs i c _ (S_get.mp hc) hP⟩
  · intro H h
    rw [S_size] at h
    exact hd H h
theorem iYes {Q : Bool → Hp → Prop} (h : Q true H) : tYes σ H Q := h
end
/-- what was new is forgotten -/
theorem Fr.forget {L M : List Addr} {H H' : Hp} (f : Fr M H H') (h : ∀ x ∈ M, x ∈ L ∨ H x = Option.none) : Fr L H H' := fun x u hx e => f x u (fun hm => by
  rcases h x hm with h | h
  · exact hx h
  · rw [e] at h
    cases h) e
theorem Fr.forget2 {b D : Addr} {H H' : Hp} (f : Fr [b, D] H H') (h : H D = Option.none) : Fr [b] H H' := f.forget fun x hx => by
  rcases List.mem_cons.mp hx with rfl | hx
  · exact .inl List.mem_cons_self
  · rw [List.mem_singleton] at hx
    subst hx
    exact .inr h
theorem Fr.forget1 {D : Addr} {H H' : Hp} (f : Fr [D] H H') (h : H D = Option.none) : Same H H' := (f.forget (L := []) fun x hx => by
    rw [List.mem_singleton] at hx
    subst hx
    exact .inr h).same
/-- '' joins signs -/
theorem join_S {l : List Nat} (hl : l.length ≤ 4000) : (((l.map fun c => S [c]).map (·.length)).sum + (l.map fun c => S [c]).length * (S []).length ≤ 16777216) ∧ Txt.join (S []) (l.map fun c => S [c]) = S l := by
  refine ⟨?_, join_signs _⟩
  rw [S_len, List.length_nil, Nat.mul_zero, Nat.add_zero, List.map_map]
  have e1 : l.map ((fun x : Str => x.length) ∘ fun c => S [c]) = l.map fun _ => 1 := List.map_congr_left fun c _ => S_len [c]
  rw [e1]
  have e2 : (l.map fun _ => 1).sum = l.length := by
    clear hl e1
    induction l with
    | nil => rfl
    | cons x xs ih => rw [List.map_cons, List.sum_cons, ih, List.length_cons, Nat.add_comm]
  rw [e2]
  omega
theorem iJoinS {K : PySem.W.Frag} {p : Addr} {l : List Nat} {H : Hp} {Q : VK} (hq : SqL K H p (l.map fun c => V.str (S [c]))) (hl : l.length ≤ 4000) (h : Q (.str (S l)) H) :
    ∃ (a : Str) (q : Addr) (ys : List Str), V.str (S []) = .str a ∧ [V.ref p] = [.ref q] ∧ (SqL K H q (ys.map V.str) ∨ SqT K H q (ys.map V.str)) ∧ (ys.map (·.length)).sum + ys.length * a.length ≤ 16777216 ∧ Q (.str (Txt.join a ys)) H := by
  obtain ⟨h1, h2⟩ := join_S hl
  refine ⟨S [], p, l.map fun c => S [c], rfl, rfl, .inl ?_, h1, ?_⟩
  · rw [List.map_map]
    exact hq
  · rw [h2]
    exact h
end Vk
set_option Elab.async false
set_option linter.all false
set_option maxRecDepth 100000
set_option maxHeartbeats 4000000
namespace Vk
open PySem PySem.Spec PyProof.Rows L2
section
variable {X : Cx}
/-- list(text): its signs -/
theorem call_listT (hc : X.calm = true) : CallR X (.type "list") rListT := by
  intro pins s σ H xs us Q I r q
  obtain ⟨z, ex, hz, q⟩ := q
  subst ex
  obtain ⟨u, eu, rx⟩ := vals1 r
  subst eu
  obtain ⟨t, rfl⟩ := rx
  have hz2 : z.cps.size ≤ 4000 := hz
  refine call_list_str (hn := by rw [sizeLine_eq]; omega) (I.ok.hd hc) z t fun h' tk acc c' hk he hacc => ?_
  have hS := signs_strs hacc
  have hlen : ((signsOf z).map V.str).length ≤ sizeLine := by
    rw [List.length_map]
    unfold signsOf
    rw [List.length_map, Array.length_toList, sizeLine_eq]
    omega
  refine ⟨.ref s.heap.objs.size, upd H s.heap.objs.size (.lst ((signsOf z).map V.str)), I.laid (t' := tk) hk (Nat.le_refl _)
    (show ObjOk X.prog X.w _ _ _ (.lst ((signsOf z).map V.str)) from ⟨hlen, acc.toList, c', vals_of_strs hS, by rw [Array.toArray_toList]; exact he⟩), rfl, q _ (I.hok.fresh (Nat.le_refl _))⟩
def repL (n : Nat) (l : List Nat) : List Nat := (List.replicate n l).flatten
theorem repL_len (n : Nat) (l : List Nat) : (repL n l).length = n * l.length := by
  unfold repL
  rw [List.length_flatten, List.map_replicate, List.sum_replicate_nat]
theorem fold_rep (a : Array Nat) : ∀ (n : Nat) (acc : Array Nat), ((List.replicate n a).foldl (· ++ ·) acc).toList = acc.toList ++ (List.replicate n a.toList).flatten
  | 0, acc => by simp
  | n + 1, acc => by
    rw [List.replicate_succ, List.foldl_cons, fold_rep a n, List.replicate_succ, List.flatten_cons, Array.toList_append, List.append_assoc]
/-- text * number -/
def rMulT : R2 := fun x y H Q => ∃ (l : List Nat) (n : Nat), x = .str (S l) ∧ y = .int (n : Int) ∧ l.length * n ≤ 4000 ∧ n ≤ 4000 ∧ Q (.str (S (repL n l))) H
theorem op_mulT : OpR X (binaryOp .Mult) rMulT := by
  intro pins s σ H x y v u Q I rx ry h
  obtain ⟨l, n, rfl, rfl, hln, hn, q⟩ := h
  obtain ⟨t, rfl⟩ := rx
  obtain ⟨t', rfl⟩ := ry
  have hl := S_len l
  refine PySem.P.mul_str ?_ (fun h1 h2 => ?_) (fun h1 h2 => ?_) ?_
  · rw [decide_eq_false (by omega), decide_eq_false (by omega)]
    rfl
  · rw [hl]
    have h3 : (l.length : Int) ≤ (2 ^ 63 - 1) / (n : Int) := by
      refine Int.le_ediv_of_mul_le (by omega) ?_
      have : ((l.length * n : Nat) : Int) ≤ 4000 := by omega
      rw [Int.natCast_mul] at this
      omega
    omega
  · unfold PySem.Builtin.Str.tooLong
    rw [hl, Int.toNat_natCast, sizeLine_eq]
    exact decide_eq_false (by omega)
  · by_cases h1 : (n : Int) < 1
    · rw [if_pos h1]
      have e : n = 0 := by omega
      subst e
      exact ⟨by decide, ⟨.str (S (repL 0 l)), H, I.tok _, ⟨_, rfl⟩, q⟩⟩
    · rw [if_neg h1]
      by_cases h2 : ((n : Int) == 1 || (S l).length == 0) = true
      · rw [if_pos h2]
        have e : repL n l = l := by
          rcases Bool.or_eq_true_iff.mp h2 with h | h
          · have : n = 1 := by
              have := beq_iff_eq.mp h
              omega
            subst this
            unfold repL
            simp
          · have h3 := beq_iff_eq.mp h
            rw [hl] at h3
            have : l = [] := List.length_eq_zero_iff.mp h3
            subst this
            unfold repL
            simp
        rw [e] at q
        exact ⟨.str (S l), H, I, ⟨_, rfl⟩, q⟩
      · rw [if_neg h2]
        have e : (⟨(List.replicate (n : Int).toNat (S l).cps).foldl (· ++ ·) #[]⟩ : Str) = S (repL n l) := by
          rw [Int.toNat_natCast, S_of (⟨_⟩ : Str)]
          congr 1
          show ((List.replicate n (S l).cps).foldl (· ++ ·) #[]).toList = _
          rw [fold_rep, S_cps]
          rfl
        rw [e]
        refine ⟨?_, ⟨.str (S (repL n l)), H, I.tok _, ⟨_, rfl⟩, q⟩⟩
        rw [S_len, repL_len, sizeLine_eq, Nat.mul_comm]
        omega
end
end Vk
set_option Elab.async false
set_option linter.all false
set_option maxRecDepth 100000
set_option maxHeartbeats 4000000
namespace Vk
open PySem PySem.Spec PyProof.Rows L2
section
variable {K : PySem.W.Frag} {H : Hp} {Q : VK} {a : Addr} {xs : List V}
theorem iSlL {lo hi : Option Int} (hq : SqL K H a xs) (h : ∀ p, H p = none → Q (.ref p) (upd H p (.lst (cutV xs lo hi)))) : rSlL K (.ref a) lo hi H Q := ⟨a, xs, rfl, hq, h⟩
theorem iCat {b : Addr} {ys : List V} (ha : H a = some (.lst xs)) (hb : H b = some (.lst ys)) (hz : xs.length + ys.length ≤ sizeLine) (h : ∀ p, H p = none → Q (.ref p) (upd H p (.lst (xs ++ ys)))) : rCat (.ref a) (.ref b) H Q := ⟨a, b, xs, ys, rfl, rfl, ha, hb, hz, h⟩
theorem iAppend {y : V} (ha : H a = some (.lst xs)) (hz : xs.length < sizeLine) (h : Q .non (upd H a (.lst (xs ++ [y])))) : rAppend (.ref a) [y] H Q := ⟨a, xs, y, rfl, rfl, ha, hz, h⟩
theorem iTruL {R : Bool → Prop} (hq : SqL K H a xs) (h : R (!xs.isEmpty)) : ∃ k, TruV K (.ref a) H k ∧ R k := ⟨_, .inl ⟨xs, hq, rfl⟩, h⟩
theorem iTruNil {R : Bool → Prop} (hq : SqL K H a []) (h : R false) : ∃ k, TruV K (.ref a) H k ∧ R k := ⟨_, .inl ⟨[], hq, rfl⟩, h⟩
theorem iTruCons {R : Bool → Prop} {x : V} (hq : SqL K H a (x :: xs)) (h : R true) : ∃ k, TruV K (.ref a) H k ∧ R k := ⟨_, .inl ⟨_, hq, rfl⟩, h⟩
theorem iListT {l : List Nat} (hl : l.length ≤ 4000) (h : ∀ p, H p = none → Q (.ref p) (upd H p (.lst (l.map fun c => V.str (S [c]))))) : rListT [.str (S l)] H Q := by
  refine ⟨S l, rfl, (by rw [S_len]; exact hl), fun p hp => ?_⟩
  have e : (signsOf (S l)).map V.str = l.map fun c => V.str (S [c]) := by
    rw [signs_S, List.map_map]
    rfl
  rw [e]
  exact h p hp
end
end Vk
set_option Elab.async false
set_option linter.all false
set_option maxRecDepth 100000
set_option maxHeartbeats 4000000
/-! set(text) and len(set(text)), whatever the text -/
namespace Vk
open PySem PySem.Spec PyProof.Rows L2

/-- the different codes, in the order in which they are met -/
def met : List Nat → List Nat
  | [] => []
  | c :: r => if (met r).contains c then met r else c :: met r
def metAt (l : List Nat) (i : Nat) : List Nat := met (l.take i).reverse
theorem metAt_succ {l : List Nat} {i c : Nat} (h : l[i]? = some c) : metAt l (i + 1) = if (metAt l i).contains c then metAt l i else c :: metAt l i := by
  unfold metAt
  have e : l.take (i + 1) = l.take i ++ [c] := by
    rw [List.take_add_one, h]
    rfl
  rw [e, List.reverse_append]
  rfl
theorem met_len : ∀ l : List Nat, (met l).length ≤ l.length
  | [] => Nat.le_refl _
  | c :: r => by
    have ih := met_len r
    unfold met
    split
    · exact Nat.le_succ_of_le ih
    · simp only [List.length_cons]
      omega
theorem mem_met : ∀ (l : List Nat) (c : Nat), c ∈ met l ↔ c ∈ l
  | [], c => Iff.rfl
  | a :: r, c => by
    have ih := mem_met r
    unfold met
    by_cases h : (met r).contains a = true
    · rw [if_pos h, ih]
      have ha : a ∈ r := (ih a).mp (by simpa using h)
      constructor
      · exact fun q => List.mem_cons_of_mem _ q
      · intro q
        rcases List.mem_cons.mp q with rfl | q
        · exact ha
        · exact q
    · rw [if_neg h]
      simp only [List.mem_cons, ih]
theorem met_full : ∀ l : List Nat, (met l).length = l.length ↔ l.Nodup
  | [] => by simp [met]
  | a :: r => by
    have ih := met_full r
    have hl := met_len r
    unfold met
    by_cases h : (met r).contains a = true
    · rw [if_pos h]
      have ha : a ∈ r := (mem_met r a).mp (by simpa using h)
      constructor
      · intro e
        simp only [List.length_cons] at e
        omega
      · intro q
        exact absurd ha (List.nodup_cons.mp q).1
    · rw [if_neg h]
      have ha : a ∉ r := fun q => h (by simpa using (mem_met r a).mpr q)
      simp only [List.length_cons, List.nodup_cons, ha, not_false_eq_true, true_and, Nat.add_right_cancel_iff]
      exact ih
theorem nodup_rev {l : List Nat} : l.reverse.Nodup ↔ l.Nodup := by
  refine (List.pairwise_reverse (R := fun a b : Nat => a ≠ b)).trans ?_
  exact ⟨fun h => h.imp Ne.symm, fun h => h.imp Ne.symm⟩
theorem metAt_end (l : List Nat) : (metAt l l.length).length = l.length ↔ l.Nodup := by
  unfold metAt
  rw [List.take_length]
  have h := met_full l.reverse
  rw [List.length_reverse] at h
  exact h.trans nodup_rev
/-- the set of the signs met -/
def metS (l : List Nat) (i : Nat) : Str → Bool := fun k => (metAt l i).any fun c => decide (k = (⟨#[c]⟩ : Str))
theorem metS_mem {l : List Nat} {i c : Nat} : metS l i ⟨#[c]⟩ = (metAt l i).contains c := by
  unfold metS
  rw [Bool.eq_iff_iff, List.any_eq_true]
  constructor
  · rintro ⟨d, hd, e⟩
    have e1 : [c] = [d] := congrArg (fun y : Str => y.cps.toList) (of_decide_eq_true e)
    have e2 : c = d := (List.cons.inj e1).1
    simpa [e2] using hd
  · intro h
    exact ⟨c, by simpa using h, by simp⟩
theorem metS_step {l : List Nat} {i c : Nat} (h : l[i]? = some c) (k : Str) : (metS l i k || decide (k = (⟨#[c]⟩ : Str))) = metS l (i + 1) k := by
  unfold metS
  rw [metAt_succ h]
  by_cases q : (metAt l i).contains c = true
  · rw [if_pos q]
    by_cases e : k = (⟨#[c]⟩ : Str)
    · subst e
      have := metS_mem (l := l) (i := i) (c := c)
      unfold metS at this
      rw [this, q]
      rfl
    · simp [e]
  · rw [if_neg q, List.any_cons, Bool.or_comm]
theorem metN_step {l : List Nat} {i c : Nat} (h : l[i]? = some c) : (if metS l i ⟨#[c]⟩ = true then (metAt l i).length else (metAt l i).length + 1) = (metAt l (i + 1)).length := by
  rw [metAt_succ h, metS_mem]
  split
  · rfl
  · rfl

section
variable {prog : Program} {w : World} {A : Around} {R : Result → Shared → Prop} {I : Addr} {fp wr : List Addr} {G : Array GenState → Array GenState → Prop} {P : Nat → Value → Prop} {St : Nat → Shared → Prop}
theorem upd_text {l : List Nat} (W : WalksS prog w A.in1 I fp wr G l.length P St) (S : Addr) (hSf : S ∉ fp)
    (hval : ∀ i v, P i v → ∃ c t, l[i]? = some c ∧ v = .str ⟨#[c]⟩ t) (hb : l.length + 1 < scanBound) :
    ∀ (k i : Nat) (s : Shared), l.length - i = k → i ≤ l.length → St i s → s.heap.SetOf (strKind prog w) S (metS l i) (metAt l i).length →
      (∀ s', Moved (S :: wr) G s s' → s'.heap.SetOf (strKind prog w) S (metS l l.length) (metAt l l.length).length → R (.ok (.ret .none)) s') → codeAny (model prog w) A (.builtin "set.update.loop" ⟨[.ref S, .ref I], []⟩) R s := by
  have hSw : S ∉ wr := fun h => hSf (W.sub _ h)
  have hsub : ∀ b ∈ wr, b ∈ S :: wr := fun b hb => List.mem_cons_of_mem _ hb
  intro k
  induction k with
  | zero =>
    intro i s hk hi hst hS hR
    obtain rfl : i = l.length := by omega
    refine codeAny_builtin PyProof.Rows.F.entry_set_update_loop ?_
    rw [Around.under_plainId PyProof.Rows.F.plain_set_update_loop _]
    show wpAny _ A.in1 (pyNext (.ref I) >>= _) _ _ s
    refine wpAny_bind (W.done s _ _ hst fun s1 hm => ?_)
    show wpAny _ A.in1 (ret Value.none) _ _ s1
    refine wpAny_pure (hR s1 (hm.mono hsub) ?_)
    obtain ⟨o, es, ep, t, ho, more⟩ := hS
    exact ⟨o, es, ep, t, hm.heap S _ hSw ho, more⟩
  | succ k ih =>
    intro i s hk hi hst hS hR
    have hlt : i < l.length := by omega
    refine codeAny_builtin PyProof.Rows.F.entry_set_update_loop ?_
    rw [Around.under_plainId PyProof.Rows.F.plain_set_update_loop _]
    show wpAny _ A.in1 (pyNext (.ref I) >>= _) _ _ s
    refine wpAny_bind (W.item i s _ _ hlt hst fun v s1 hP hst1 hm => ?_)
    obtain ⟨c, t, hc, rfl⟩ := hval i v hP
    have hS1 : s1.heap.SetOf (strKind prog w) S (metS l i) (metAt l i).length := by
      obtain ⟨o, es, ep, tb, ho, more⟩ := hS
      exact ⟨o, es, ep, tb, hm.heap S _ hSw ho, more⟩
    show wpAny _ A.in1 (holding [Value.str ⟨#[c]⟩ t] (setAdd S (.str ⟨#[c]⟩ t)) >>= _) _ _ s1
    refine wpAny_bind (wpAny_holding ?_)
    unfold setAdd
    refine wpAny_holding (wpAny_bind ((strKind prog w).pyHash (k := ⟨#[c]⟩) (strKind_is _ _ _ _) ?_))
    have hroom : (metAt l i).length + 1 < scanBound := by
      have h1 := met_len (l.take i).reverse
      rw [List.length_reverse, List.length_take] at h1
      have h2 : (metAt l i).length ≤ min i l.length := h1
      omega
    refine wpAny_setAddHashed_of (knd := strKind prog w) (s := { s1 with toks := s1.toks + 1 }) (strKind_is _ _ _ _) rfl hS1 hroom fun h2 hsb hS2 => ?_
    have hSi : h2.SetOf (strKind prog w) S (metS l (i + 1)) (metAt l (i + 1)).length := SetOf_congr hS2 (fun y => metS_step hc y) (metN_step hc)
    refine wpAny_pure ⟨plainId_quiet PyProof.Rows.F.plain_set_update_loop _, ih (i + 1) _ (by omega) hlt (W.frame _ s1 _ _ hst1 (Nat.le_succ _) fun b hb o e => ?_) hSi fun s3 hm3 hS3 => ?_⟩
    · rw [hsb.2 b (fun z : b = S => hSf (by rw [← z]; exact hb))]
      exact e
    · refine hR s3 (Moved.trans W.gtrans ((hm.mono hsub).then_heap (Nat.le_succ _) fun b o hb e => ?_) hm3) hS3
      rw [hsb.2 b (fun z : b = S => hb (by rw [z]; exact List.mem_cons_self))]
      exact e
end

section
variable {prog : Program} {w : World} {A : Around} {E : Value → Shared → Prop} {s : Shared}
theorem call_set_text {x : Str} {t : Tok} {Q : Value → Shared → Prop} (hh : A.handled = none) (hb : x.cps.size + 1 < scanBound)
    (h : ∀ (h2 : Heap) (tk : Nat), h2.SetOf (strKind prog w) s.heap.objs.size (metS x.cps.toList x.cps.size) (metAt x.cps.toList x.cps.size).length →
      (∀ b o, b < s.heap.objs.size → s.heap.get? b = some o → h2.get? b = some o) → Q (.ref s.heap.objs.size) { s with heap := h2, toks := tk }) :
    wpAny (model prog w) A (call (.type "set") [.str x t]) Q E s := by
  obtain ⟨c, tl, hmro⟩ := PySem.F.called_set.mro
  have hmade := PySem.F.called_set.made
  have hsub := PySem.F.called_set.sub
  refine wpAny_call (codeAny_of_tree ?_)
  show wpAny _ _ (callAny (.type "set") _) _ _ _
  refine wpAny_pure ⟨Code.quiet_builtin _ (by decide +kernel), codeAny_builtin PySem.F.entry_type_call ?_⟩
  rw [Around.under_plain (weight_type_call_type "set" [.str x t] []) rfl]
  have h1 := PySem.F.called_set.notType
  have h2 := PySem.F.called_set.canCreate
  have hct := PySem.F.typeCall_set_1 (.str x t)
  repeat (any_goals (first | assumption | wp_step))
  refine codeAny_mono (code_set_new_1 (.str x t) (E := E) (Q₁ := fun obj s₁ => ∃ led : Bool, obj = .ref s.heap.objs.size ∧ s₁ = { s with heap := s.heap.push { cls := .type "set", dict := none, data := .set #[] 0 (.fresh 0 0 led) } }) fun led => ⟨led, rfl, rfl⟩) fun r s₁ hr => ?_
  cases r with
  | error e => exact hr
  | ok fl =>
    cases fl with
    | ret obj =>
      obtain ⟨led, rfl, rfl⟩ := hr
      have hS : (s.heap.push { cls := .type "set", dict := none, data := .set #[] 0 (.fresh 0 0 led) }).get? s.heap.objs.size = some { cls := .type "set", dict := none, data := .set #[] 0 (.fresh 0 0 led) } := Heap.get?_push_size _ rfl
      have hT : Shared.TypeIs { s with heap := s.heap.push { cls := .type "set", dict := none, data := .set #[] 0 (.fresh 0 0 led) } } (.ref s.heap.objs.size) "set" := ⟨_, hS, rfl⟩
      have hli := PySem.F.called_set.init.lookup
      have hbi := PySem.F.called_set.init.bind (.ref s.heap.objs.size)
      repeat (any_goals (first | assumption | wp_step))
      refine codeAny_mono (codeAny_call_builtin (R := wants (fun r s₂ => r = .none ∧ ∃ h2 tk, s₂ = { s with heap := h2, toks := tk } ∧
          h2.SetOf (strKind prog w) s.heap.objs.size (metS x.cps.toList x.cps.size) (metAt x.cps.toList x.cps.size).length ∧
          (∀ b o, b < s.heap.objs.size → s.heap.get? b = some o → h2.get? b = some o)) E) PySem.F.called_set.init.plain PySem.F.entry_set_init (check_set_init_1 hT ?_)) fun r₂ s₂ hr₂ => ?_
      · unfold Builtin.«set.__init__» noKeywords Builtin.Frozenset.updateFrom
        generalize hPI : pyIter = PI
        have hTx : Shared.TypeIs { s with heap := s.heap.push { cls := .type "set", dict := none, data := .set #[] 0 (.fresh 0 0 led) } } (.str x t) "str" := rfl
        have hsS : isSubtype (.type "str") (.type "set") = pure false := by rw [isSubtype_type]; kernel_rfl
        have hsF : isSubtype (.type "str") (.type "frozenset") = pure false := by rw [isSubtype_type]; kernel_rfl
        have hne : (Value.type "str" == Value.type "dict") = false := by decide
        wp_walk
        subst hPI
        refine wpAny_pyIter_str fun o St W hst => wpAny_bind (wpAny_runValue ?_)
        generalize hH : s.heap.push { cls := .type "set", dict := none, data := .set #[] 0 (.fresh 0 0 led) } = Hq at W hst hS ⊢
        have hHs : Hq.objs.size = s.heap.objs.size + 1 := by rw [← hH, Heap.size_push]
        have hSf : s.heap.objs.size ∉ [Hq.objs.size] := fun hm => by
          rw [List.mem_singleton] at hm
          omega
        have hh3 : A.in1.in1.in1.handled = none := by simp [hh]
        refine upd_text (l := x.cps.toList) ((W A.in1.in1.in1 hh3).toS) s.heap.objs.size hSf (fun i v hv => ?_) hb (x.cps.toList.length - 0) 0 _ (by omega) (Nat.zero_le _) hst ?_ ?_
        · obtain ⟨c, u, hc, e⟩ := hv
          exact ⟨c, u, by rw [Array.getElem?_toList]; exact hc, e⟩
        · exact SetOf_congr ((PyProof.Rows.setObjOf_fresh (knd := strKind prog w) led).setOf (Heap.get?_push_of_some _ hS) (by unfold scanBound; omega)) (fun _ => rfl) rfl
        · intro s1 hm hS1
          obtain ⟨h2, g2, d2, tk2, os2⟩ := s1
          have eg : g2 = s.gens := hm.gens
          have ed : d2 = s.drawn := hm.drawn
          have eo : os2 = s.os := hm.os
          subst eg; subst ed; subst eo
          show wpAny _ _ _ _ _ _
          refine wpAny_pure ?_
          show wpAny _ _ (ret Value.none) _ _ _
          refine wpAny_pure ⟨rfl, h2, tk2, rfl, hS1, fun b o hb2 e => hm.heap b o (fun z => ?_) (Heap.get?_push_of_some _ (by rw [← hH]; exact Heap.get?_push_of_some _ e))⟩
          rcases List.mem_cons.mp z with z | z
          · rw [z] at hb2
            exact Nat.lt_irrefl _ hb2
          · rw [List.mem_singleton] at z
            rw [z, hHs] at hb2
            exact Nat.not_succ_lt_self hb2
      · cases r₂ with
        | error e => exact hr₂
        | ok fl₂ =>
          cases fl₂ with
          | ret r =>
            obtain ⟨rfl, h2, tk, rfl, hS', hk'⟩ := hr₂
            repeat (any_goals (first | assumption | wp_step))
            exact h _ _ hS' hk'
          | _ => exact hr₂.elim
    | _ => exact hr.elim
end

/-- len(set(x)), x a text -/
def tLenSetT (ta : TE) : TE := fun σ H Q => ta σ H fun x H1 => ∃ z : Str, x = .str z ∧ z.length ≤ 4000 ∧ Q (.int ((metAt z.cps.toList z.cps.toList.length).length : Nat)) H1
theorem pe_lenSetT {X : Cx} {a : Expr} {ta : TE} {p p2 q pos : Pos} (hg : Gl X "len") (hm : X.mg "len" = none) (hg2 : Gl X "set") (hm2 : X.mg "set" = none) (ha : PE X a ta) (hc : X.calm = true := by rfl)
    (na : starEach [a] X.env = (false, eval a X.env) :: starEach [] X.env := by rfl) : PE X (.Call (.Name "len" p) [.Call (.Name "set" p2) [a] [] q] [] pos) (tLenSetT ta) := by
  refine ⟨fun pins s σ H Q I h => ?_⟩
  refine Call_ (ld_blt I hg hm boot_len (PyProof.Rows.callWith_builtin1 (PyProof.Rows.args_cons ?_ rfl) rfl rfl))
  refine Call_ (ld_blt I hg2 hm2 boot_set ?_)
  refine PyProof.Rows.callWith_type1 (PyProof.Rows.args_cons (thn (ha.run pins s σ H _ I h) fun v s1 hh => PyProof.Rows.args_nil ?_) na) na rfl
  obtain ⟨x, H1, I1, r1, z, rfl, hz, q1⟩ := hh
  obtain ⟨t, rfl⟩ := r1
  have hz2 : z.cps.size ≤ 4000 := hz
  refine call_set_text (I1.ok.hd hc) (by unfold scanBound; omega) fun h2 tk hS hk => PyProof.Rows.args_nil ?_
  obtain ⟨o, es, ep, tb, ho, hex, hd, _, _, _, hf, hn⟩ := hS
  have I2 : Inv X pins σ H1 { s1 with heap := h2, toks := tk } := I1.kept fun b o e => hk b o (Heap.lt_size e) e
  have hle : (metAt z.cps.toList z.cps.size).length ≤ z.cps.size := by
    have h1 := met_len (z.cps.toList.take z.cps.size).reverse
    rw [List.length_reverse, List.length_take] at h1
    exact Nat.le_trans h1 (Nat.min_le_left _ _)
  exact call_len_set ho hex hd hf (by rw [hn]; omega) ⟨.int ((metAt z.cps.toList z.cps.toList.length).length : Nat), H1, I2.tok _, ⟨_, by rw [hn]; rfl⟩, q1⟩
end Vk
set_option Elab.async false
set_option linter.all false
set_option maxRecDepth 100000
set_option maxHeartbeats 4000000
namespace Vk
open PySem PySem.Spec PyProof.Rows L2
/-! isinstance of a caught error that has a dict -/
section
open PySem.W
variable {prog : Program} {w : World} {A : Around} {E : Value → Shared → Prop} {s : Shared} {K : Frag} {x D : Addr} {ox od : Obj}
theorem cls_of_exc {Q : Option Value → Shared → Prop} (T : ExcC K D) (X : K.In s.heap) (I : InstAt s.heap x ox D (some od)) (h : Q (some (.ref D)) { s with toks := s.toks + 1 }) : wpAny (model prog w) A (getAttr? (.ref x) "__class__") Q E s := by
  have hf : findObj K D (some od) "__class__" = some (.bind (.builtin "getset_descriptor.__get__") (.builtin "object.__class__")) :=
    findObj_data (by obtain ⟨cd, hc, _⟩ := any_some T.hd; rw [hc]; rfl) T.ha T.hn T.ht
  obtain ⟨hp, g, d, t, os⟩ := s
  have K0 := I.type (M := model prog w)
  have K1 := looks_findIn (M := model prog w) X T.hg
  have K2 := looks_findIn (M := model prog w) X T.hk
  have K3 := looks_find (M := model prog w) X I hf
  have sub : Looks (model prog w) hp (isInstance (.ref x) (.type "BaseException")) true := K0.andThen (looks_subIn X T.hs)
  have q0 : (false && onTheHeap (Value.builtin "BaseException.__getattribute__")) = false := rfl
  have q2 : (Value.builtin "BaseException.__getattribute__" == Value.builtin "object.__getattribute__") = false := by decide +kernel
  have q1 : (onTheHeap (Value.ref D) && Value.builtin "BaseException.__getattribute__" == Value.builtin "object.__getattribute__") = false := by rw [q2]; rfl
  unfold getAttr? getAttrBy? getAttrBy
  refine wpAny_bind (wpAny_mkText (wpAny_bind (wpAny_attempt (wpAny_holding (wpAny_bind (K0.at (wpAny_bind (K1.at ?_))))))))
  show wpAny _ _ (if (onTheHeap (Value.ref D) && Value.builtin "BaseException.__getattribute__" == Value.builtin "object.__getattribute__") = true then _ else _) _ _ _
  rw [q1, if_neg Bool.false_ne_true]
  unfold getAttrByItsOwn hookBefore
  refine wpAny_bind ?_
  rw [if_pos (show onTheHeap (Value.ref D) = true from rfl)]
  refine K2.at (wpAny_bind (wpAny_attempt (wpAny_holding ?_)))
  unfold callGetattribute
  rw [q0, if_neg Bool.false_ne_true]
  unfold boundAndCalled
  rw [PySem.F.excAttr_ValueError.ga.bind (.ref x)]
  refine wpAny_bind (wpAny_pure ?_)
  show wpAny _ _ (call (.builtin "BaseException.__getattribute__") [.ref x, .str "__class__" t]) _ _ _
  refine wpAny_call (codeAny_call_builtin PySem.F.excAttr_ValueError.ga.plain PySem.F.entry_bexc_ga ?_)
  refine @check_slot (model prog w) _ _ ⟨hp, g, d, t + 1, os⟩ "BaseException.__getattribute__" "BaseException" "__getattribute__" (.ref x) [.str "__class__" t] [] _ (by decide +kernel) (by decide +kernel) sub (PySem.F.args_bexc_ga (.ref x) (.str "__class__" t)) ?_
  unfold Builtin.«object.__getattribute__»
  refine wpAny_bind (wpAny_of_eq (a := ((Value.ref x : Value), [Value.str "__class__" t])) (by first | rfl | (simp only [slotArgs]; rfl)) ?_)
  refine wpAny_bind (wpAny_pure (wpAny_bind (K0.at (wpAny_bind (K3.at ?_)))))
  show wpAny _ _ (holding [Value.builtin "object.__class__"] (call (.builtin "getset_descriptor.__get__") [.builtin "object.__class__", .ref x, .ref D]) >>= ret) _ _ _
  refine wpAny_bind (wpAny_holding (wpAny_call (class_get (s := ⟨hp, g, d, t + 1, os⟩) (ox := ox) (od := some od) X I T.hm (wpAny_pure ?_))))
  show wpAny _ _ (handedOut (.ref D)) _ _ _
  rw [handedOut_of (v := .ref D) rfl]
  first
    | exact wpAny_pure (wpAny_pure h)
    | exact wpAny_pure h
    | exact wpAny_pure (wpAny_bind (wpAny_pure (wpAny_pure h)))
theorem kit_excD (T : ExcC K D) : KitX K (.ref x) (.ref D) (fun h => InstAt h x ox D (some od)) where
  ty := fun _ _ _ I => I.type
  it := fun _ _ X _ => by
    obtain ⟨cdD, hcD, _⟩ := any_some T.hd
    unfold clsIn at hcD
    split at hcD
    · rename_i c1 d1 cd1 sl1 ho
      intro A1 Q1 E1 s1 k q
      unfold isType loadHead
      exact wpAny_bind (wpAny_loadPart (k _ _ (X _ _ ho)) (wpAny_pure q))
    · cases hcD
  ne := fun h tp dd its n sl X htp => by
    obtain ⟨cdD, hcD, _⟩ := any_some T.hd
    refine Bool.eq_false_iff.mpr fun q => ?_
    have e : D = tp := Value.ref.inj (beq_iff_eq.mp q)
    subst e
    unfold clsIn at hcD
    split at hcD
    · rename_i c1 d1 cd1 sl1 ho
      have z := (X _ _ ho).symm.trans htp
      cases z
    · cases hcD
  ca := fun X I k => cls_of_exc T X I k
end
/-- the caught error at a, of the class at D, its dict at dd: it can be asked for its class -/
theorem exc_inst {X : Cx} {a D dd : Addr} {oe : Obj} {pn : List (Addr × Obj)} {pins : List (Addr × Obj)} {σ : L2.St} {H : Hp} {s : Shared} {fs : List (Str × V)} (hz : Zc (.ref D) (some dd) oe) (hf : ∃ vs, oe.data = .fields vs)
    (I : Inv (X.suite a ((a, oe) :: pn)) pins σ H s) (hd : H dd = some (.xd fs)) : ∃ od, PySem.W.InstAt s.heap a oe D (some od) := by
  obtain ⟨ha, _⟩ := I.pin (a, oe) (List.mem_append_left _ List.mem_cons_self)
  obtain ⟨vs, hv⟩ := hf
  have hx : ObjOk X.prog X.w H s.heap dd (.xd fs) := I.hok dd _ hd
  obtain ⟨mA, hns, hr⟩ := hx
  obtain ⟨od, ho, hl⟩ := lookIn_ns hns
  exact ⟨od, ha, hz.1, by unfold PySem.W.notCls; rw [hv] <;> rfl, by rw [hz.2]; exact ho⟩
/-- isinstance(e, c), isinstance(e, (c1, c2)) in the suite: t the class of e as a value -/
def rIsX (K : PySem.W.Frag) (a : Addr) (cls : Value) (d : Option Addr) : List V → Hp → VK → Prop := fun xs H Q =>
  ∃ (D dd : Addr) (fs : List (Str × V)), cls = .ref D ∧ d = some dd ∧ ExcC K D ∧ H dd = some (.xd fs) ∧
    ((∃ (c : V) (u : Value) (b : Bool), xs = [.ref a, c] ∧ ClsV c u ∧ PySem.W.kitOne K (.ref D) u = some b ∧ Q (.bl b) H) ∨
      ∃ (tp : Addr) (cs : List V) (us : List Value) (b : Bool), xs = [.ref a, .ref tp] ∧ H tp = some (.tup cs) ∧ Paired ClsV cs us ∧ PySem.W.kitAny K (.ref D) us = some b ∧ Q (.bl b) H)
theorem call_isX {X : Cx} {a : Addr} {cls : Value} {d : Option Addr} {oe : Obj} {pn : List (Addr × Obj)} (hz : Zc cls d oe) (hf : ∃ vs, oe.data = .fields vs) : CallR (X.suite a ((a, oe) :: pn)) (.builtin "isinstance") (rIsX X.K a cls d) := by
  intro pins s σ H xs us Q I r h
  obtain ⟨D, dd, fs, rfl, rfl, C, hd, h⟩ := h
  obtain ⟨od, J⟩ := exc_inst hz hf I hd
  rcases h with ⟨c, u, b, rfl, k, e, q⟩ | ⟨tp, cs, ws, b, rfl, hT, k, e, q⟩
  · obtain ⟨u1, u2, rfl, r1, r2⟩ := vals2 r
    cases (show u1 = Value.ref a from r1)
    have e2 := k.eq r2
    subst e2
    exact PySem.W.kia_one (kit_excD C) I.kIn J e (fun z => nomatch z) fun tk => ⟨.bl b, H, I.tok tk, rfl, q⟩
  · obtain ⟨u1, u2, rfl, r1, r2⟩ := vals2 r
    cases (show u1 = Value.ref a from r1)
    cases (show u2 = Value.ref tp from r2)
    obtain ⟨_, its, rv, o, h1, h2, n, h3⟩ := (show ObjOk X.prog X.w H s.heap tp (.tup cs) from I.hok tp _ hT)
    have e3 := ClsV.all k rv
    subst e3
    obtain ⟨oc, od', dt, sl⟩ := o
    simp only at h2 h3
    subst h2 h3
    exact PySem.W.kia_tup (kit_excD C) I.kIn J h1 e (fun z => nomatch z) fun tk => ⟨.bl b, H, I.tok tk, rfl, q⟩

/-! x == y by an own __eq__ -/
def rOwnI (K : PySem.W.Frag) (C : Addr) (sp : Sp) (E : XK) : R2 := fun x y H Q => ∃ a dx fs b C' dy gs, x = .ref a ∧ y = .ref b ∧ H a = some (.ins C dx fs) ∧ H b = some (.ins C' dy gs) ∧ PySem.W.notFirst K C (.ref C') = true ∧ sp [x, y] H Q E
section
variable {X : Cx} {CX : CXT} {k : Nat} {g C : Addr} {fd : FuncData} {ps : List Str} {sp : Sp} {E : XK}
theorem op_ownI {op : CmpOp} (hop : ∀ a b, compareOp op a b = richCompare op a b) (hs : PySem.W.findIn X.K (.ref C) (cmpInfo op).2.1 = some (some (.ref g))) (hf : PySem.W.isFn X.K (.ref g) = true) (F : FnOk X.prog X.w X.K X.mg X.base CX k g fd ps sp)
    (hr : Room k X.A) (hb : Binds X.K fd ps []) (hx : Passes CX X E) : OpR X (compareOp op) (rOwnI X.K C sp E) := by
  intro pins s σ H x y v u Q I rx ry h
  obtain ⟨a, dx, fs, b, C', dy, gs, rfl, rfl, ha, hbb, hn, q⟩ := h
  cases (show v = Value.ref a from rx)
  cases (show u = Value.ref b from ry)
  obtain ⟨mA, O, _⟩ := ins_get I.hok ha
  obtain ⟨od, J, _⟩ := O.look
  obtain ⟨mB, O2, _⟩ := ins_get I.hok hbb
  obtain ⟨od2, J2, _⟩ := O2.look
  obtain ⟨m, hF⟩ := I.fr
  rw [hop]
  refine PySem.W.cmp_K (op := op) (tb := .ref C') hr.units0 hF I.ok.mod.kin J J2.type hn hs hf ?_
  refine wpAny_mono (run_fn (us := [.ref a, .ref b]) (vs := [.ref a, .ref b]) F hr hb .nil hx I (.cons rfl (.cons rfl .nil)) (by rw [List.append_nil]; exact q)) (fun w s1 z => ?_) fun _ _ x => x
  obtain ⟨z1, H1, I1, rz, qz⟩ := z
  exact SlX.cmpback rz ⟨z1, H1, I1, rz, qz⟩
end

/-! C(e, ..) whose __init__ may raise, in a try: what is raised is wished for at the slots -/
def tMakeS (C : Addr) (sp : Sp) (dvs : List V) (E : L2.St → XK) (t : TA) : TE := fun σ H Q => t σ H fun vs H1 => ∀ x dx, H1 x = none → H1 dx = none → dx ≠ x →
  sp (.ref x :: (vs ++ dvs)) (upd (upd H1 dx (.own x)) x (.ins C dx [])) (fun v H2 => v = .non ∧ Q (.ref x) H2) (E σ)
section
variable {X : Cx} {CX : CXT} {k : Nat} {f C : Addr} {fd : FuncData} {ps : List Str} {sp : Sp} {dvs : List V} {ds : List Value} {E : L2.St → XK} {x : Str} {p pos : Pos} {e : Expr} {es : List Expr} {t : TA}
theorem pe_makeS (M : Mk X.K C f) (F : FnOk X.prog X.w X.K X.mg X.base CX k f fd ps sp) (hr : Room (k + 1) X.A) (hg : Gl X x) (hm : X.mg x = some (.ref C)) (hb : Binds X.K fd ps ds) (hd : Vals dvs ds) (hx : ∀ σ, PassesAt CX X σ (E σ))
    (ha : PA X (e :: es) t) (hdb : (x == ("__debug__" : Str)) = false := by decide) (he : starEach (e :: es) X.env = (false, eval e X.env) :: starEach es X.env := by rfl) (hpl : (backTo pos (starEach es X.env)).any (·.1) = false := by rfl) :
    PE X (.Call (.Name x p) (e :: es) [] pos) (tMakeS C sp dvs E t) := by
  refine ⟨fun pins s σ H Q I h => ?_⟩
  refine wpAny_Call_Name_kw (ld_glob I hg hm ?_ hdb)
  refine PySem.W.callWith_K (h₀ := X.base) I.ok.mod.kin M.kp (thn (ha.run pos pins s σ H _ I h) fun us s1 hh => ?_) he hpl
  obtain ⟨vs, H1, I1, r, q⟩ := hh
  refine ⟨I1.kIn, ?_⟩
  show wpAny _ _ (call (.ref C) us) _ _ _
  have hq := q (s1.heap.objs.size + 1) s1.heap.objs.size (I1.hok.fresh (Nat.le_succ _)) (I1.hok.fresh (Nat.le_refl _)) (Nat.ne_of_lt (Nat.lt_succ_self _))
  have I2 := Inv.made (C := C) I1
  have r2 : Vals (V.ref (s1.heap.objs.size + 1) :: (vs ++ dvs)) (Value.ref (s1.heap.objs.size + 1) :: (us ++ ds)) := .cons rfl (r.append hd)
  have hl : (Value.ref (s1.heap.objs.size + 1) :: us ++ ds).length = ps.length := by
    have e := r2.length
    rw [F.len _ _ _ _ hq] at e
    exact e.symm
  refine wpAny_call (make_map (f := f) I1.kIn M.makes M.init (beq_iff_eq.mp M.fn) (codeAny_mono (F.run _ X.stack _ _ ⟨Value.ref (s1.heap.objs.size + 1) :: us, []⟩ (Value.ref (s1.heap.objs.size + 1) :: (us ++ ds)) _ _ (E σ) (hr.make C us [])
    (I2.env0.make C us []) (hb _ (Value.ref (s1.heap.objs.size + 1) :: us) I2.kIn hl) r2 hq) fun r3 s3 hq3 => ?_))
  cases r3 with
  | error e => exact hx σ _ _ _ e s3 I2 hq3
  | ok fl =>
    cases fl with
    | ret u =>
      obtain ⟨v, H3, I3, rv, ev, q3⟩ := I2.after hq3
      subst ev
      exact ⟨rv, ⟨V.ref (s1.heap.objs.size + 1), H3, I3, rfl, q3⟩⟩
    | next => exact False.elim hq3
    | brk => exact False.elim hq3
    | cont => exact False.elim hq3
end
end Vk
set_option Elab.async false
set_option linter.all false
set_option maxRecDepth 100000
set_option maxHeartbeats 4000000
namespace Vk
open PySem PySem.Spec PyProof.Rows L2
def top (i : Nat) : Stmt := PySem.Challenge.pw_talepost_k01_texts_and_sets.main.body.getD i (.Pass ⟨0, 0, 0, 0⟩)
abbrev sDiff : Stmt := top 9
/-- the built-in names stand for themselves -/
structure Zs (mg : Str → Option Value) : Prop where
  z_len : mg "len" = none
  z_set : mg "set" = none
  z_all : mg "all" = none
  z_abs : mg "abs" = none
  z_int : mg "int" = none
  z_range : mg "range" = none
  z_sorted : mg "sorted" = none
  z_isinstance : mg "isinstance" = none
  z_str : mg "str" = none
  z_bool : mg "bool" = none
  z_list : mg "list" = none
  z_tuple : mg "tuple" = none
  z_any : mg "any" = none
  z_enum : mg "enumerate" = none
  z_min : mg "min" = none
  z_max : mg "max" = none
  z_VE : mg "ValueError" = none
structure TxA (K : PySem.W.Frag) (mg : Str → Option Value) (aDiff : Addr) : Prop extends Zs mg where
  gDiff : mg "differ_within" = some (.ref aDiff)
theorem sz4 {n : Nat} (h : n ≤ 4000) : n ≤ sizeLine := by rw [sizeLine_eq]; omega
section
variable {P : Program} {w : World} {K : PySem.W.Frag} {mg : Str → Option Value} {base : Heap} {aDiff : Addr}
/-! differ_within -/
def Differ (t a : List Nat) : Prop := t.Nodup ∧ ∀ c ∈ t, c ∈ a
instance (t a : List Nat) : Decidable (Differ t a) := inferInstanceAs (Decidable (_ ∧ _))
def spDiff : Sp := fun vs H Q _ => ∃ t a : List Nat, vs = [.str (S t), .str (S a)] ∧ t.length ≤ 4000 ∧ ∀ H', Same H H' → Q (.bl (decide (Differ t a))) H'
theorem scDiff : FnScope ["text", "allowed", "letter"] ["text", "allowed"] (defScope sDiff) := ⟨rfl, rfl, rfl, by decide +kernel, rfl, by decide +kernel, by decide +kernel⟩
theorem ok_diff {f : Addr} {fd : FuncData} (F : Fun K "differ_within" "differ_within" sDiff f fd) (T : TxA K mg aDiff) : FnOk P w K mg base CX0 1 f fd ["text", "allowed"] spDiff := by
  refine F.ok scDiff (fun vs H Q E h => ?_) (fun cdv A outer s H vs Q E hr h => ?_)
  · obtain ⟨t, a, rfl, _⟩ := h
    rfl
  · obtain ⟨t, a, rfl, hl, k⟩ := h
    refine ⟨_, (pss_one (ps_ret (pe_and (pe_cmpR op_eq (pe_lenSetT (by rfl) T.z_len (by rfl) T.z_set (pv 0)) (pe_callB call_len_str (by rfl) T.z_len (by decide +kernel) (pa_cons (pv 0) pa_nil)) (nomark _)) (pe_one (pe_callB (cr_all rfl) (by rfl) T.z_all (by decide +kernel) (pa_cons (pe_lc (own := [("letter", 2)]) (g := gName 2) (by rfl) scDiff.nd (pi_str (pv 0)) (blkOk_by (own := [("letter", 2)]) (N := ["text", "allowed", "letter"]) (sc := defScope sDiff) (by decide +kernel)) (fun _ _ _ _ _ => pg_name (i := 2) scDiff.nd rfl (Or.inl rfl)) (fun _ _ _ _ _ => pts_nil) (fun _ _ _ _ _ => (pe_cmpR op_in_sign (pv 2) (pv 1) rfl))) pa_nil)))))), ?_⟩
    have e1 : ((metAt (S t).cps.toList (S t).cps.toList.length).length = t.length) ↔ t.Nodup := by
      rw [S_cps]
      exact metAt_end t
    refine ⟨_, rfl, _, rfl, by rw [S_len]; exact hl, _, rfl, _, rfl, sz4 (by rw [S_len]; exact hl), rfl, _, rfl, ?_⟩
    have e2 : ((V.int ((metAt (S t).cps.toList (S t).cps.toList.length).length : Nat)) = V.int ((S t).length : Nat)) ↔ t.Nodup := by
      rw [S_len, ← e1]
      constructor
      · intro h
        have h2 := V.int.inj h
        omega
      · intro h
        rw [h]
    refine ite2 (fun hn => ?_) (fun hn => ?_)
    · have hnd : t.Nodup := e2.mp (of_decide_eq_true hn)
      refine ⟨_, rfl, _, rfl, fun D hD => lc_text (fun _ => true) (fun c => V.bl (decide (c ∈ a))) hl (fun _ => rfl) (fun _ _ _ _ _ q => q) (fun c hc _ H2 Q2 _ q => ⟨_, rfl, _, rfl, c, S a, rfl, rfl, by rw [S_cps]; exact q⟩) ?_⟩
      refine ⟨D, t.map (fun c => decide (c ∈ a)), rfl, ?_, ?_⟩
      · rw [List.map_map]
        refine SqL.of ?_
        rw [upd_same, List.filter_eq_self.mpr (fun _ _ => rfl)]
        rfl
      · have e3 : (t.map fun c => decide (c ∈ a)).all id = decide (Differ t a) := by
          rw [Bool.eq_iff_iff]
          simp [Differ, hnd]
        rw [e3]
        exact k _ fun b o e => by rw [upd_ne (ne_of_none e hD)]; exact e
    · have hnd : ¬ t.Nodup := fun z => hn (decide_eq_true (e2.mpr z))
      have e3 : decide (Differ t a) = false := decide_eq_false fun z => hnd z.1
      have q := k H (Same.refl H)
      rw [e3] at q
      exact q
end
def Kp (b : Addr) (H H' : Hp) : Prop := ∀ c o, c ≠ b → H c = some o → H' c = some o
theorem Kp.refl (b : Addr) (H : Hp) : Kp b H H := fun _ _ _ h => h
theorem Kp.trans {b : Addr} {H H1 H2 : Hp} (a : Kp b H H1) (c : Kp b H1 H2) : Kp b H H2 := fun d o h e => c d o h (a d o h e)
theorem Kp.upd (b : Addr) (H : Hp) (o : HO) : Kp b H (upd H b o) := fun c u h e => by rw [upd_ne h]; exact e
def azL : List Nat := (PySem.Str.ofString "abcdefghijklmnopqrstuvwxyz").cps.toList
theorem az_S : PySem.Str.ofString "abcdefghijklmnopqrstuvwxyz" = S azL := S_of _
theorem az_len : azL.length = 26 := by decide +kernel
theorem az_nodup : azL.Nodup := by decide +kernel
theorem Differ.take {l a : List Nat} (h : Differ l a) (i : Nat) : Differ (l.take i) a := ⟨h.1.sublist (List.take_sublist i l), fun c hc => h.2 c (List.mem_of_mem_take hc)⟩
theorem differ_step {l a : List Nat} {i c : Nat} (hc : l[i]? = some c) : Differ (l.take (i + 1)) a ↔ (Differ (l.take i) a ∧ c ∈ a ∧ c ∉ l.take i) := by
  have hi : i < l.length := (List.getElem?_eq_some_iff.mp hc).1
  have e : l.take (i + 1) = l.take i ++ [c] := by
    rw [List.take_succ, hc]
    rfl
  unfold Differ
  rw [e, List.nodup_append]
  constructor
  · rintro ⟨⟨h1, _, h3⟩, h2⟩
    refine ⟨⟨h1, fun d hd => h2 d (List.mem_append_left _ hd)⟩, h2 c (List.mem_append_right _ (List.mem_singleton.mpr rfl)), fun z => h3 c z c (List.mem_singleton.mpr rfl) rfl⟩
  · rintro ⟨⟨h1, h2⟩, h3, h4⟩
    refine ⟨⟨h1, by simp, fun x hx y hy exy => ?_⟩, fun d hd => ?_⟩
    · rw [List.mem_singleton] at hy
      subst hy exy
      exact h4 hx
    · rcases List.mem_append.mp hd with h | h
      · exact h2 d h
      · rw [List.mem_singleton] at h
        subst h
        exact h3
def dueT (l v : List Nat) : Str := if l.length < 1 ∨ 4 < l.length ∨ ¬ Differ l azL then "letters" else if ¬ Differ v l then "vowels" else ""
abbrev sAlph : Stmt := top 8
abbrev sEq : Stmt := inClass (top 8) 3
def consL (l v : List Nat) : List Nat := (srtL l).filter fun c => !decide (c ∈ v)
/-- what an alphabet shows: letters, vowels, consonants, signs -/
def four (l v : List Nat) : List Str := [S (srtL l), S (srtL v), S (consL l v), S (45 :: srtL l)]
def alF (l v : List Nat) : List (Str × V) := [("letters", .str (S (srtL l))), ("vowels", .str (S (srtL v))), ("consonants", .str (S (consL l v))), ("signs", .str (S (45 :: srtL l)))]
def IsAl (C : Addr) (H : Hp) (a : Addr) (l v : List Nat) : Prop := ∃ dx, H a = some (.ins C dx (alF l v))
theorem IsAl.same {C a : Addr} {H H' : Hp} {l v : List Nat} (h : IsAl C H a l v) (s : Same H H') : IsAl C H' a l v := by
  obtain ⟨dx, e⟩ := h
  exact ⟨dx, s _ _ e⟩
structure AlF (K : PySem.W.Frag) (C : Addr) : Prop where
  cl : Cls K C
  nL : NoAttr K C "letters"
  nV : NoAttr K C "vowels"
  nC : NoAttr K C "consonants"
  nS : NoAttr K C "signs"
  ic : PySem.W.findIn K (.ref C) "__class__" = some (some (.builtin "object.__class__"))
  ig : PySem.W.specialIn K (.builtin "object.__class__") "__get__" = some (some (.builtin "getset_descriptor.__get__"))
  it : PySem.W.takesIn K (.builtin "object.__class__") = some true
  im : PySem.W.mroIn K C (.type "object") = some true
theorem joined {l : List Nat} {ys : List Str} (hl : l.length < 64) (hp : ys.Perm (signsOf (S l))) (hs : sortedS ys = true) :
    ((ys.map (·.length)).sum + ys.length * (PySem.Str.ofString "").length ≤ 16777216) ∧ Txt.join (PySem.Str.ofString "") ys = S (srtL l) := by
  rw [signs_S] at hp
  have e := sorted_signs hp hs
  subst e
  have e0 : PySem.Str.ofString "" = S [] := by decide +kernel
  rw [e0]
  refine ⟨?_, join_signs _⟩
  rw [S_len, List.length_nil, Nat.mul_zero, Nat.add_zero, List.map_map]
  have e1 : (srtL l).map ((fun x : Str => x.length) ∘ fun c => S [c]) = (srtL l).map fun _ => 1 := List.map_congr_left fun c _ => S_len [c]
  rw [e1]
  have e2 : ((srtL l).map fun _ => 1).sum = (srtL l).length := by
    induction srtL l with
    | nil => rfl
    | cons x xs ih => rw [List.map_cons, List.sum_cons, ih, List.length_cons, Nat.add_comm]
  rw [e2, srtL_len]
  omega
theorem joinedL {l : List Nat} (hl : l.length < 1000) : (((l.map fun c => S [c]).map (·.length)).sum + (l.map fun c => S [c]).length * (PySem.Str.ofString "").length ≤ 16777216) ∧ Txt.join (PySem.Str.ofString "") (l.map fun c => S [c]) = S l := by
  have e0 : PySem.Str.ofString "" = S [] := by decide +kernel
  rw [e0]
  refine ⟨?_, join_signs _⟩
  rw [S_len, List.length_nil, Nat.mul_zero, Nat.add_zero, List.map_map]
  have e1 : l.map ((fun x : Str => x.length) ∘ fun c => S [c]) = l.map fun _ => 1 := List.map_congr_left fun c _ => S_len [c]
  rw [e1]
  have e2 : (l.map fun _ => 1).sum = l.length := by
    clear hl e1
    induction l with
    | nil => rfl
    | cons x xs ih => rw [List.map_cons, List.sum_cons, ih, List.length_cons, Nat.add_comm]
  rw [e2]
  omega
theorem upd_laid {H : Hp} {p : Addr} {o : HO} (h : H p = none) : Same H (upd H p o) := fun b u e => by rw [upd_ne (ne_of_none e h)]; exact e
theorem Same.trans {A B C : Hp} (h : Same A B) (k : Same B C) : Same A C := fun b u e => k b u (h b u e)
section
variable {P : Program} {w : World} {K : PySem.W.Frag} {mg : Str → Option Value} {base : Heap} {aDiff : Addr}
end
theorem S_eq_iff {a b : List Nat} : decide ((V.str (S a)) = V.str (S b)) = decide (a = b) := by
  have e : ((V.str (S a)) = V.str (S b)) ↔ a = b := ⟨fun h => S_inj.mp (V.str.inj h), fun h => by rw [h]⟩
  rw [Bool.eq_iff_iff, decide_eq_true_iff, decide_eq_true_iff]
  exact e
def AlEq (l v l2 v2 : List Nat) : Bool := decide (srtL l = srtL l2) && decide (srtL v = srtL v2)
section
variable {P : Program} {w : World} {K : PySem.W.Frag} {mg : Str → Option Value} {base : Heap} {aDiff : Addr}
def spEq (C : Addr) : Sp := fun vs H Q _ => ∃ (a b : Addr) (l v l2 v2 : List Nat), vs = [.ref a, .ref b] ∧ IsAl C H a l v ∧ IsAl C H b l2 v2 ∧ Q (.bl (AlEq l v l2 v2)) H
theorem scEq : FnScope ["self", "other"] ["self", "other"] (defScope sEq) := ⟨rfl, rfl, rfl, by decide +kernel, rfl, by decide +kernel, by decide +kernel⟩
theorem ok_eq {f C : Addr} {fd : FuncData} (F : Fun K "__eq__" "Alphabet.__eq__" sEq f fd) (T : TxA K mg aDiff) (A : AlF K C) (hC : mg "Alphabet" = some (.ref C)) : FnOk P w K mg base CX0 1 f fd ["self", "other"] (spEq C) := by
  refine F.ok scEq (fun vs H Q E h => ?_) (fun cdv A0 outer s H vs Q E hr h => ?_)
  · obtain ⟨a, b, l, v, l2, v2, rfl, _⟩ := h
    rfl
  · obtain ⟨a, b, l, v, l2, v2, rfl, ⟨dx, ha⟩, ⟨dy, hb⟩, k⟩ := h
    refine ⟨_, pss_one (ps_ret (pe_and (pe_callB call_isi (by rfl) T.z_isinstance (by decide +kernel) (pa_cons (pv 1) (pa_cons (pe_glob (v := .ref C) (by rfl) hC rfl) pa_nil)))
      (pe_and (pe_cmpR op_eq (pe_fld (pv 0) rfl) (pe_fld (pv 1) rfl) (nomark _)) (pe_one (pe_cmpR op_eq (pe_fld (pv 0) rfl) (pe_fld (pv 1) rfl) (nomark _)))))), ?_⟩
    refine ⟨_, rfl, _, _, _, _, true, rfl, .own C, .base (.ins hb A.cl A.ic A.ig A.it A.im), ?_, true, rfl, iteT ?_⟩
    · show PySem.W.kitOne K (.ref C) (.ref C) = some true
      unfold PySem.W.kitOne
      rw [if_pos (beq_iff_eq.mpr rfl)]
    refine ⟨_, rfl, a, C, dx, _, _, rfl, ha, A.cl, A.nL, rfl, _, rfl, b, C, dy, _, _, rfl, hb, A.cl, A.nL, rfl, rfl, _, rfl, ?_⟩
    have q := k
    unfold AlEq at q
    rw [← S_eq_iff, ← S_eq_iff] at q
    refine ite2 (fun h => ?_) (fun h => ?_)
    · refine ⟨_, rfl, a, C, dx, _, _, rfl, ha, A.cl, A.nV, rfl, _, rfl, b, C, dy, _, _, rfl, hb, A.cl, A.nV, rfl, rfl, ?_⟩
      rw [h, Bool.true_and] at q
      exact q
    · rw [Bool.eq_false_iff.mpr h, Bool.false_and] at q
      exact q
end
abbrev sBA : Stmt := inClass (top 3) 0
def spBA (C : Addr) : Sp := fun vs H Q _ => ∃ (a : Addr) (z : Str), vs = [.ref a, .str z] ∧ z.length ≤ 100 ∧ H a = some (exo a C none) ∧
  ∀ dx, H dx = none → dx ≠ a → Q .non (upd (upd H dx (exd dx [("part", .str z)])) a (exo a C (some dx)))
theorem scBA : SScope ["self", "part"] (defScope sBA) := ⟨rfl, rfl, rfl, by decide +kernel, by decide +kernel, by decide +kernel, fun x h => (show ∀ y ∈ (defScope sBA).names, y.2 = .free → y.1 = "__class__" by decide +kernel) _ (PySem.mem_of_lookup h) rfl, by decide +kernel, by decide +kernel⟩
section
variable {P : Program} {w : World} {K : PySem.W.Frag} {mg : Str → Option Value} {base : Heap}
theorem ok_ba {f C cc cda : Addr} {dV kV doc pm ct oc : Value} {an od : Option Addr} {osl : Array (Option Value)} (T : SupC P K mg C cc cda) (hp : PySem.W.findIn K (.ref C) "part" = some none)
    (lk : K.lookup f = some ⟨oc, od, .func (PySem.W.ksFn "__init__" "BadAlphabet.__init__" (defArgs sBA) (defBody sBA) (defScope sBA) dV kV doc pm an (.ref cda) ct cc), osl⟩) (hcd : PySem.W.codeIn K (.ref cda) "BadAlphabet.__init__" = true) :
    FnOk P w K mg base CX0 1 f (PySem.W.ksFn "__init__" "BadAlphabet.__init__" (defArgs sBA) (defBody sBA) (defScope sBA) dV kV doc pm an (.ref cda) ct cc) ["self", "part"] (spBA C) := by
  refine fn_super (self := "self") (N' := ["part"]) T lk hcd scBA rfl rfl rfl rfl (fun _ => rfl) (fun _ => rfl) (fun vs H Q E h => ?_) (fun A outer s H vs Q E hr h => ?_)
  · obtain ⟨a, z, rfl, _⟩ := h
    rfl
  · obtain ⟨a, z, rfl, hz, ha, k⟩ := h
    refine ⟨_, _, pe_joined (.cons pe_str (.cons (pe_fmt (pv 1)) (.cons pe_str .nil))), pss_one (ps_ost (pv 0) (pv 1)), ⟨a, rfl, ha⟩, ?_⟩
    have e1 : (PySem.Str.ofString "not the ").length = 8 := by decide +kernel
    have e2 : (PySem.Str.ofString " of an alphabet").length = 15 := by decide +kernel
    have e3 : Str.empty.length = 0 := by decide +kernel
    have sl : ∀ {n : Nat}, n ≤ 1000 → n ≤ sizeLine := fun h => by rw [sizeLine_eq]; omega
    have al : ∀ a b : Str, (a ++ b).length = a.length + b.length := fun a b => by
      show (a.cps ++ b.cps).size = _
      rw [Array.size_append]
      rfl
    refine ⟨_, rfl, sl ?_, _, rfl, .inl ⟨z, rfl, sl (by omega), _, rfl, sl ?_, _, rfl, sl ?_, ⟨a, rfl, ha⟩, ?_⟩⟩
    · rw [al, e1, e3]
      decide
    · rw [al, al, e1, e3]
      omega
    · rw [al, al, al, e1, e2, e3]
      omega
    · exact ⟨_, rfl, _, rfl, a, C, rfl, T.oex, hp, .inl ⟨ha, fun dx hd hn => k dx hd hn⟩⟩
end
abbrev sAI : Stmt := inClass (top 8) 2
/-- BadAlphabet as the written part holds it -/
structure BaF (P : Program) (K : PySem.W.Frag) (mg : Str → Option Value) (B fB : Addr) : Prop where
  ox : OexC K B
  iC : PySem.W.findIn K (.ref B) "__init__" = some (some (.ref fB))
  tI : PySem.W.typeIn K (.ref fB) = some (.type "function")
  gB : mg "BadAlphabet" = some (.ref B)
/-- what else stands of Alphabet: its class values -/
structure AlV (K : PySem.W.Frag) (mg : Str → Option Value) (C : Addr) (mc : Value) (tm tj tl : Tok) : Prop where
  gC : mg "Alphabet" = some (.ref C)
  gL : mg "SMALL_LETTERS" = some (.str (S azL) tl)
  rd : ClX.CRead K C mc
  most : ClX.CVal K C mc "MOST" (.int 4) (.int 4 tm)
  joint : ClX.CVal K C mc "JOINT" (.str "-") (.str "-" tj)
def spAl (C B : Addr) : Sp := fun vs H Q E => ∃ (a dx : Addr) (l v : List Nat), vs = [.ref a, .str (S l), .str (S v)] ∧ H a = some (.ins C dx []) ∧ l.length ≤ 1000 ∧ v.length ≤ 1000 ∧
  (dueT l v = "" → ∀ H', IsAl C H' a l v → Kp a H H' → Q .non H') ∧
  (dueT l v ≠ "" → ∀ d H', H d = none → H' d = some (.xd [("part", .str (dueT l v))]) → Kp a H H' → E (.ref B) (some d) H')
theorem kp_exc {H : Hp} {b dx : Addr} {o : HO} {e0 e1 e2 : HO} (ha : H b = none) (hd : (upd H b e0) dx = none) (hn : dx ≠ b) : Same H (upd (del (upd (upd (upd H b e0) dx e1) b e2) b) dx o) := fun c u e => by
  have h1 : c ≠ b := ne_of_none e ha
  have h2 : c ≠ dx := fun z => by
    subst z
    rw [upd_ne h1, e] at hd
    cases hd
  rw [upd_ne h2, del_ne h1, upd_ne h1, upd_ne h2, upd_ne h1]
  exact e
theorem Same.kp {H H' : Hp} (h : Same H H') (a : Addr) : Kp a H H' := fun c o _ e => h c o e
theorem len_of_sub : ∀ {v l : List Nat}, v.Nodup → (∀ c ∈ v, c ∈ l) → v.length ≤ l.length
  | [], l, _, _ => Nat.zero_le _
  | c :: v, l, hn, hs => by
    obtain ⟨h1, h2⟩ := List.nodup_cons.mp hn
    have hc : c ∈ l := hs c List.mem_cons_self
    have ih := len_of_sub (v := v) (l := l.erase c) h2 fun d hd => (List.mem_erase_of_ne (fun (z : d = c) => h1 (z ▸ hd))).mpr (hs d (List.mem_cons_of_mem _ hd))
    rw [List.length_erase_of_mem hc] at ih
    have := List.length_pos_of_mem hc
    rw [List.length_cons]
    omega
theorem differ_len {v l : List Nat} (h : Differ v l) : v.length ≤ l.length := len_of_sub h.1 h.2
theorem put2 (x y : V) : putF "vowels" y [("letters", x)] = ([("letters", x), ("vowels", y)] : List (Str × V)) := by
  show (if ("letters" : Str) = "vowels" then _ else (("letters" : Str), x) :: putF "vowels" y []) = _
  rw [if_neg (by decide +kernel)]
  rfl
theorem put3 (x y z : V) : putF "consonants" z [("letters", x), ("vowels", y)] = ([("letters", x), ("vowels", y), ("consonants", z)] : List (Str × V)) := by
  show (if ("letters" : Str) = "consonants" then _ else (("letters" : Str), x) :: (if ("vowels" : Str) = "consonants" then _ else (("vowels" : Str), y) :: putF "consonants" z [])) = _
  rw [if_neg (by decide +kernel), if_neg (by decide +kernel)]
  rfl
theorem put4 (x y z t : V) : putF "signs" t [("letters", x), ("vowels", y), ("consonants", z)] = ([("letters", x), ("vowels", y), ("consonants", z), ("signs", t)] : List (Str × V)) := by
  show (if ("letters" : Str) = "signs" then _ else (("letters" : Str), x) :: (if ("vowels" : Str) = "signs" then _ else (("vowels" : Str), y) :: (if ("consonants" : Str) = "signs" then _ else (("consonants" : Str), z) :: putF "signs" t []))) = _
  rw [if_neg (by decide +kernel), if_neg (by decide +kernel), if_neg (by decide +kernel)]
  rfl
theorem scAI : FnScope ["self", "letters", "vowels", "letter"] ["self", "letters", "vowels"] (defScope sAI) := ⟨rfl, rfl, rfl, by decide +kernel, rfl, by decide +kernel, by decide +kernel⟩
section
variable {P : Program} {w : World} {K : PySem.W.Frag} {mg : Str → Option Value} {base : Heap} {aDiff : Addr}
theorem ok_alph {f C B fB : Addr} {mc : Value} {tm tj tl : Tok} {fd fdD fdB : FuncData} (F : FunD K "__init__" "Alphabet.__init__" (defArgs sAI) (defBody sAI) (defScope sAI) [.str ""] [] f fd) (T : TxA K mg aDiff) (A : AlF K C) (AV : AlV K mg C mc tm tj tl) (BA : BaF P K mg B fB)
    (FDiff : Fun K "differ_within" "differ_within" sDiff aDiff fdD) (bDiff : Binds K fdD ["text", "allowed"] []) (GB : FnOk P w K mg base CX0 1 fB fdB ["self", "part"] (spBA B)) (bB : Binds K fdB ["self", "part"] []) :
    FnOk P w K mg base (L2.CX P w) 3 f fd ["self", "letters", "vowels"] (spAl C B) := by
  have GDiff : FnOk P w K mg base CX0 1 aDiff fdD ["text", "allowed"] spDiff := ok_diff FDiff T
  refine F.ok scAI (fun vs H Q E h => ?_) (fun cdv A0 outer s H vs Q E hr h => ?_)
  · obtain ⟨a, dx, l, v, rfl, _⟩ := h
    rfl
  · obtain ⟨a, dx, l, v, rfl, ha, hl, hv, kq, ke⟩ := h
    refine ⟨_, (pss_cons (ps_if (PW.pt (pw_or (pt_not (pt_chain op_le op_le pe_int (pe_callB call_len_str (by rfl) T.z_len (by decide +kernel) (pa_cons (pv 1) pa_nil)) (ClX.pe_cval (pe_glob (v := .ref C) (by rfl) AV.gC rfl)))) (pw_or1 (pt_not (pt_val (pe_call GDiff (hr.mono (by decide)) (by rfl) T.gDiff FDiff.kp bDiff .nil pass0 (pa_cons (pv 1) (pa_cons (pe_glob (v := .str (S azL)) (by rfl) AV.gL ⟨_, rfl⟩) pa_nil)))))))) (pss_one (ps_raise rfl (takes_of rfl rfl rfl rfl) (pmk_oex BA.ox BA.iC BA.tI GB (hr.mono (by decide)) bB .nil pass0 (by rfl) BA.gB (pa_cons pe_str pa_nil)))) pss_nil)
      (pss_cons (ps_if (pt_not (pt_val (pe_call GDiff (hr.mono (by decide)) (by rfl) T.gDiff FDiff.kp bDiff .nil pass0 (pa_cons (pv 2) (pa_cons (pv 1) pa_nil))))) (pss_one (ps_raise rfl (takes_of rfl rfl rfl rfl) (pmk_oex BA.ox BA.iC BA.tI GB (hr.mono (by decide)) bB .nil pass0 (by rfl) BA.gB (pa_cons pe_str pa_nil)))) pss_nil)
      (pss_cons (ps_fld (pv 0) (pe_join pe_str (pe_callB (cr_sortT rfl) (by rfl) T.z_sorted (by decide +kernel) (pa_cons (pv 1) pa_nil))) rfl)
      (pss_cons (ps_fld (pv 0) (pe_join pe_str (pe_callB (cr_sortT rfl) (by rfl) T.z_sorted (by decide +kernel) (pa_cons (pv 2) pa_nil))) rfl)
      (pss_cons (ps_fld (pv 0) (pe_join pe_str (pe_lc (own := [("letter", 3)]) (g := gName 3) (by rfl) scAI.nd (pi_str (pe_fld (pv 0) rfl)) (blkOk_by (own := [("letter", 3)]) (N := ["self", "letters", "vowels", "letter"]) (sc := defScope sAI) (by decide +kernel)) (fun _ _ _ _ _ => pg_name (i := 3) scAI.nd rfl (Or.inl rfl)) (fun _ _ _ _ _ => (pts_one (pt_cmpR op_notIn_sign (pv 3) (pv 2) rfl))) (fun _ _ _ _ _ => (pv 3)))) rfl)
      (pss_one (ps_fld (pv 0) (pe_op op_add_str (ClX.pe_cval (pe_glob (v := .ref C) (by rfl) AV.gC rfl)) (pe_fld (pv 0) rfl)) rfl))))))), ?_⟩
    have hll : (S l).length ≤ sizeLine := sz4 (by rw [S_len]; omega)
    -- what a raise leaves
    have rz : ∀ (z : Str) (H1 : Hp), z.length ≤ 100 → z ≠ "" → dueT l v = z → Same H H1 → ∀ b, H1 b = none → spBA B [.ref b, .str z] (upd H1 b (exo b B none)) (fun v H2 => v = .non ∧ ∃ (d : Addr) (fs : List (Str × V)), H2 b = some (exo b B (some d)) ∧ H2 d = some (exd d fs) ∧ H1 d = none ∧ E (.ref B) (some d) (upd (del H2 b) d (.xd fs))) (fun _ _ _ => False) := by
      intro z H1 hz hne hdue hs b hb
      refine ⟨b, z, rfl, hz, upd_same, fun d hd hn => ⟨rfl, d, [("part", .str z)], upd_same, ?_, ?_, ?_⟩⟩
      · rw [upd_ne hn, upd_same]
      · rw [upd_ne hn] at hd
        exact hd
      · have h0 : H d = none := by
          cases e : H d with
          | none => rfl
          | some u =>
            have q := hs _ _ e
            rw [upd_ne hn, q] at hd
            cases hd
        refine ke (by rw [hdue]; exact hne) d _ h0 ?_ (Same.kp (Same.trans hs (kp_exc hb hd hn)) a)
        rw [hdue]
        exact upd_same
    have rl : dueT l v = "letters" → ∀ H1, Same H H1 → ([V.str "letters"] : List V).length ≤ 1000 ∧ ∀ b, H1 b = none → spBA B [.ref b, .str "letters"] (upd H1 b (exo b B none)) (fun v H2 => v = .non ∧ ∃ (d : Addr) (fs : List (Str × V)), H2 b = some (exo b B (some d)) ∧ H2 d = some (exd d fs) ∧ H1 d = none ∧ E (.ref B) (some d) (upd (del H2 b) d (.xd fs))) (fun _ _ _ => False) :=
      fun hd H1 hs => ⟨by show 1 ≤ 1000; decide, rz "letters" H1 (by decide +kernel) (by decide +kernel) hd hs⟩
    have rv : dueT l v = "vowels" → ∀ H1, Same H H1 → ([V.str "vowels"] : List V).length ≤ 1000 ∧ ∀ b, H1 b = none → spBA B [.ref b, .str "vowels"] (upd H1 b (exo b B none)) (fun v H2 => v = .non ∧ ∃ (d : Addr) (fs : List (Str × V)), H2 b = some (exo b B (some d)) ∧ H2 d = some (exd d fs) ∧ H1 d = none ∧ E (.ref B) (some d) (upd (del H2 b) d (.xd fs))) (fun _ _ _ => False) :=
      fun hd H1 hs => ⟨by show 1 ≤ 1000; decide, rz "vowels" H1 (by decide +kernel) (by decide +kernel) hd hs⟩
    have dl : (l.length < 1 ∨ 4 < l.length ∨ ¬ Differ l azL) → dueT l v = "letters" := fun h => if_pos h
    refine ⟨_, rfl, _, rfl, hll, _, _, rfl, rfl, _, rfl, ite2 (fun h1 => ⟨C, mc, _, _, rfl, AV.rd, AV.most, _, _, rfl, rfl, _, rfl, ?_⟩) (fun h1 => ⟨_, rfl, iteT (iteT (rl (dl (.inl ?_)) H (Same.refl H)))⟩)⟩
    rotate_left
    · have : ¬ (1 : Int) ≤ ((S l).length : Int) := fun z => h1 (decide_eq_true z)
      rw [S_len] at this
      omega
    refine ite2 (fun h2 => iteT (rl (dl (.inr (.inl ?_))) H (Same.refl H))) (fun h2 => ?_)
    · have h3 : decide (((S l).length : Int) ≤ 4) = false := by
        cases e : decide (((S l).length : Int) ≤ 4) with
        | false => rfl
        | true =>
          have h2' : (!decide (((S l).length : Int) ≤ 4)) = true := h2
          rw [e] at h2'
          cases h2'
      have := of_decide_eq_false h3
      rw [S_len] at this
      omega
    have g1 : 1 ≤ l.length := by
      have := of_decide_eq_true h1
      rw [S_len] at this
      omega
    have g2 : l.length ≤ 4 := by
      have h3 : decide (((S l).length : Int) ≤ 4) = true := by
        cases e : decide (((S l).length : Int) ≤ 4) with
        | true => rfl
        | false => exact absurd (show (!decide (((S l).length : Int) ≤ 4)) = true by rw [e]; rfl) h2
      have := of_decide_eq_true h3
      rw [S_len] at this
      omega
    refine ⟨_, rfl, l, azL, rfl, by omega, fun H1 s1 => ⟨_, rfl, ite2 (fun h3 => rl (dl (.inr (.inr ?_))) H1 s1) (fun h3 => ?_)⟩⟩
    · intro z
      rw [decide_eq_true z] at h3
      cases h3
    have hDl : Differ l azL := Classical.byContradiction fun z => h3 (by rw [decide_eq_false z]; rfl)
    have hnl : ¬ (l.length < 1 ∨ 4 < l.length ∨ ¬ Differ l azL) := fun z => z.elim (fun z => by omega) fun z => z.elim (fun z => by omega) fun z => z hDl
    refine ⟨_, rfl, _, rfl, v, l, rfl, by omega, fun H2 s2' => ⟨_, rfl, ite2 (fun h4 => rv ?_ H2 (Same.trans s1 s2')) (fun h4 => ?_)⟩⟩
    · unfold dueT
      rw [if_neg hnl, if_pos ?_]
      intro z
      rw [decide_eq_true z] at h4
      cases h4
    have hDv : Differ v l := Classical.byContradiction fun z => h4 (by rw [decide_eq_false z]; rfl)
    have hdue : dueT l v = "" := by
      unfold dueT
      rw [if_neg hnl, if_neg (fun z => z hDv)]
    have hvl := differ_len hDv
    have s2 := Same.trans s1 s2'
    have ha2 := s2 _ _ ha
    -- letters
    refine ⟨⟨_, rfl⟩, _, rfl, S l, rfl, (by rw [S_len]; omega), fun ys p1 hp hs n1 => ?_⟩
    obtain ⟨b1, e1⟩ := joined (by omega) hp hs
    refine ⟨_, p1, ys, rfl, rfl, .inl (SqL.of upd_same), b1, ?_⟩
    rw [e1]
    have k3 := Same.kp (Same.trans s2 (upd_laid (o := .lst (ys.map V.str)) n1)) a
    have ha3 : (upd H2 p1 (.lst (ys.map V.str))) a = some (.ins C dx []) := upd_laid n1 _ _ ha2
    generalize upd H2 p1 (.lst (ys.map V.str)) = H3 at k3 ha3
    refine ⟨_, rfl, a, C, dx, [], rfl, ha3, A.cl, A.nL, (by show 0 < 1000; decide), ?_⟩
    have k4 := k3.trans (Kp.upd a H3 (.ins C dx (putF "letters" (.str (S (srtL l))) [])))
    have ha4 : (upd H3 a (.ins C dx (putF "letters" (.str (S (srtL l))) []))) a = some (.ins C dx [("letters", .str (S (srtL l)))]) := upd_same
    generalize upd H3 a (.ins C dx (putF "letters" (.str (S (srtL l))) [])) = H4 at k4 ha4
    -- vowels
    refine ⟨⟨_, rfl⟩, _, rfl, S v, rfl, (by rw [S_len]; omega), fun zs p2 hp2 hs2 n2 => ?_⟩
    obtain ⟨b2, e2⟩ := joined (by omega) hp2 hs2
    refine ⟨_, p2, zs, rfl, rfl, .inl (SqL.of upd_same), b2, ?_⟩
    rw [e2]
    have k5 := k4.trans (Same.kp (upd_laid (o := .lst (zs.map V.str)) n2) a)
    have ha5 : (upd H4 p2 (.lst (zs.map V.str))) a = some (.ins C dx [("letters", .str (S (srtL l)))]) := upd_laid n2 _ _ ha4
    generalize upd H4 p2 (.lst (zs.map V.str)) = H5 at k5 ha5
    refine ⟨_, rfl, a, C, dx, _, rfl, ha5, A.cl, A.nV, (by show 1 < 1000; decide), ?_⟩
    rw [put2]
    have k6 := k5.trans (Kp.upd a H5 (.ins C dx [("letters", .str (S (srtL l))), ("vowels", .str (S (srtL v)))]))
    have ha6 : (upd H5 a (.ins C dx [("letters", .str (S (srtL l))), ("vowels", .str (S (srtL v)))])) a = some (.ins C dx [("letters", .str (S (srtL l))), ("vowels", .str (S (srtL v)))]) := upd_same
    generalize upd H5 a (.ins C dx [("letters", .str (S (srtL l))), ("vowels", .str (S (srtL v)))]) = H6 at k6 ha6
    -- consonants
    have hk4 : (srtL l).length ≤ 4000 := by rw [srtL_len]; omega
    refine ⟨⟨_, rfl⟩, _, rfl, a, C, dx, _, _, rfl, ha6, A.cl, A.nL, rfl, _, rfl, fun D hD => lc_text (fun c => !decide (c ∈ v)) (fun c => V.str (S [c])) hk4 (fun _ => rfl) (fun c hc H3 Q3 _ q => ⟨_, rfl, _, rfl, c, S v, rfl, rfl, _, rfl, by rw [S_cps]; exact q⟩) (fun c hc _ H3 Q3 _ q => ⟨_, rfl, q⟩) ?_⟩
    have hc64 : (consL l v).length < 1000 := by
      have := List.length_filter_le (fun c => !decide (c ∈ v)) (srtL l)
      rw [srtL_len] at this
      unfold consL
      omega
    obtain ⟨b3, e3⟩ := joinedL hc64
    refine ⟨_, D, (consL l v).map fun c => S [c], rfl, rfl, .inl (SqL.of (by rw [List.map_map]; exact upd_same)), b3, ?_⟩
    rw [e3]
    have k7 := k6.trans (Same.kp (upd_laid (o := .lst (((srtL l).filter fun c => !decide (c ∈ v)).map fun c => V.str (S [c]))) hD) a)
    have ha7 := upd_laid (o := .lst (((srtL l).filter fun c => !decide (c ∈ v)).map fun c => V.str (S [c]))) hD _ _ ha6
    generalize upd H6 D (.lst (((srtL l).filter fun c => !decide (c ∈ v)).map fun c => V.str (S [c]))) = H7 at k7 ha7
    refine ⟨_, rfl, a, C, dx, _, rfl, ha7, A.cl, A.nC, (by show 2 < 1000; decide), ?_⟩
    rw [put3]
    have k8 := k7.trans (Kp.upd a H7 (.ins C dx [("letters", .str (S (srtL l))), ("vowels", .str (S (srtL v))), ("consonants", .str (S (consL l v)))]))
    have ha8 : (upd H7 a (.ins C dx [("letters", .str (S (srtL l))), ("vowels", .str (S (srtL v))), ("consonants", .str (S (consL l v)))])) a = some (.ins C dx [("letters", .str (S (srtL l))), ("vowels", .str (S (srtL v))), ("consonants", .str (S (consL l v)))]) := upd_same
    generalize upd H7 a (.ins C dx [("letters", .str (S (srtL l))), ("vowels", .str (S (srtL v))), ("consonants", .str (S (consL l v)))]) = H8 at k8 ha8
    -- signs
    refine ⟨C, mc, _, _, rfl, AV.rd, AV.joint, _, rfl, a, C, dx, _, _, rfl, ha8, A.cl, A.nL, rfl, _, _, rfl, rfl, ?_, _, rfl, a, C, dx, _, rfl, ha8, A.cl, A.nS, (by show 3 < 1000; decide), ?_⟩
    · refine sz4 ?_
      rw [S_len, srtL_len]
      have : (PySem.Str.ofString "-").length = 1 := by decide +kernel
      omega
    have e4 : PySem.Str.ofString "-" ++ S (srtL l) = S (45 :: srtL l) := by
      have : PySem.Str.ofString "-" = S [45] := by decide +kernel
      rw [this, S_app]
      rfl
    rw [e4, put4]
    exact kq hdue _ ⟨dx, upd_same⟩ (k8.trans (Kp.upd a H8 _))
end
end Vk
set_option Elab.async false
set_option linter.all false
set_option maxRecDepth 100000
set_option maxHeartbeats 4000000
namespace NSet
open PySem PySem.Spec PyProof.Rows L2
/-! X28: sets of tuples of whole numbers and texts -/
/-- a cell of a tuple: a number or a text -/
abbrev Cell := Int ⊕ Str
def cell : Cell → NestedKey
  | .inl i => .num i
  | .inr x => .text x
def nk (k : List Cell) : NestedKey := .tup (k.map cell)
theorem cell_inj {a b : Cell} (h : cell a = cell b) : a = b := by
  cases a <;> cases b <;> simp only [cell, NestedKey.num.injEq, NestedKey.text.injEq, reduceCtorEq] at h <;> rw [h]
theorem nk_inj {a b : List Cell} (h : nk a = nk b) : a = b := by
  unfold nk at h
  exact List.map_inj_right (fun _ _ e => cell_inj e) |>.mp (NestedKey.tup.inj h)
theorem depth_cells : ∀ k : List Cell, NestedKey.depthAll (k.map cell) = 0
  | [] => rfl
  | .inl _ :: k => by
    show max 0 (NestedKey.depthAll (k.map cell)) = 0
    rw [depth_cells k]
    rfl
  | .inr _ :: k => by
    show max 0 (NestedKey.depthAll (k.map cell)) = 0
    rw [depth_cells k]
    rfl
theorem depth_nk (k : List Cell) : (nk k).depth ≤ 1 := by
  unfold nk
  simp only [NestedKey.depth, depth_cells]
  omega
/-- the tuple at a has the cells k -/
def At (h : Heap) (k : List Cell) (a : Addr) : Prop := NestedIs h (nk k) (.ref a)
theorem At.obj {h : Heap} {k : List Cell} {a : Addr} (x : At h k a) : ∃ (o : Obj) (vs : Array Value) (n : Nat), h.get? a = some o ∧ o.cls = .type "tuple" ∧ o.data = .seq vs n ∧ NestedAll h (k.map cell) vs.toList := by
  unfold At nk at x
  cases x with
  | tup h1 h2 h3 h4 => exact ⟨_, _, _, h1, h2, h3, h4⟩
theorem At.one {h : Heap} {k k' : List Cell} {a : Addr} (x : At h k a) (y : At h k' a) : k = k' := nk_inj (NestedIs.inj _ _ _ x y)
theorem At.on {h h' : Heap} {k : List Cell} {a : Addr} (x : At h k a) (hk : ∀ b o vs n, h.get? b = some o → o.data = .seq vs n → h'.get? b = some o) : At h' k a := NestedIs.at hk _ _ x
theorem At.wide {h h' : Heap} {k : List Cell} {a : Addr} (x : At h k a) (hk : ∀ b o, h.get? b = some o → h'.get? b = some o) : At h' k a := x.on fun b o _ _ e _ => hk b o e
theorem At.past {h h' : Heap} {k : List Cell} {a d : Addr} {o : Obj} {es : Array (Int × Value)} {ep : Nat} {t : SetTable} (x : At h k a) (ho : h.get? d = some o) (hd : o.data = .set es ep t) (hs : Heap.SameBut d h h') : At h' k a :=
  x.on fun b u vs n e c => (hs.2 b fun z => by
    rw [z, ho] at e
    rw [← Option.some.inj e, hd] at c
    cases c).trans e
/-- what is asked of the cells -/
theorem cells_told {h : Heap} : ∀ {k : List Cell} {vs : List Value}, NestedAll h (k.map cell) vs → ∀ v ∈ vs, (∀ n, ofAClassStatement n v = pure false) ∧ ∃ b, ∀ n, hashByValue n v = pure b
  | [], _, .nil, v, hv => by cases hv
  | c :: k, _, .cons x xs, v, hv => by
    rcases List.mem_cons.mp hv with e | hv
    · subst e
      cases c with
      | inl i =>
        change NestedIs h (.num i) v at x
        cases x with
        | bool _ => exact ⟨fun n => by cases n <;> rfl, true, fun n => by cases n <;> rfl⟩
        | int _ t => exact ⟨fun n => by cases n <;> rfl, true, fun n => by cases n <;> rfl⟩
      | inr y =>
        change NestedIs h (.text y) v at x
        cases x with
        | text _ t => exact ⟨fun n => by cases n <;> rfl, false, fun n => by cases n <;> rfl⟩
    · exact cells_told xs v hv
section
variable {P : Program} {w : World} {A : Around} {E : Value → Shared → Prop} {s : Shared}
theorem At.noClass {k : List Cell} {a : Addr} {Q : Bool → Shared → Prop} (x : At s.heap k a) (h : Q false s) : wpAny (model P w) A (ofAClassStatement 8 (.ref a)) Q E s := by
  obtain ⟨o, vs, n, ho, hc, hd, hv⟩ := x.obj
  have told := cells_told hv
  have hT : s.TypeIs (.ref a) "tuple" := ⟨o, ho, hc⟩
  unfold ofAClassStatement
  refine wpAny_bind (wpAny_typeOf hT ?_)
  have et : (("tuple" : String) == "tuple") = true := by decide
  simp only [et, if_true]
  refine wpAny_bind (wpAny_pure ?_)
  refine wp_if_neg (by decide) ?_
  try refine wpAny_bind (wpAny_pure ?_)
  refine wpAny_bind (wpAny_seqItems ho hd ?_)
  refine wpAny_bind ?_
  show wpAny _ _ (forIn vs _ _) _ _ s
  rw [← Array.forIn_toList]
  refine wpAny_forIn_list _ (fun rest r s' => r.1 = none ∧ s' = s ∧ ∀ v ∈ rest, v ∈ vs.toList) _ ?_ ?_ _ _ ⟨rfl, rfl, fun _ h => h⟩
  · rintro v rest r s' ⟨hr, rfl, hall⟩
    rw [(told v (hall v List.mem_cons_self)).1]
    refine wpAny_bind (wpAny_pure ?_)
    refine wp_if_neg (by decide) ?_
    exact wpAny_pure ⟨rfl, rfl, fun u hu => hall u (List.mem_cons_of_mem _ hu)⟩
  · rintro ⟨r1, r2⟩ s' ⟨hr, rfl, _⟩
    simp only at hr
    subst hr
    exact wpAny_pure h
/-- whether the hash is by value: either answer will do -/
theorem At.byVal {k : List Cell} {a : Addr} {Q : Bool → Shared → Prop} (x : At s.heap k a) (h : ∀ b, Q b s) : wpAny (model P w) A (hashByValue 8 (.ref a)) Q E s := by
  obtain ⟨o, vs, n, ho, hc, hd, hv⟩ := x.obj
  have told := cells_told hv
  have hT : s.TypeIs (.ref a) "tuple" := ⟨o, ho, hc⟩
  unfold hashByValue
  refine wpAny_bind (wpAny_specialOf hT F.slot_tuple_hash.lookup ?_)
  show wpAny _ _ (seqItems? (.ref a) >>= _) _ _ s
  refine wpAny_bind (wpAny_seqItems ho hd ?_)
  refine wpAny_bind ?_
  show wpAny _ _ (forIn vs _ _) _ _ s
  rw [← Array.forIn_toList]
  refine wpAny_forIn_list _ (fun rest r s' => r.1 = none ∧ s' = s ∧ ∀ v ∈ rest, v ∈ vs.toList) _ ?_ ?_ _ _ ⟨rfl, rfl, fun _ h => h⟩
  · rintro v rest r s' ⟨hr, rfl, hall⟩
    obtain ⟨b, hb⟩ := (told v (hall v List.mem_cons_self)).2
    rw [hb]
    refine wpAny_bind (wpAny_pure ?_)
    cases b with
    | true =>
      refine wp_if_neg (by decide) ?_
      exact wpAny_pure ⟨rfl, rfl, fun u hu => hall u (List.mem_cons_of_mem _ hu)⟩
    | false =>
      refine wp_if_pos (by decide) ?_
      exact wpAny_pure (wpAny_pure (h false))
  · rintro ⟨r1, r2⟩ s' ⟨hr, rfl, _⟩
    simp only at hr
    subst hr
    exact wpAny_pure (h true)
theorem At.depth8 {h : Heap} {k : List Cell} {a : Addr} (x : At h k a) : (nestedKind P w).is h (nk k) a := ⟨x, Nat.le_trans (depth_nk k) (by decide)⟩
abbrev hsh (w : World) (k : List Cell) : Int := (nk k).hash w
theorem At.hashed {k : List Cell} {a : Addr} {Q : Int → Shared → Prop} (hu : A.units + 8 < cLine) (x : At s.heap k a) (h : ∀ n, Q (hsh w k) { s with toks := s.toks + n }) : wpAny (model P w) A (PySem.pyHash (.ref a)) Q E s :=
  (nestedKind P w).pyHash hu x.depth8 (h _)
theorem At.equal {k k' : List Cell} {a b : Addr} {Q : Bool → Shared → Prop} (hu : A.units + 8 < cLine) (x : At s.heap k a) (y : At s.heap k' b) (h : Q (decide (k = k')) s) : wpAny (model P w) A (PySem.eqBool (.ref a) (.ref b)) Q E s := by
  refine (nestedKind P w).eqBool hu x.depth8 y.depth8 ?_
  have e : decide (nk k = nk k') = decide (k = k') := by
    by_cases z : k = k'
    · rw [z, decide_eq_true rfl, decide_eq_true rfl]
    · rw [decide_eq_false z, decide_eq_false fun q => z (nk_inj q)]
  rw [e]
  exact h
theorem At.still {k : List Cell} {a : Addr} {Q : Bool → Shared → Prop} (x : At s.heap k a) (h : Q true s) : wpAny (model P w) A (eqIsQuiet 8 (.ref a)) Q E s := (nestedKind P w).quiet x.depth8 h
/-- the search shows nothing -/
theorem unseen {k : List Cell} {a : Addr} {Q : Bool → Shared → Prop} (x : At s.heap k a) {ys : List Value} (hy : ∀ y ∈ ys, ∃ k' c, y = Value.ref c ∧ At s.heap k' c) (h : Q false s) : wpAny (model P w) A (searchCouldBeSeen (.ref a) ys) Q E s := by
  unfold searchCouldBeSeen
  refine wpAny_bind (wpAny_forIn_list _ (fun rest r s' => r.1 = none ∧ s' = s ∧ ∀ y ∈ rest, y ∈ ys) _ (fun v rest r s' hI => ?_) (fun r s' hI => ?_) _ _ ⟨rfl, rfl, fun _ h => h⟩)
  · obtain ⟨hr, rfl, hall⟩ := hI
    obtain ⟨k', c, rfl, hc⟩ := hy v (hall v List.mem_cons_self)
    have rest' : ∀ y ∈ rest, y ∈ ys := fun u hu => hall u (List.mem_cons_of_mem _ hu)
    dsimp only
    by_cases hv : (a == c || (carriedByValue (.ref a) && carriedByValue (.ref c))) = true
    · exact wp_if_pos hv (wpAny_pure ⟨rfl, rfl, rest'⟩)
    refine wp_if_neg hv (wpAny_bind (x.still ?_))
    refine wp_if_neg (by decide) (wpAny_bind (hc.still ?_))
    refine wp_if_neg (by decide) (wpAny_bind (x.noClass ?_))
    refine wp_if_neg (by decide) (wpAny_bind (hc.noClass ?_))
    exact wp_if_neg (by decide) (wpAny_pure ⟨rfl, rfl, rest'⟩)
  · obtain ⟨r1, r2⟩ := r
    obtain ⟨hr, rfl, _⟩ := hI
    simp only at hr
    subst hr
    exact wpAny_pure h
end
end NSet
set_option Elab.async false
set_option linter.all false
set_option maxRecDepth 100000
set_option maxHeartbeats 4000000
namespace NSet
open PySem PySem.Spec PyProof.Rows L2
/-! X29: the search of a set of such tuples -/
/-- where a search stands after c steps -/
abbrev St (t : SetTable) (h : Int) (c : Nat) : SetTable.Probe := nth t.mask (runAt t.mask (SetTable.bits h % (t.mask + 1)) (SetTable.bits h)) c
theorem nth_dummy (m : Nat) : ∀ (n : Nat) (p : SetTable.Probe), p.dummy = none → (nth m p n).dummy = none
  | 0, _, h => h
  | n + 1, p, h => nth_dummy m n _ (by
    unfold adv
    split <;> exact h)
/-- what a probe from the c-th step on tells, by the way's own count -/
theorem probe_from {t : SetTable} {hs : List Int} (T : TabOk t hs) (h : Int) (hat : Nat → Int) {K c : Nat} (hf : K < 10 * SetTable.turns t.mask) (hK : way t.mask h K ∉ t.place.toList) (hb : ∀ e, e < K → way t.mask h e ∈ t.place.toList) (hc : c ≤ K) :
    (∃ e i, c ≤ e ∧ e < K ∧ t.place.toList[i]? = some (way t.mask h e) ∧ hat i = h ∧ (∀ e' i', c ≤ e' → e' < e → t.place.toList[i']? = some (way t.mask h e') → hat i' ≠ h) ∧
      t.probe hat h (St t h c) = some (.candidate (way t.mask h e) i (St t h (e + 1)))) ∨
    ((∀ e' i', c ≤ e' → e' < K → t.place.toList[i']? = some (way t.mask h e') → hat i' ≠ h) ∧ t.probe hat h (St t h c) = some (.empty (way t.mask h K) none)) := by
  have go : ∀ q, nth t.mask (St t h c) q = St t h (c + q) := fun q => (nth_add t.mask c _ q).symm
  have goj : ∀ q, (nth t.mask (St t h c) q).j = way t.mask h (c + q) := fun q => congrArg SetTable.Probe.j (go q)
  have back : c + (K - c) = K := by omega
  rcases go_spec t T.ris T.dm hat h (10 * SetTable.turns t.mask) (K - c) (St t h c) (nth_dummy _ _ _ rfl) (by omega) (fun q hq => goj q ▸ hb _ (by omega)) (by rw [goj, back]; exact hK) with ⟨q, i, h1, h2, h3, h4, h5⟩ | ⟨h4, h5⟩
  · rw [goj] at h2
    refine .inl ⟨c + q, i, by omega, by omega, h2, h3, fun e' i' a1 a2 a3 => h4 (e' - c) i' (by omega) (by rw [goj, show c + (e' - c) = e' by omega]; exact a3), ?_⟩
    rw [goj, go, ← Nat.add_assoc] at h5
    exact h5
  · refine .inr ⟨fun e' i' a1 a2 a3 => h4 (e' - c) i' (by omega) (by rw [goj, show c + (e' - c) = e' by omega]; exact a3), ?_⟩
    rw [goj, back] at h5
    exact h5
/-- the set at a holds the tuples L -/
structure Tups (w : World) (h : Heap) (a : Addr) (L : List (Addr × List Cell)) (es : Array (Int × Value)) (ep : Nat) (t : SetTable) : Prop where
  obj : ∃ o, h.get? a = some o ∧ o.ExactSet ∧ o.data = .set es ep t
  row : es.toList = L.map fun p => (hsh w p.2, Value.ref p.1)
  tab : TabOk t (L.map fun p => hsh w p.2)
  dif : (L.map (·.2)).Nodup
  tup : ∀ p ∈ L, At h p.2 p.1
  led : w.params.followText "set-order" = true ∨ t.led = true
  gap : L.length * 5 < t.mask * 3
  few : L.length < 64
section
variable {P : Program} {w : World} {A : Around} {E : Value → Shared → Prop} {s : Shared} {a : Addr} {L : List (Addr × List Cell)} {es : Array (Int × Value)} {ep : Nat} {t : SetTable}
theorem Tups.count {h : Heap} (R : Tups w h a L es ep t) : es.size = L.length := by rw [← Array.length_toList, R.row, List.length_map]
theorem Tups.places {h : Heap} (R : Tups w h a L es ep t) : t.place.size = L.length := by rw [R.tab.sz, List.length_map]
theorem Tups.fit {h : Heap} (R : Tups w h a L es ep t) : t.fits es.size = true := by
  have h1 := R.places
  have h2 := R.count
  have h3 := R.gap
  unfold SetTable.fits SetTable.fill
  rw [R.tab.dm, Bool.and_eq_true, beq_iff_eq, decide_eq_true_eq]
  show t.place.size = es.size ∧ t.place.size + 0 ≤ t.mask
  omega
theorem Tups.cell {h : Heap} (R : Tups w h a L es ep t) {i : Nat} {p : Addr × List Cell} (hp : L[i]? = some p) : es[i]? = some (hsh w p.2, Value.ref p.1) := by
  rw [← Array.getElem?_toList, R.row, List.getElem?_map, hp]
  rfl
theorem Tups.kept {h : Heap} (R : Tups w h a L es ep t) : ¬ t.gaveWay = true := by
  unfold SetTable.gaveWay
  rw [mask_odd R.tab.mok]
  decide
theorem seek (R : Tups w s.heap a L es ep t) {x : Addr} {k : List Cell} (hx : At s.heap k x) (hu : A.units + 8 < cLine) {K : Nat} (hf : K < 10 * SetTable.turns t.mask) (hK : way t.mask (hsh w k) K ∉ t.place.toList) (hb : ∀ c, c < K → way t.mask (hsh w k) c ∈ t.place.toList)
    {Q : SetFound → Shared → Prop} (yes : k ∈ L.map (·.2) → Q (.there none) s) (no : k ∉ L.map (·.2) → Q (.free (way t.mask (hsh w k) K) false) s) :
    ∀ (f c : Nat) (stand : Option SetTable.Probe), stand.getD (t.probeStart (hsh w k)) = St t (hsh w k) c → c ≤ K → K - c < f →
      (∀ (i : Nat) p, L[i]? = some p → p.2 = k → ∃ e, c ≤ e ∧ e < K ∧ t.place.toList[i]? = some (way t.mask (hsh w k) e)) → wpAny (model P w) A (setSearchFrom a (.ref x) (hsh w k) true f stand) Q E s := by
  intro f
  induction f with
  | zero => intro c stand _ _ hlt; exact absurd hlt (Nat.not_lt_zero _)
  | succ f ih =>
    intro c stand hst hc hlt hre
    obtain ⟨o, ho, hex, hd⟩ := R.obj
    have hat : ∀ (i : Nat) p, L[i]? = some p → (fun i => (es[i]?.map (·.1)).getD 0) i = hsh w p.2 := fun i p hp => by
      show (es[i]?.map (·.1)).getD 0 = _
      rw [R.cell hp]
      rfl
    rw [setSearchFrom_succ]
    refine wpAny_bind (wpAny_setState_of ho hd R.fit ?_)
    dsimp only
    refine wp_if_neg R.kept ?_
    try refine wpAny_bind (wpAny_pure ?_)
    rw [hst]
    rcases probe_from R.tab (hsh w k) (fun i => (es[i]?.map (·.1)).getD 0) hf hK hb hc with ⟨e, i, h1, h2, h3, h4, h5, h6⟩ | ⟨h5, h6⟩
    · rw [h6]
      dsimp only
      have hi : i < L.length := by
        have := (List.getElem?_eq_some_iff.mp h3).1
        rw [Array.length_toList, R.places] at this
        exact this
      obtain ⟨p, hp⟩ : ∃ p, L[i]? = some p := ⟨_, List.getElem?_eq_getElem hi⟩
      have hm := List.mem_of_getElem? hp
      have live : t.slot (way t.mask (hsh w k) e) = .live i := slot_live R.tab.ris h3
      have on : wpAny (model P w) A (searchRest a (.ref x) (hsh w k) true f es t (way t.mask (hsh w k) e) i (St t (hsh w k) (e + 1))) Q E s := by
        unfold searchRest
        rw [R.cell hp]
        dsimp only
        refine wpAny_bind (wpAny_holding ((R.tup p hm).equal hu hx ?_))
        refine wpAny_bind (wpAny_setState_of ho hd R.fit ?_)
        dsimp only
        by_cases same : p.2 = k
        · exact wp_if_pos (by simp [same]) (wpAny_pure (yes (List.mem_map.mpr ⟨p, hm, same⟩)))
        · refine wp_if_neg (by simp [same]) ?_
          try refine wpAny_bind (wpAny_pure ?_)
          rw [sameMem]
          dsimp only
          simp only [if_true, live, R.cell hp]
          refine wpAny_bind (wpAny_isSame_ref_self (wpAny_bind (wpAny_pure ?_)))
          simp only [if_true]
          refine wp_if_neg (by simp [same]) (ih (e + 1) _ rfl (by omega) (by omega) fun i0 p0 g0 gk => ?_)
          obtain ⟨e0, a1, a2, a3⟩ := hre i0 p0 g0 gk
          refine ⟨e0, Nat.lt_of_le_of_ne (Nat.le_of_not_lt fun z => h5 e0 i0 a1 z a3 ((hat i0 p0 g0).trans (congrArg (hsh w) gk))) (fun z => ?_), a2, a3⟩
          rw [← z] at a3
          have l2 := slot_live R.tab.ris a3
          rw [live] at l2
          injection l2 with l2
          rw [← l2, hp] at g0
          exact same ((congrArg Prod.snd (Option.some.inj g0)).trans gk)
      by_cases hl : t.led = true
      · refine wp_if_neg (by simp [hl]) ?_
        try refine wpAny_bind (wpAny_pure ?_)
        exact on
      · refine wp_if_pos (by simp [hl]) (wpAny_bind (unseen hx (fun y hy => ?_) ?_))
        · obtain ⟨u, hu1, rfl⟩ := List.mem_map.mp hy
          have hu2 : u ∈ es.toList := by
            have : u ∈ es ∧ u.1 = hsh w k := by simpa using hu1
            simpa using this.1
          rw [R.row] at hu2
          obtain ⟨q, hq, rfl⟩ := List.mem_map.mp hu2
          exact ⟨q.2, q.1, rfl, R.tup q hq⟩
        · refine wp_if_neg (by decide) ?_
          try refine wpAny_bind (wpAny_pure ?_)
          exact on
    · rw [h6]
      dsimp only
      refine wpAny_pure (no fun hm => ?_)
      obtain ⟨p0, g0, gk⟩ := List.mem_map.mp hm
      obtain ⟨i0, hi0, ei⟩ := List.getElem_of_mem g0
      have g1 : L[i0]? = some p0 := by rw [List.getElem?_eq_getElem hi0, ei]
      obtain ⟨e0, a1, a2, a3⟩ := hre i0 p0 g1 gk
      exact h5 e0 i0 a1 a2 a3 ((hat i0 p0 g1).trans (congrArg (hsh w) gk))
end
end NSet
set_option Elab.async false
set_option linter.all false
set_option maxRecDepth 100000
set_option maxHeartbeats 4000000
namespace NSet
open PySem PySem.Spec PyProof.Rows L2
/-! X30: laying anew, adding -/
theorem all_of {α : Type} : ∀ L : List α, (List.range L.length).filterMap (fun i => L[i]?) = L
  | [] => rfl
  | x :: L => by
    rw [List.length_cons, List.range_succ_eq_map, List.filterMap_cons]
    show x :: _ = _
    rw [List.filterMap_map]
    exact congrArg (x :: ·) (all_of L)
theorem drawn_map {α β : Type} (L : List α) (f : α → β) (d : β) : ∀ l : List Nat, (∀ i ∈ l, i < L.length) → (l.filterMap fun i => L[i]?).map f = l.map fun i => ((L.map f)[i]?).getD d
  | [], _ => rfl
  | i :: l, h => by
    have hi := h i List.mem_cons_self
    have e : L[i]? = some L[i] := List.getElem?_eq_getElem hi
    rw [List.filterMap_cons, e]
    show f L[i] :: _ = _
    rw [List.map_cons, List.getElem?_map, e, drawn_map L f d l fun j hj => h j (List.mem_cons_of_mem _ hj)]
    rfl
theorem ordered {w : World} {L : List (Addr × List Cell)} {es : Array (Int × Value)} {order : Array Nat} (row : es.toList = L.map fun p => (hsh w p.2, Value.ref p.1)) (hp : order.toList.Perm (List.range L.length)) :
    ∃ L2 : List (Addr × List Cell), (order.filterMap (es[·]?)).toList = L2.map (fun p => (hsh w p.2, Value.ref p.1)) ∧ L2.Perm L ∧ L2.map (fun p => hsh w p.2) = order.toList.map fun i => (es.map (·.1)).getD i 0 := by
  have hb : ∀ i ∈ order.toList, i < L.length := fun i hi => List.mem_range.mp (hp.mem_iff.mp hi)
  refine ⟨order.toList.filterMap fun i => L[i]?, ?_, ?_, ?_⟩
  · rw [Array.toList_filterMap, List.map_filterMap]
    refine congrArg (fun g => List.filterMap g order.toList) (funext fun i => ?_)
    rw [← Array.getElem?_toList, row, List.getElem?_map]
  · have := hp.filterMap fun i => L[i]?
    rwa [all_of] at this
  · rw [drawn_map L (fun p => hsh w p.2) 0 _ hb]
    refine List.map_congr_left fun i hi => ?_
    have hl := hb i hi
    have e : L[i]? = some L[i] := List.getElem?_eq_getElem hl
    have e2 : (es.map (·.1))[i]? = some (hsh w L[i].2) := by
      rw [← Array.getElem?_toList, Array.toList_map, row, List.map_map, List.getElem?_map, e]
      rfl
    rw [List.getElem?_map, e, Array.getD_eq_getD_getElem?, e2]
    rfl
section
variable {P : Program} {w : World} {A : Around} {E : Value → Shared → Prop} {s : Shared} {a : Addr} {L : List (Addr × List Cell)} {es : Array (Int × Value)} {ep : Nat} {t : SetTable}
theorem relay {o : Obj} (ho : s.heap.get? a = some o) (hex : o.ExactSet) (hd : o.data = .set es ep t) (row : es.toList = L.map fun p => (hsh w p.2, Value.ref p.1)) (pl : t.place.size = es.size) (dm : t.dummies = #[]) (le : es.size ≤ t.mask)
    (dif : (L.map (·.2)).Nodup) (tup : ∀ p ∈ L, At s.heap p.2 p.1) (led : w.params.followText "set-order" = true ∨ t.led = true) (few : L.length < 64) {wanted M : Nat} (hw : SetTable.sizeAbove wanted - 1 = M) (hM : MaskOk M) (hw2 : SetTable.sizeAbove wanted ≤ 128)
    (hn : L.length * 5 < M * 3) {Q : Unit → Shared → Prop} (hQ : ∀ h' L' es' ep' t', Heap.SameBut a s.heap h' → Tups w h' a L' es' ep' t' → L'.Perm L → Q () { s with heap := h' }) : wpAny (model P w) A (setRelay a wanted) Q E s := by
  have cnt : es.size = L.length := by rw [← Array.length_toList, row, List.length_map]
  have fit : t.fits es.size = true := by
    unfold SetTable.fits SetTable.fill
    rw [dm, Bool.and_eq_true, beq_iff_eq, decide_eq_true_eq]
    show t.place.size = es.size ∧ t.place.size + 0 ≤ t.mask
    omega
  obtain ⟨t', order, re, hp, T, em, el, _, _⟩ := relaid_ok t (hs := es.map (·.1)) (wanted := wanted) hw hM (by rw [Array.size_map]; omega)
  rw [Array.size_map, cnt] at hp
  obtain ⟨L2, r1, r2, r3⟩ := ordered row hp
  rw [← r3] at T
  have cnt2 : (order.filterMap (es[·]?)).size = L.length := by rw [← Array.length_toList, r1, List.length_map, r2.length_eq]
  have sb : Heap.SameBut a s.heap (s.heap.update a (Obj.putSet (order.filterMap (es[·]?)) t')) := Heap.SameBut.update ..
  rw [setRelay_eq]
  refine wpAny_bind (wpAny_setState_of ho hd fit ?_)
  dsimp only
  refine wp_if_neg (by rw [sizeLine_eq]; omega) ?_
  try refine wpAny_bind (wpAny_pure ?_)
  rw [re]
  dsimp only
  refine wpAny_bind (wp_if_neg (by rw [cnt2, cnt]; simp) ?_)
  try refine wpAny_bind (wpAny_pure ?_)
  refine wpAny_pure ?_
  dsimp only
  refine wpAny_storeSet_of ho hd (hQ _ L2 (order.filterMap (es[·]?)) (ep + 1) t' sb ?_ r2) (by rw [cnt2, sizeLine_eq]; omega)
  exact { obj := ⟨_, store_at ho hd, ⟨hex.1, hex.2.1, hex.2.2⟩, rfl⟩, row := r1, tab := T, dif := (r2.map (·.2)).nodup_iff.mpr dif, tup := fun p hm => (tup p (r2.mem_iff.mp hm)).past ho hd sb, led := by rw [el]; exact led, gap := by rw [r2.length_eq, em]; exact hn, few := by rw [r2.length_eq]; exact few }
theorem asked {t : SetTable} {k : List Cell} {x : Addr} (hx : At s.heap k x) {F : Bool → Sem Bool} {Q : Bool → Shared → Prop} (h : ∀ b, wpAny (model P w) A (F b) Q E s) : wpAny (model P w) A (if t.plain = true then hashByValue 8 (.ref x) >>= F else pure true >>= F) Q E s := by
  by_cases hp : t.plain = true
  · exact wp_if_pos hp (wpAny_bind (hx.byVal h))
  · exact wp_if_neg hp (wpAny_bind (wpAny_pure (h true)))
theorem put_in (R : Tups w s.heap a L es ep t) {x : Addr} {k : List Cell} (hx : At s.heap k x) (hu : A.units + 8 < cLine) (more : L.length + 1 < 64) {Q : Bool → Shared → Prop}
    (hQ : ∀ b h' L' es' ep' t', Heap.SameBut a s.heap h' → Tups w h' a L' es' ep' t' → (k ∈ L.map (·.2) → L' = L) → (k ∉ L.map (·.2) → L'.Perm ((x, k) :: L)) → Q b { s with heap := h' }) :
    wpAny (model P w) A (setAddHashed a (.ref x) (hsh w k)) Q E s := by
  obtain ⟨o, ho, hex, hd⟩ := R.obj
  have cnt := R.count
  have gap := R.gap
  obtain ⟨K, hf, hK, hb⟩ := R.tab.first (by rw [List.length_map]; omega) (hsh w k)
  have big : K < 100000 := by
    have : 10 * SetTable.turns t.mask ≤ 1420 := by
      unfold SetTable.turns
      rcases R.tab.mok with e | e | e <;> omega
    omega
  have pass : ∀ (i : Nat) p, L[i]? = some p → p.2 = k → ∃ e, 0 ≤ e ∧ e < K ∧ t.place.toList[i]? = some (way t.mask (hsh w k) e) := fun i p hp hk => by
    have h1 : (L.map fun p => hsh w p.2)[i]? = some (hsh w k) := by rw [List.getElem?_map, hp, ← hk]; rfl
    have h2 : i < t.place.toList.length := by
      rw [Array.length_toList, R.places]
      exact (List.getElem?_eq_some_iff.mp hp).1
    obtain ⟨e, he, ee⟩ := R.tab.before hK h1 (List.getElem?_eq_getElem h2)
    exact ⟨e, Nat.zero_le _, he, by rw [List.getElem?_eq_getElem h2, ee]⟩
  unfold setAddHashed
  refine wpAny_holding ?_
  rw [show (100000 : Nat) = 99999 + 1 from rfl, setAddHashedIn_succ]
  refine wpAny_bind (wpAny_setState_of ho hd R.fit ?_)
  dsimp only
  refine wp_if_neg (by simp [byScan, Value.scannable]) ?_
  try refine wpAny_bind (wpAny_pure ?_)
  refine wpAny_bind ?_
  unfold setSearch
  refine seek R hx hu hf hK hb (fun hm => ?_) (fun hm => ?_) 100000 0 none rfl (Nat.zero_le _) (by omega) pass
  · dsimp only
    exact wpAny_pure (hQ false s.heap L es ep t (Heap.SameBut.refl a s.heap) R (fun _ => rfl) fun z => absurd hm z)
  dsimp only
  refine wpAny_bind (wpAny_setState_of ho hd R.fit ?_)
  dsimp only
  obtain ⟨q1, q2, q3, q4, q5, _, _, _, q9⟩ := R.tab.put hK hb
  generalize hpt : t.put (way t.mask (hsh w k) K) = pt at q1 q3 q4 q5 q9 ⊢
  obtain ⟨t1, p⟩ := pt
  dsimp only at q1 q3 q4 q5 q9 ⊢
  refine asked (t := t1) hx fun bv => ?_
  have two : (if bv = true then t1 else { t1 with plain := false }) = t1 ∨ (if bv = true then t1 else { t1 with plain := false }) = { t1 with plain := false } := by
    cases bv
    · exact .inr rfl
    · exact .inl rfl
  generalize (if bv = true then t1 else { t1 with plain := false }) = t2 at two ⊢
  have T2 : TabOk t2 ((L.map fun p => hsh w p.2).take (SetTable.below t.place (way t.mask (hsh w k) K)) ++ hsh w k :: (L.map fun p => hsh w p.2).drop (SetTable.below t.place (way t.mask (hsh w k) K))) := by
    rcases two with e | e
    · rw [e]; exact q3
    · rw [e]; exact ⟨q3.ris, q3.dm, q3.sz, q3.mok, q3.bd, q3.reach⟩
  have m2 : t2.mask = t.mask := by rcases two with e | e <;> rw [e] <;> exact q4
  have l2 : t2.led = t.led := by rcases two with e | e <;> rw [e] <;> exact q5
  have f2 : t2.fill = (L.map fun p => hsh w p.2).length + 1 := by rcases two with e | e <;> rw [e] <;> exact q9
  clear two q3 q4 q5 q9 hpt
  subst q1
  generalize SetTable.below t.place (way t.mask (hsh w k) K) = p at q2 T2 ⊢
  rw [List.length_map] at q2 f2
  have row1 : (SetTable.insertAt es p (hsh w k, Value.ref x)).toList = (L.take p ++ (x, k) :: L.drop p).map fun p => (hsh w p.2, Value.ref p.1) := by
    rw [SetTable.toList_insertAt, R.row, List.map_append, List.map_cons, List.map_take, List.map_drop]
  have eT : (L.take p ++ (x, k) :: L.drop p).map (fun p => hsh w p.2) = (L.map fun p => hsh w p.2).take p ++ hsh w k :: (L.map fun p => hsh w p.2).drop p := by
    rw [List.map_append, List.map_cons, List.map_take, List.map_drop]
  rw [← eT] at T2
  have pm : (L.take p ++ (x, k) :: L.drop p).Perm ((x, k) :: L) := put_perm L p (x, k)
  have cnt1 : (SetTable.insertAt es p (hsh w k, Value.ref x)).size = L.length + 1 := by rw [← Array.length_toList, row1, List.length_map, pm.length_eq, List.length_cons]
  generalize SetTable.insertAt es p (hsh w k, Value.ref x) = es1 at row1 cnt1 ⊢
  generalize L.take p ++ (x, k) :: L.drop p = L1 at pm T2 row1
  have len1 : L1.length = L.length + 1 := pm.length_eq
  have sb : Heap.SameBut a s.heap (s.heap.update a (Obj.putSet es1 t2)) := Heap.SameBut.update ..
  have ho1 := store_at (es' := es1) (t' := t2) ho hd
  refine wpAny_bind (wpAny_storeSet_of ho hd ?_ (by rw [cnt1, sizeLine_eq]; omega))
  generalize s.heap.update a (Obj.putSet es1 t2) = h1 at sb ho1 ⊢
  have dif1 : (L1.map (·.2)).Nodup := (pm.map (·.2)).nodup_iff.mpr (List.nodup_cons.mpr ⟨hm, R.dif⟩)
  have tup1 : ∀ q ∈ L1, At h1 q.2 q.1 := fun q hq => by
    rcases List.mem_cons.mp (pm.mem_iff.mp hq) with e | hq
    · rw [e]; exact hx.past ho hd sb
    · exact (R.tup q hq).past ho hd sb
  have led1 : w.params.followText "set-order" = true ∨ t2.led = true := by rw [l2]; exact R.led
  have pl1 : t2.place.size = es1.size := by rw [T2.sz, List.length_map, len1, cnt1]
  by_cases full : t2.tooFull = true
  · refine wp_if_pos (by simp [full]) (wpAny_bind ?_)
    have lim : (L.length + 1) * 5 ≥ t.mask * 3 := by
      unfold SetTable.tooFull at full
      rw [decide_eq_true_eq, f2, m2] at full
      exact full
    have go : ∀ M, SetTable.sizeAbove (SetTable.grown (L.length + 1)) - 1 = M → MaskOk M → SetTable.sizeAbove (SetTable.grown (L.length + 1)) ≤ 128 → (L.length + 1) * 5 < M * 3 →
        wpAny (model P w) A (setRelay a (SetTable.grown (es.size + 1))) (fun _ s' => wpAny (model P w) A (pure true) Q E s') E { s with heap := h1 } := fun M g1 g2 g3 g4 => by
      rw [cnt]
      exact relay (s := { s with heap := h1 }) ho1 ⟨hex.1, hex.2.1, hex.2.2⟩ rfl row1 pl1 T2.dm (by rw [cnt1, m2]; omega) dif1 tup1 led1 (by rw [len1]; exact more) g1 g2 g3 (by rw [len1]; exact g4)
        fun h2 L2 es2 ep2 t3 sb2 R2 pm2 => wpAny_pure (hQ true h2 L2 es2 ep2 t3 (sb.trans sb2) R2 (fun z => absurd z hm) fun _ => pm2.trans pm)
    rcases R.tab.mok with e | e | e
    · have l4 : L.length = 4 := by omega
      exact go 31 (by rw [l4, size_20]) (.inr (.inl rfl)) (by rw [l4, size_20]; decide) (by omega)
    · have l18 : L.length = 18 := by omega
      exact go 127 (by rw [l18, size_76]) (.inr (.inr rfl)) (by rw [l18, size_76]; decide) (by omega)
    · omega
  · refine wp_if_neg (by simp [full]) (wpAny_pure (hQ true h1 L1 es1 (ep + 1) t2 sb ?_ (fun z => absurd z hm) fun _ => pm))
    have lim : ¬ (L.length + 1) * 5 ≥ t.mask * 3 := fun z => full (by
      unfold SetTable.tooFull
      rw [decide_eq_true_eq, f2, m2]
      exact z)
    exact { obj := ⟨_, ho1, ⟨hex.1, hex.2.1, hex.2.2⟩, rfl⟩, row := row1, tab := T2, dif := dif1, tup := tup1, led := led1, gap := by rw [len1, m2]; omega, few := by rw [len1]; exact more }
end
end NSet
set_option Elab.async false
set_option linter.all false
set_option maxRecDepth 100000
set_option maxHeartbeats 4000000
namespace NSet
open PySem PySem.Spec PyProof.Rows L2
/-! X31: a set filled from a walk -/
/-- L is what a set has of the first i of ks -/
structure Part (ks : List (Addr × List Cell)) (i : Nat) (L : List (Addr × List Cell)) : Prop where
  inn : ∀ p ∈ L, p ∈ ks.take i
  cov : ∀ p ∈ ks.take i, p.2 ∈ L.map (·.2)
  len : L.length ≤ i
theorem Part.next {ks L L' : List (Addr × List Cell)} {i : Nat} {x : Addr × List Cell} (g : Part ks i L) (hx : ks[i]? = some x) (c1 : x.2 ∈ L.map (·.2) → L' = L) (c2 : x.2 ∉ L.map (·.2) → L'.Perm (x :: L)) : Part ks (i + 1) L' := by
  have e : ks.take (i + 1) = ks.take i ++ [x] := take_next hx
  by_cases c : x.2 ∈ L.map (·.2)
  · rw [c1 c]
    refine ⟨fun p hp => by rw [e]; exact List.mem_append_left _ (g.inn p hp), fun p hp => ?_, Nat.le_succ_of_le g.len⟩
    rw [e] at hp
    rcases List.mem_append.mp hp with z | z
    · exact g.cov p z
    · rw [List.mem_singleton.mp z]; exact c
  · have pm := c2 c
    refine ⟨fun p hp => ?_, fun p hp => ?_, by rw [pm.length_eq, List.length_cons]; exact Nat.succ_le_succ g.len⟩
    · rw [e]
      rcases List.mem_cons.mp (pm.mem_iff.mp hp) with z | z
      · rw [z]; exact List.mem_append_right _ List.mem_cons_self
      · exact List.mem_append_left _ (g.inn p z)
    · rw [(pm.map (·.2)).mem_iff, List.map_cons]
      rw [e] at hp
      rcases List.mem_append.mp hp with z | z
      · exact List.mem_cons_of_mem _ (g.cov p z)
      · rw [List.mem_singleton.mp z]; exact List.mem_cons_self
section
variable {P : Program} {w : World} {A : Around} {E : Value → Shared → Prop} {s : Shared}
theorem Tups.later {h h' : Heap} {a : Addr} {L : List (Addr × List Cell)} {es : Array (Int × Value)} {ep : Nat} {t : SetTable} (R : Tups w h a L es ep t) (ha : ∀ o, h.get? a = some o → h'.get? a = some o) (ht : ∀ p ∈ L, At h' p.2 p.1) : Tups w h' a L es ep t := by
  obtain ⟨o, ho, r⟩ := R.obj
  exact { R with obj := ⟨o, ha o ho, r⟩, tup := ht }
theorem Tups.new {h : Heap} {a : Addr} (ho : h.get? a = some { cls := .type "set", dict := none, data := .set #[] 0 (.fresh 0 0 (!w.params.followText "set-order")) }) : Tups w h a [] #[] 0 (.fresh 0 0 (!w.params.followText "set-order")) where
  obj := ⟨_, ho, ⟨rfl, rfl, rfl⟩, rfl⟩
  row := rfl
  tab := ⟨List.Pairwise.nil, rfl, rfl, .inl rfl, (fun x hx => by cases hx), fun i h j hi => by simp at hi⟩
  dif := List.nodup_nil
  tup := fun p hp => nomatch hp
  led := by
    show _ ∨ (!w.params.followText "set-order") = true
    cases w.params.followText "set-order"
    · exact .inr rfl
    · exact .inl rfl
  gap := by show 0 * 5 < 7 * 3; decide
  few := by show 0 < 64; decide
theorem fill {I : Addr} {fp wr : List Addr} {G : Array GenState → Array GenState → Prop} {n : Nat} {Pv : Nat → Value → Prop} {St : Nat → Shared → Prop} {R : Result → Shared → Prop} (W : WalksS P w A.in1 I fp wr G n Pv St) (S : Addr) (nS : S ∉ fp)
    (ks : List (Addr × List Cell)) (hn : n = ks.length) (few : ks.length < 64) (hval : ∀ i v, Pv i v → ∃ p, ks[i]? = some p ∧ v = .ref p.1) (h0 : Heap) (hk : ∀ p ∈ ks, At h0 p.2 p.1) (hS0 : h0.get? S = none) (hw0 : ∀ b ∈ wr, h0.get? b = none)
    (hu : A.in1.units + 8 < cLine) : ∀ (j i : Nat) (s : Shared), n - i = j → i ≤ n → St i s → (∀ b o, h0.get? b = some o → s.heap.get? b = some o) → (∃ L es ep t, Tups w s.heap S L es ep t ∧ Part ks i L) →
      (∀ s' L es ep t, Moved (S :: wr) G s s' → Tups w s'.heap S L es ep t → Part ks n L → (∀ b o, h0.get? b = some o → s'.heap.get? b = some o) → R (.ok (.ret .none)) s') → codeAny (model P w) A (.builtin "set.update.loop" ⟨[.ref S, .ref I], []⟩) R s := by
  have nw : S ∉ wr := fun z => nS (W.sub _ z)
  have wide : ∀ b ∈ wr, b ∈ S :: wr := fun b hb => List.mem_cons_of_mem _ hb
  have old : ∀ {s s' : Shared}, Moved wr G s s' → (∀ b o, h0.get? b = some o → s.heap.get? b = some o) → ∀ b o, h0.get? b = some o → s'.heap.get? b = some o := fun m k b o e => m.heap b o (fun z => by rw [hw0 b z] at e; cases e) (k b o e)
  have carry : ∀ {s s' : Shared} {i : Nat} {L es ep t}, Moved wr G s s' → (∀ b o, h0.get? b = some o → s'.heap.get? b = some o) → Part ks i L → Tups w s.heap S L es ep t → Tups w s'.heap S L es ep t := fun m k g R => R.later (fun o e => m.heap S o nw e) fun p hp => (hk p (List.mem_of_mem_take (g.inn p hp))).wide k
  intro j
  induction j with
  | zero =>
    intro i s hj hi hst hkp ⟨L, es, ep, t, hS, g⟩ hR
    obtain rfl : i = n := by omega
    refine codeAny_builtin F.entry_set_update_loop ?_
    rw [Around.under_plainId F.plain_set_update_loop _]
    show wpAny _ A.in1 (pyNext (.ref I) >>= _) _ _ s
    refine wpAny_bind (W.done s _ _ hst fun s' m => ?_)
    have k' := old m hkp
    show wpAny _ A.in1 (ret Value.none) _ _ s'
    exact wpAny_pure (hR s' L es ep t (m.mono wide) (carry m k' g hS) g k')
  | succ j ih =>
    intro i s hj hi hst hkp ⟨L, es, ep, t, hS, g⟩ hR
    have lt : i < n := by omega
    refine codeAny_builtin F.entry_set_update_loop ?_
    rw [Around.under_plainId F.plain_set_update_loop _]
    show wpAny _ A.in1 (pyNext (.ref I) >>= _) _ _ s
    refine wpAny_bind (W.item i s _ _ lt hst fun v s' hP hst' m => ?_)
    obtain ⟨p, hp, rfl⟩ := hval i v hP
    have k' := old m hkp
    have hx : At s'.heap p.2 p.1 := (hk p (List.mem_of_getElem? hp)).wide k'
    have hS' := carry m k' g hS
    show wpAny _ A.in1 (holding [Value.ref p.1] (setAdd S (.ref p.1)) >>= _) _ _ s'
    refine wpAny_bind (wpAny_holding ?_)
    unfold setAdd
    refine wpAny_holding (wpAny_bind (hx.hashed hu fun dn => ?_))
    refine put_in (s := { s' with toks := s'.toks + dn }) hS' hx hu (by have := g.len; omega) fun b h2 L2 es2 ep2 t2 sb R2 c1 c2 => ?_
    have k2 : ∀ b o, h0.get? b = some o → h2.get? b = some o := fun b o e => (sb.2 b fun z => by rw [z, hS0] at e; cases e).trans (k' b o e)
    refine wpAny_pure ⟨plainId_quiet F.plain_set_update_loop _, ih (i + 1) _ (by omega) lt (W.frame _ s' _ _ hst' (Nat.le_add_right _ _) fun b hb o e => ?_) k2 ⟨L2, es2, ep2, t2, R2, g.next hp c1 c2⟩ fun s3 L3 es3 ep3 t3 m3 R3 g3 k3 => ?_⟩
    · rw [sb.2 b fun z : b = S => nS (z ▸ hb)]
      exact e
    · refine hR s3 L3 es3 ep3 t3 (Moved.trans W.gtrans ((m.mono wide).then_heap (Nat.le_add_right _ _) fun b o hb e => ?_) m3) R3 g3 k3
      rw [sb.2 b fun z : b = S => hb (z ▸ List.mem_cons_self)]
      exact e
end
end NSet
set_option Elab.async false
set_option linter.all false
set_option maxRecDepth 100000
set_option maxHeartbeats 4000000
namespace NSet
open PySem PySem.Spec PyProof.Rows L2
/-! X32: set(list of such tuples) -/
section
variable {P : Program} {w : World} {A : Around} {E : Value → Shared → Prop} {s : Shared}
/-- a set just made -/
abbrev blank (w : World) : Obj := { cls := .type "set", dict := none, data := .set #[] 0 (.fresh 0 0 (!w.params.followText "set-order")) }
theorem beyond {h : Heap} {b : Addr} (hb : h.objs.size ≤ b) : h.get? b = none := by
  cases e : h.get? b with
  | none => rfl
  | some o => exact absurd (Heap.lt_size e) (Nat.not_lt.mpr hb)
theorem set_of {l : Addr} {items : Array Value} (ks : List (Addr × List Cell)) {Q : Value → Shared → Prop} (hh : A.handled = none) (hl : s.heap.IsList l items) (hit : items.toList = ks.map fun p => Value.ref p.1) (hk : ∀ p ∈ ks, At s.heap p.2 p.1)
    (few : ks.length < 64) (hu : A.units + 3 + 8 < cLine)
    (out : ∀ (h' : Heap) (tk : Nat) L es ep t, Tups w h' s.heap.objs.size L es ep t → Part ks ks.length L → (∀ b o, s.heap.get? b = some o → h'.get? b = some o) → Q (.ref s.heap.objs.size) { s with heap := h', toks := tk }) :
    wpAny (model P w) A (call (.type "set") [.ref l]) Q E s := by
  have cnt : items.size = ks.length := by rw [← Array.length_toList, hit, List.length_map]
  obtain ⟨c, tl, hmro⟩ := F.called_set.mro
  have hmade := F.called_set.made
  have hsub := F.called_set.sub
  refine wpAny_call (codeAny_of_tree ?_)
  show wpAny _ _ (callAny (.type "set") _) _ _ _
  refine wpAny_pure ⟨Code.quiet_builtin _ (by decide +kernel), codeAny_builtin F.entry_type_call ?_⟩
  rw [Around.under_plain (weight_type_call_type "set" [.ref l] []) rfl]
  have h1 := F.called_set.notType
  have h2 := F.called_set.canCreate
  have hct := F.typeCall_set_1 (.ref l)
  repeat (any_goals (first | assumption | wp_step))
  refine codeAny_mono (code_set_led1 (.ref l) (E := E) (Q₁ := fun ob s₁ => ob = .ref s.heap.objs.size ∧ s₁ = { s with heap := s.heap.push (blank w) }) ⟨rfl, rfl⟩) fun r s₁ hr => ?_
  match r, hr with
  | .error e, hr => exact hr
  | .ok (.ret ob), hr =>
    obtain ⟨rfl, rfl⟩ := hr
    have hS : (s.heap.push (blank w)).get? s.heap.objs.size = some (blank w) := Heap.get?_push_size _ rfl
    have hT : Shared.TypeIs { s with heap := s.heap.push (blank w) } (.ref s.heap.objs.size) "set" := ⟨_, hS, rfl⟩
    have hli := F.called_set.init.lookup
    have hbi := F.called_set.init.bind (.ref s.heap.objs.size)
    repeat (any_goals (first | assumption | wp_step))
    refine codeAny_mono (codeAny_call_builtin (R := wants (fun r s₂ => r = .none ∧ ∃ h' tk L es ep t, s₂ = { s with heap := h', toks := tk } ∧ Tups w h' s.heap.objs.size L es ep t ∧ Part ks ks.length L ∧ (∀ b o, s.heap.get? b = some o → h'.get? b = some o)) E) F.called_set.init.plain F.entry_set_init (check_set_init_1 hT ?_)) fun r₂ s₂ hr₂ => ?_
    · obtain ⟨ol, hol, hcl, nl, hdl⟩ := hl
      obtain ⟨ocls, odict, odata, oslots⟩ := ol
      simp only at hcl hdl
      subst hcl hdl
      have hol' : (s.heap.push (blank w)).get? l = some { cls := .type "list", dict := odict, data := .seq items nl, slots := oslots } := Heap.get?_push_of_some _ hol
      have hsls := F.sub_list_set
      have hslf := F.sub_list_frozenset
      have hne : (Value.type "list" == Value.type "dict") = false := by decide
      have hl1 : (s.heap.push (blank w)).IsList l items := ⟨_, hol', rfl, nl, rfl⟩
      have ll : l < s.heap.objs.size := Heap.lt_size hol
      have hz : (s.heap.push (blank w)).objs.size = s.heap.objs.size + 1 := Heap.size_push ..
      unfold Builtin.«set.__init__» noKeywords Builtin.Frozenset.updateFrom
      generalize hPI : pyIter = PI
      wp_walk
      subst hPI
      refine wpAny_pyIter_list hl1 (wpAny_bind (wpAny_runValue ?_))
      have hh3 : A.in1.in1.in1.handled = none := by simp [hh]
      refine fill ((Walks.list hh3 _ l (by rw [hz]; exact Nat.ne_of_lt (Nat.lt_succ_of_lt ll)) items).toS) s.heap.objs.size ?f1 ks cnt few (fun i v hv => ?f2) s.heap hk (beyond (Nat.le_refl _)) (fun b hb => ?f3) hu (items.size - 0) 0 _ rfl (Nat.zero_le _) ⟨⟨_, Heap.get?_push_size _ rfl, rfl, rfl⟩, hl1.push _⟩
        (fun b o e => Heap.get?_push_of_some _ (Heap.get?_push_of_some _ e)) ⟨[], #[], 0, _, Tups.new (Heap.get?_push_of_some _ hS), ⟨(fun p hp => by cases hp), (fun p hp => by rw [List.take_zero] at hp; cases hp), Nat.le_refl _⟩⟩ fun s' L es ep t m R g k => ?f4
      case f1 =>
        rw [hz]
        simp only [List.mem_cons, List.mem_singleton, List.not_mem_nil, or_false, not_or]
        exact ⟨Nat.ne_of_lt (Nat.lt_succ_self _), Nat.ne_of_gt ll⟩
      case f2 =>
        have q : (ks.map fun p => Value.ref p.1)[i]? = some v := by rw [← hit, Array.getElem?_toList]; exact hv
        rw [List.getElem?_map] at q
        obtain ⟨p, hp, e⟩ := Option.map_eq_some_iff.mp q
        exact ⟨p, hp, e.symm⟩
      case f3 =>
        refine beyond ?_
        rw [List.mem_singleton.mp hb, hz]
        exact Nat.le_succ _
      case f4 =>
        obtain ⟨h', g2, d', tk', os'⟩ := s'
        obtain rfl : g2 = s.gens := m.gens
        obtain rfl : d' = s.drawn := m.drawn
        obtain rfl : os' = s.os := m.os
        rw [cnt] at g
        show wpAny _ _ _ _ _ _
        refine wpAny_pure ?_
        show wpAny _ _ (ret Value.none) _ _ _
        exact wpAny_pure ⟨rfl, h', tk', L, es, ep, t, rfl, R, g, k⟩
    · match r₂, hr₂ with
      | .error e, hr₂ => exact hr₂
      | .ok (.ret r), hr₂ =>
        obtain ⟨rfl, h', tk, L, es, ep, t, rfl, R, g, k⟩ := hr₂
        repeat (any_goals (first | assumption | wp_step))
        exact out _ _ _ _ _ _ R g k
end
end NSet
set_option Elab.async false
set_option linter.all false
set_option maxRecDepth 100000
set_option maxHeartbeats 4000000
namespace NSet
open PySem PySem.Spec PyProof.Rows L2
/-! X33: sorted of a set of such tuples -/
def vc : Cell → V
  | .inl i => .int i
  | .inr x => .str x
def kc : Cell → Int ⊕ List Nat
  | .inl i => .inl i
  | .inr x => .inr x.cps.toList
/-- what kind of cell stands where -/
def Shp (sh : Nat → Bool) : Nat → List Cell → Prop
  | _, [] => True
  | i, .inl _ :: r => sh i = false ∧ Shp sh (i + 1) r
  | i, .inr _ :: r => sh i = true ∧ Shp sh (i + 1) r
/-- the tuple itself, its cells as values -/
def Tup (h : Heap) (k : List Cell) (a : Addr) : Prop := ∃ (o : Obj) (its : Array Value) (n : Nat), h.get? a = some o ∧ o.cls = .type "tuple" ∧ o.data = .seq its n ∧ Vals (k.map vc) its.toList
theorem Tup.wide {h h' : Heap} {k : List Cell} {a : Addr} (x : Tup h k a) (hk : ∀ b o, h.get? b = some o → h'.get? b = some o) : Tup h' k a := by
  obtain ⟨o, its, n, ho, z⟩ := x
  exact ⟨o, its, n, hk _ _ ho, z⟩
theorem all_of_vals {h : Heap} : ∀ {k : List Cell} {us : List Value}, Vals (k.map vc) us → NestedAll h (k.map cell) us
  | [], _, .nil => .nil
  | .inl i :: k, _, .cons r t => by
    obtain ⟨tk, rfl⟩ := r
    exact .cons (.int i tk) (all_of_vals t)
  | .inr x :: k, _, .cons r t => by
    obtain ⟨tk, rfl⟩ := r
    exact .cons (.text x tk) (all_of_vals t)
theorem Tup.at {h : Heap} {k : List Cell} {a : Addr} (x : Tup h k a) : At h k a := by
  obtain ⟨o, its, n, ho, hc, hd, r⟩ := x
  exact .tup ho hc hd (all_of_vals r)
theorem items_vals {sh : Nat → Bool} : ∀ {k : List Cell} {i : Nat} {us : List Value}, Vals (k.map vc) us → Shp sh i k → tupItems sh i us = some (k.map kc)
  | [], _, _, .nil, _ => by simp [tupItems]
  | .inl n :: k, i, _, .cons r t, h => by
    obtain ⟨tk, rfl⟩ := r
    have e := items_vals t h.2
    rw [tupItems, if_neg (by rw [h.1]; exact Bool.false_ne_true), e]
    rfl
  | .inr x :: k, i, _, .cons r t, h => by
    obtain ⟨tk, rfl⟩ := r
    have e := items_vals t h.2
    rw [tupItems, if_pos h.1, e]
    rfl
theorem Tup.key {h : Heap} {sh : Nat → Bool} {k : List Cell} {a : Addr} (x : Tup h k a) (z : Shp sh 0 k) : G.tupKeyC h sh (.ref a) = some (k.map kc) := by
  obtain ⟨o, its, n, ho, hc, hd, r⟩ := x
  unfold G.tupKeyC
  have e1 : G.isTupObj h (.ref a) = true := by simp [G.isTupObj, ho, hc]
  rw [if_pos e1]
  simp only [tupKey, ho, hd]
  exact items_vals r z
theorem Tup.first {h : Heap} {sh : Nat → Bool} {k : List Cell} {a : Addr} (x : Tup h k a) (z : Shp sh 0 k) (ne : k ≠ []) : ∃ f, TupOf h sh (.ref a) f := by
  obtain ⟨o, its, n, ho, hc, hd, r⟩ := x
  obtain ⟨c, k, rfl⟩ := List.exists_cons_of_ne_nil ne
  have f0 : ∀ {u us}, its.toList = u :: us → its[0]? = some u := fun {u us} e => by
    rw [← Array.getElem?_toList, e]
    rfl
  generalize hits : its.toList = l at r f0
  cases c with
  | inl i =>
    cases r with
    | cons r1 rs =>
      obtain ⟨tk, rfl⟩ := r1
      exact ⟨_, a, o, its, n, rfl, ho, hc, hd, f0 rfl, fun _ => ⟨i, tk, rfl⟩, fun q => absurd (z.1.symm.trans q) Bool.false_ne_true⟩
  | inr y =>
    cases r with
    | cons r1 rs =>
      obtain ⟨tk, rfl⟩ := r1
      exact ⟨_, a, o, its, n, rfl, ho, hc, hd, f0 rfl, fun q => absurd (q.symm.trans z.1) Bool.false_ne_true, fun _ => ⟨y, tk, rfl⟩⟩
theorem firsts {h : Heap} {sh : Nat → Bool} : ∀ L : List (Addr × List Cell), (∀ p ∈ L, Tup h p.2 p.1 ∧ Shp sh 0 p.2 ∧ p.2 ≠ []) → ∃ fs, TupsOf h sh (L.map fun p => Value.ref p.1) fs
  | [], _ => ⟨[], .nil⟩
  | p :: L, hp => by
    obtain ⟨fs, hf⟩ := firsts L fun q hq => hp q (List.mem_cons_of_mem _ hq)
    obtain ⟨h1, h2, h3⟩ := hp p List.mem_cons_self
    obtain ⟨f, h4⟩ := h1.first h2 h3
    exact ⟨f :: fs, .cons h4 hf⟩
theorem unmap {α β : Type} (f : α → β) {l m : List β} (h : l.Perm m) : ∀ ps : List α, m = ps.map f → ∃ qs : List α, qs.Perm ps ∧ l = qs.map f := by
  induction h with
  | nil =>
    intro ps e
    cases ps with
    | nil => exact ⟨[], .refl _, rfl⟩
    | cons p r => cases e
  | cons x _ ih =>
    intro ps e
    cases ps with
    | nil => cases e
    | cons p r =>
      obtain ⟨e1, e2⟩ := List.cons.inj e
      obtain ⟨qs, h1, h2⟩ := ih r e2
      exact ⟨p :: qs, h1.cons p, by rw [List.map_cons, ← h2, e1]⟩
  | swap x y l =>
    intro ps e
    match ps, e with
    | a :: b :: r, e =>
      obtain ⟨e1, e2⟩ := List.cons.inj e
      obtain ⟨e3, e4⟩ := List.cons.inj e2
      exact ⟨b :: a :: r, .swap _ _ _, by rw [e1, e3, e4]; rfl⟩
  | trans _ _ ih1 ih2 =>
    intro ps e
    obtain ⟨q2, p2, e2⟩ := ih2 ps e
    obtain ⟨q1, p1, e1⟩ := ih1 q2 e2
    exact ⟨q1, p1.trans p2, e1⟩
/-- in the order of their keys -/
def InOrder (L : List (Addr × List Cell)) : Prop := L.Pairwise fun q r => lexLt itemOrd (r.2.map kc) (q.2.map kc) = false
theorem placed {h : Heap} {sh : Nat → Bool} {ps : List (Addr × List Cell)} (hp : ∀ q ∈ ps, G.tupKeyC h sh (.ref q.1) = some (q.2.map kc)) {arr : Array Keyed}
    (h1 : arr.Perm (pairsOf (ps.map fun q => Value.ref q.1))) (h2 : SortedToK (G.tupKindC h sh) arr (pairsOf (ps.map fun q => Value.ref q.1)).size) :
    ∃ qs : List (Addr × List Cell), qs.Perm ps ∧ InOrder qs ∧ (arr.map (·.2)).toList = qs.map fun q => Value.ref q.1 := by
  have e := Array.perm_iff_toList_perm.mp h1
  have ez : (pairsOf (ps.map fun q => Value.ref q.1)).toList = ps.map fun q => ((Value.ref q.1, Value.ref q.1) : Keyed) := by
    rw [pairsOf_toList]
    clear hp h1 h2 e
    induction ps with
    | nil => rfl
    | cons q r ih => rw [List.map_cons, List.zip_cons_cons, ih, List.map_cons]
  rw [ez] at e
  obtain ⟨qs, p1, e1⟩ := unmap _ e ps rfl
  refine ⟨qs, p1, ?_, ?_⟩
  · unfold InOrder
    rw [List.pairwise_iff_getElem]
    intro i j hi hj hij
    have hlen : (pairsOf (ps.map fun q => Value.ref q.1)).size = qs.length := by rw [pairsOf_size, List.length_map, p1.length_eq]
    have kk : ∀ (k : Nat) (hk : k < qs.length), KK (G.tupKindC h sh) arr k = qs[k].2.map kc := fun k hk => by
      have e2 : arr[k]? = some ((Value.ref qs[k].1, Value.ref qs[k].1) : Keyed) := by
        rw [← Array.getElem?_toList, e1, List.getElem?_map, List.getElem?_eq_getElem hk]
        rfl
      unfold KK
      rw [e2]
      show (G.tupKeyC h sh (.ref qs[k].1)).getD _ = _
      rw [hp _ (p1.mem_iff.mp (List.getElem_mem hk))]
      rfl
    have := h2 i j (Nat.le_of_lt hij) (by rw [hlen]; exact hj)
    rw [kk i hi, kk j hj] at this
    exact this
  · rw [Array.toList_map, e1, List.map_map]
    rfl
section
variable {P : Program} {w : World} {A : Around} {E : Value → Shared → Prop} {s : Shared} {a : Addr} {L : List (Addr × List Cell)} {es : Array (Int × Value)} {ep : Nat} {t : SetTable}
theorem sorted_set {Q : Value → Shared → Prop} (R : Tups w s.heap a L es ep t) (hh : A.handled = none) {sh : Nat → Bool} (hs : ∀ p ∈ L, Tup s.heap p.2 p.1 ∧ Shp sh 0 p.2 ∧ p.2 ≠ [])
    (res : ∀ s' p (out : Array Value) (c : Nat) L', (∀ b o, s.heap.get? b = some o → s'.heap.get? b = some o) → s'.gens = s.gens → s'.os = s.os → s.heap.objs.size ≤ p →
      s'.heap.get? p = some (seqObj "list" out c) → out.toList = L'.map (fun q => Value.ref q.1) → L'.Perm L → InOrder L' → Q (.ref p) s') :
    wpAny (model P w) A (call (.builtin "sorted") [.ref a]) Q E s := by
  obtain ⟨o, ho, hex, hd⟩ := R.obj
  have few := R.few
  have cnt := R.count
  refine Calls.call_function_entry kind_sorted plain_sorted entry_sorted (args_sorted1 _) ?_
  unfold Builtin.«sorted»
  refine wpAny_bind (m := checkCount "sorted" 1 1 _) (wpAny_pure ?_)
  refine wpAny_bind (collect_set (A := A.in1) hh ⟨o, ho, hex.1, hd⟩ R.fit (by unfold scanBound; omega) R.tab.ris R.led fun s1 vs k1 hz g1 o1 pm => ?_)
  have hes : es.toList.map (·.2) = L.map fun q => Value.ref q.1 := by
    rw [R.row, List.map_map]
    rfl
  rw [hes] at pm
  obtain ⟨L1, p1, rfl⟩ := unmap _ pm L rfl
  have n1 : L1.length < 64 := by rw [p1.length_eq]; exact few
  refine wpAny_bind (wpAny_newList ?_ (by rw [List.length_map, sizeLine_eq]; omega))
  have hoL : (s1.heap.push (seqObj "list" (L1.map fun q => Value.ref q.1).toArray 0)).get? s1.heap.objs.size = some (seqObj "list" (L1.map fun q => Value.ref q.1).toArray 0) := Heap.get?_push_size _ rfl
  have tp : ∀ q ∈ L1, Tup (s1.heap.push (seqObj "list" (L1.map fun q => Value.ref q.1).toArray 0)) q.2 q.1 ∧ Shp sh 0 q.2 ∧ q.2 ≠ [] := fun q hq => by
    obtain ⟨h1, h2⟩ := hs q (p1.mem_iff.mp hq)
    exact ⟨h1.wide fun b u e => Heap.get?_push_of_some _ (k1 b u e), h2⟩
  obtain ⟨fs, hf⟩ := firsts L1 tp
  have keys : ∀ q ∈ L1, G.tupKeyC (s1.heap.push (seqObj "list" (L1.map fun q => Value.ref q.1).toArray 0)) sh (.ref q.1) = some (q.2.map kc) := fun q hq => (tp q hq).1.key (tp q hq).2.1
  refine wpAny_bind (wpAny_holding (wpAny_call_entry slot_list_sort ⟨_, hoL, rfl⟩ entry_list_sort (G.list_sort_tups (s := { s1 with heap := s1.heap.push (seqObj "list" (L1.map fun q => Value.ref q.1).toArray 0) }) hoL hf (fun v hv => ?_) (by rw [List.length_map, sizeLine_eq]; omega) fun st' a1 a2 a3 => ⟨_, rfl, ?_⟩) (args_list_sort _)))
  · obtain ⟨q, hq, rfl⟩ := List.mem_map.mp hv
    exact ⟨_, keys q hq⟩
  · obtain ⟨L2, q1, q2, q3⟩ := placed keys a1 a2
    obtain ⟨c, hc⟩ := sortedHeap_at (vs := L1.map fun q => Value.ref q.1) (out := (arrOf st').map (·.2)) hoL
    refine wpAny_pure ⟨_, rfl, res _ s1.heap.objs.size _ c L2 (fun b u e => ?_) g1 o1 hz hc q3 (q1.trans p1) q2⟩
    have q := k1 b u e
    have hlt := Heap.lt_size q
    show (sortedHeap (s1.heap.push (seqObj "list" (L1.map fun q => Value.ref q.1).toArray 0)) s1.heap.objs.size _ _).get? b = some u
    rw [sortedHeap_old (Nat.ne_of_lt hlt) (by rw [size_push']; exact Nat.lt_succ_of_lt hlt)]
    exact Heap.get?_push_of_some _ q
end
end NSet
set_option Elab.async false
set_option linter.all false
set_option maxRecDepth 100000
set_option maxHeartbeats 4000000
namespace NSet
open PySem PySem.Spec PyProof.Rows L2
/-! X34: such sets as tracked objects, set(list), sorted(set) -/
/-- the set at a, but for the tuples themselves -/
structure Bare (w : World) (a : Addr) (L : List (Addr × List Cell)) (h : Heap) : Prop where
  ex : ∃ (es : Array (Int × Value)) (ep : Nat) (t : SetTable), (∃ o, h.get? a = some o ∧ o.ExactSet ∧ o.data = .set es ep t) ∧ es.toList = L.map (fun p => (hsh w p.2, Value.ref p.1)) ∧ TabOk t (L.map fun p => hsh w p.2) ∧ (L.map (·.2)).Nodup ∧
    (w.params.followText "set-order" = true ∨ t.led = true) ∧ L.length * 5 < t.mask * 3 ∧ L.length < 64
def SetN (w : World) (a : Addr) (L : List (Addr × List Cell)) : HO := .ext (Bare w a L)
theorem Tups.bare {w : World} {h : Heap} {a : Addr} {L : List (Addr × List Cell)} {es : Array (Int × Value)} {ep : Nat} {t : SetTable} (R : Tups w h a L es ep t) : Bare w a L h := ⟨es, ep, t, R.obj, R.row, R.tab, R.dif, R.led, R.gap, R.few⟩
theorem Bare.full {w : World} {h : Heap} {a : Addr} {L : List (Addr × List Cell)} (R : Bare w a L h) (ht : ∀ p ∈ L, At h p.2 p.1) : ∃ es ep t, Tups w h a L es ep t := by
  obtain ⟨es, ep, t, h1, h2, h3, h4, h5, h6, h7⟩ := R.ex
  exact ⟨es, ep, t, h1, h2, h3, h4, ht, h5, h6, h7⟩
theorem setN_ok {P : Program} {w : World} {H : Hp} {h : Heap} {a : Addr} {L : List (Addr × List Cell)} (R : Bare w a L h) : ObjOk P w H h a (SetN w a L) := by
  obtain ⟨es, ep, t, ⟨o, ho, r⟩, q⟩ := id R.ex
  refine ⟨R, ⟨o, ho⟩, fun h1 h2 p k => ?_⟩
  obtain ⟨es', ep', t', ⟨o', ho', r'⟩, q'⟩ := Bare.ex p
  exact ⟨es', ep', t', ⟨o', k o' ho', r'⟩, q'⟩
theorem refs_vals : ∀ {ks : List (Addr × List Cell)} {us : List Value}, Vals (ks.map fun p => V.ref p.1) us → us = ks.map fun p => Value.ref p.1
  | [], _, .nil => rfl
  | p :: ks, _, .cons r t => by
    cases r
    rw [refs_vals t]
    rfl
theorem vals_refs : ∀ (ks : List (Addr × List Cell)), Vals (ks.map fun p => V.ref p.1) (ks.map fun p => Value.ref p.1)
  | [] => .nil
  | p :: ks => .cons rfl (vals_refs ks)
section
variable {X : Cx}
theorem tup_of {pins : List (Addr × Obj)} {σ : L2.St} {H : Hp} {s : Shared} {b : Addr} {k : List Cell} (I : Inv X pins σ H s) (h : SqT X.K H b (k.map vc)) : Tup s.heap k b := by
  obtain ⟨its, r, ⟨o, ho, hc, n, hd⟩, _⟩ := I.tuple h
  exact ⟨o, its.toArray, n, ho, hc, hd, by simpa using r⟩
/-- set(xs), xs a list of such tuples -/
def rSetN (K : PySem.W.Frag) (w : World) : List V → Hp → VK → Prop := fun xs H Q => ∃ (l : Addr) (ks : List (Addr × List Cell)), xs = [V.ref l] ∧ SqL K H l (ks.map fun p => V.ref p.1) ∧ (∀ p ∈ ks, SqT K H p.1 (p.2.map vc)) ∧ ks.length < 64 ∧
  ∀ a L, H a = none → (∀ p ∈ L, p ∈ ks) → (∀ p ∈ ks, p.2 ∈ L.map (·.2)) → Q (.ref a) (upd H a (SetN w a L))
theorem cr_setN (hc : X.calm = true) (hu : X.A.units + 64 < cLine) : CallR X (.type "set") (rSetN X.K X.w) := by
  intro pins s σ H xs us Q I r h
  obtain ⟨l, ks, rfl, hl, hk, hf, q⟩ := h
  rw [Vals.ref1 r]
  obtain ⟨its, rv, pl, hz⟩ := I.list hl
  have hn : H s.heap.objs.size = none := I.hok.fresh (Nat.le_refl _)
  refine set_of (P := X.prog) (w := X.w) ks (I.ok.hd hc) pl.isList (by simpa using refs_vals rv) (fun p hp => (tup_of I (hk p hp)).at) hf (by omega) fun h' tk L es ep t R g k => ?_
  refine ⟨.ref s.heap.objs.size, upd H s.heap.objs.size (SetN X.w s.heap.objs.size L), I.laid (t' := tk) k (Nat.le_refl _) (setN_ok R.bare), rfl, q _ L hn (fun p hp => List.mem_of_mem_take (g.inn p hp)) fun p hp => g.cov p (by rw [List.take_length]; exact hp)⟩
/-- sorted(set) -/
def rSortN (K : PySem.W.Frag) (w : World) : List V → Hp → VK → Prop := fun vs H Q => ∃ (a : Addr) (L : List (Addr × List Cell)) (sh : Nat → Bool), vs = [V.ref a] ∧ H a = some (SetN w a L) ∧ (∀ p ∈ L, SqT K H p.1 (p.2.map vc) ∧ Shp sh 0 p.2 ∧ p.2 ≠ []) ∧
  ∀ (L' : List (Addr × List Cell)) (p : Addr), L'.Perm L → (L'.map (·.2)).Nodup → L'.length < 64 → InOrder L' → H p = none → Q (.ref p) (upd H p (.lst (L'.map fun q => V.ref q.1)))
theorem cr_sortN (hc : X.calm = true) : CallR X (.builtin "sorted") (rSortN X.K X.w) := by
  intro pins s σ H vs us Q I r h
  obtain ⟨a, L, sh, rfl, ha, hk, q⟩ := h
  have R0 : Bare X.w a L s.heap := (I.hok a _ ha).1
  obtain ⟨es, ep, t, R⟩ := R0.full fun p hp => (tup_of I (hk p hp).1).at
  rw [Vals.ref1 r]
  refine sorted_set R (I.ok.hd hc) (fun p hp => ⟨tup_of I (hk p hp).1, (hk p hp).2⟩) fun s' p out c L' k g o hp hg hout pm pw => ?_
  have hfew : L'.length < 64 := by rw [pm.length_eq]; exact R.few
  have hlen : (L'.map fun q => V.ref q.1).length ≤ sizeLine := by rw [List.length_map, sizeLine_eq]; omega
  have hn : H p = none := I.hok.fresh hp
  have hv : Vals (L'.map fun q => V.ref q.1) out.toList := by rw [hout]; exact vals_refs L'
  have J : Inv X pins σ (upd H p (.lst (L'.map fun q => V.ref q.1))) s' :=
    I.call' (ch := []) o (Un.laid k hp hn) (I.hok.laid k hp ⟨hlen, out.toList, c, hv, hg⟩) (by rw [g]; exact I.bare) (fun _ z => nomatch z)
  exact ⟨.ref p, _, J, rfl, q L' p pm ((pm.map (·.2)).nodup_iff.mpr R.dif) hfew pw hn⟩
end
end NSet
set_option Elab.async false
set_option linter.all false
set_option maxRecDepth 100000
set_option maxHeartbeats 4000000
namespace NSet
open PySem PySem.Spec PyProof.Rows L2
/-! X35: {a tuple of numbers and texts for .. in ..} -/
/-- the tuple y put into the set at D -/
def putN (K : PySem.W.Frag) (w : World) (D : Addr) (y : V) (H : Hp) (Nx : Hp → Prop) : Prop := ∃ (x : Addr) (k : List Cell) (L : List (Addr × List Cell)), y = .ref x ∧ SqT K H x (k.map vc) ∧ H D = some (SetN w D L) ∧ (∀ p ∈ L, SqT K H p.1 (p.2.map vc)) ∧ L.length + 1 < 64 ∧
  ∀ L', (k ∈ L.map (·.2) → L' = L) → (k ∉ L.map (·.2) → L'.Perm ((x, k) :: L)) → Nx (upd H D (SetN w D L'))
section
variable {X : Cx}
theorem put_ok {pins : List (Addr × Obj)} {σ : L2.St} {H : Hp} {s : Shared} {E : Value → Shared → Prop} {D : Addr} {y : V} {z : Value} {Nx : Hp → Prop} {Q : Value → Shared → Prop} (I : Inv X pins σ H s) (hu : X.A.units + 64 < cLine) (r : RelV y z) (p : putN X.K X.w D y H Nx)
    (out : ∀ H' s', Inv X pins σ H' s' → Nx H' → Q .none s') : wpAny (model X.prog X.w) X.A (call (.builtin "set.add") [.ref D, z]) Q E s := by
  obtain ⟨x, k, L, rfl, hx, hD, hL, room, nx⟩ := p
  cases r
  obtain ⟨es, ep, t, R⟩ := (show Bare X.w D L s.heap from (I.hok D _ hD).1).full fun q hq => (tup_of I (hL q hq)).at
  have ax : At s.heap k x := (tup_of I hx).at
  obtain ⟨o, ho, hex, hd⟩ := R.obj
  refine wpAny_call_entry F.slot_set_add (show s.TypeIs (.ref D) "set" from ⟨o, ho, hex.1⟩) F.entry_set_add ?_ (F.args_set_add_2 _ _)
  unfold Builtin.«set.add» Builtin.Frozenset.oneOther
  simp only [List.isEmpty_nil, bind_assoc]
  unfold Builtin.Frozenset.addrOf setAdd
  refine wpAny_bind (wpAny_pure ?_)
  try dsimp only
  refine wpAny_bind (wpAny_pure ?_)
  try dsimp only
  refine wpAny_bind (wpAny_holding (wpAny_bind (ax.hashed (by show X.A.in1.units + 8 < cLine; have : X.A.in1.units ≤ X.A.units + 1 := Nat.le_refl _; omega) fun dn => ?_)))
  refine put_in (s := { s with toks := s.toks + dn }) R ax (by show X.A.in1.units + 8 < cLine; have : X.A.in1.units ≤ X.A.units + 1 := Nat.le_refl _; omega) room fun b h' L' es' ep' t' sb R2 c1 c2 => ?_
  show wpAny _ _ (ret Value.none) _ _ _
  have he : ∃ u, h'.get? D = some u := by
    obtain ⟨o2, ho2, _⟩ := R2.obj
    exact ⟨o2, ho2⟩
  exact wpAny_pure ⟨_, rfl, out _ _ (I.write (e := D) (t' := s.toks + dn) (by rw [hD]; trivial) (.inl rfl) (fun c u hc e => (sb.2 c hc).trans e) he (setN_ok R2.bare)) (nx L' c1 c2)⟩
/-- what the comprehension owes: D the new set -/
def tScN (K : PySem.W.Frag) (w : World) (wi : TI) (g : TG) (tt : TT) (te : TE) (vs : List Nat) : TE := fun σ H Q => wi σ H fun J H1 => ∀ D, H1 D = none → ∃ W : Nat → Nat → Hp → Prop, (∃ m, W 0 m (upd H1 D (SetN w D []))) ∧ ∀ i m H, W i m H →
  (J.stop i H ∧ Q (.ref D) H) ∨ (J.go i H ∧ ∃ Nx : Hp → Prop, (∀ H', Nx H' → ∃ m', m' < m ∧ W (i + 1) m' H') ∧ ∀ x H', J.yld i H x H' → g x (wipe σ vs) H' fun σ2 H2 => wipe σ2 vs = wipe σ vs ∧ tt σ2 H2 fun b H3 =>
    if b = true then te σ2 H3 fun y H4 => putN K w D y H4 Nx else Nx H3)
section
variable {elt tg iter : Expr} {ifs : List Expr} {scope : Scope} {own : List (PySem.Str × Nat)} {pos : Pos} {wi : TI} {g : TG} {tt : TT} {te : TE}
/-- the comprehension as a value -/
theorem pe_scN (hc : X.calm = true) (hu : X.A.units + 64 < cLine) (hN : X.N.Nodup) (hi : PI X tg iter wi) (ok : BlkOk X.N X.env.scope scope own)
    (hg : ∀ (s : Shared) (H : Hp) (C : Addr) (cl : List (PySem.Str × Addr)) (fp : List Addr), PG (X.blk s H scope (compEnvC scope cl C X.env) fp) tg g)
    (ht : ∀ (s : Shared) (H : Hp) (C : Addr) (cl : List (PySem.Str × Addr)) (fp : List Addr), PTs (X.blk s H scope (compEnvC scope cl C X.env) fp) ifs tt)
    (he : ∀ (s : Shared) (H : Hp) (C : Addr) (cl : List (PySem.Str × Addr)) (fp : List Addr), PE (X.blk s H scope (compEnvC scope cl C X.env) fp) elt te)
    (hs : ∀ x, foldedSetIterable iter X.env x = pure x := by intro _; rfl) :
    PE X (.SetComp elt [⟨tg, iter, ifs, 0⟩] scope pos) (tScN X.K X.w wi g tt te (own.map (·.2))) := by
  refine ⟨fun pins s σ H Q I h => ?_⟩
  rw [PpSet.eval_SetComp]
  have clo : ∀ y ∈ scope.names, y.2 = .free → ∃ c, X.env.cells.lookup y.1 = some c := fun y hy e => I.ok.has _ (ok.free y hy e)
  refine wpAny_comprehension_free (use := none) rfl hs (closure_ok clo) ok.kind (fun y hy e => by rw [ok.uniq y hy, e]) (thn (hi.run pins s σ H _ I h) fun xv s1 hx => thn hx fun itv s2 h2 => ?_)
  obtain ⟨it, fp, tn, J, H2, rfl, I2, T, st2, f2, q⟩ := h2
  refine PpSet.newSet_ok (newEnv_comp ?_)
  generalize hD : s2.heap.objs.size = D
  have nD : H2 D = none := I2.hok.fresh (Nat.le_of_eq hD)
  obtain ⟨W, ⟨m0, w0⟩, turn⟩ := q D nD
  -- the empty set stands
  obtain ⟨s3, e3⟩ : ∃ s3 : Shared, s3 = { s2 with heap := s2.heap.push (blank X.w) } := ⟨_, rfl⟩
  have hp3 : s3.heap = s2.heap.push (blank X.w) := by rw [e3]
  obtain ⟨H3, eH⟩ : ∃ H3 : Hp, H3 = upd H2 D (SetN X.w D []) := ⟨_, rfl⟩
  have at3 : s3.heap.get? D = some (blank X.w) := by rw [hp3, ← hD]; exact Heap.get?_push_size _ rfl
  have I3 : Inv X pins σ H3 s3 := by
    rw [eH, e3]
    exact I2.laid (t' := s2.toks) (fun b o e => Heap.get?_push_of_some _ e) (Nat.le_of_eq hD) (setN_ok (Tups.new (by rw [hp3] at at3; exact at3)).bare)
  rw [← eH] at w0
  have under : ∀ b ∈ fp, b < s2.heap.objs.size := fun b hb => by
    obtain ⟨o, e, _⟩ := T.obj _ _ st2 b hb
    exact Heap.lt_size e
  have f3 : ∀ b ∈ fp, FpOk X pins H3 b ∧ b < s3.heap.objs.size := fun b hb => by
    have lt := under b hb
    refine ⟨⟨?_, (f2 b hb).2⟩, by rw [hp3, Heap.size_push]; exact Nat.lt_succ_of_lt lt⟩
    rw [eH, upd_ne (by rw [← hD]; exact Nat.ne_of_lt lt)]
    exact (f2 b hb).1
  have st3 : tn 0 s3.heap := T.keep _ _ _ st2 fun b _ o e => by rw [hp3]; exact Heap.get?_push_of_some _ e
  have I4 := block_start I3 ok hN f3
  have pg := hg s3 H3 s3.heap.objs.size (cellsFrom (s3.heap.objs.size + 1) scope.names (cloFrom X.env.cells scope.names [])) fp
  have pt := ht s3 H3 s3.heap.objs.size (cellsFrom (s3.heap.objs.size + 1) scope.names (cloFrom X.env.cells scope.names [])) fp
  have pe := he s3 H3 s3.heap.objs.size (cellsFrom (s3.heap.objs.size + 1) scope.names (cloFrom X.env.cells scope.names [])) fp
  subst e3
  show codeAny _ _ (.compStart _ 0 (.ref it) (.ref D) (compEnvC scope (cellsFrom ((s2.heap.push (blank X.w)).objs.size + 1) scope.names (cloFrom X.env.cells scope.names [])) (s2.heap.push (blank X.w)).objs.size X.env)) (compPost (model X.prog X.w) X.A X.xe none (EP X pins σ Q) (.ref D) (s2.heap.push (blank X.w)).objs.size) { s2 with heap := pushCells ((s2.heap.push (blank X.w)).push { cls := .type "dict", data := .dict #[] }) scope.names }
  generalize e3 : ({ s2 with heap := s2.heap.push (blank X.w) } : Shared) = s3 at *
  rw [← hp3]
  have none3 : ∀ b ∈ fp, H3 b = none := fun b hb => (f3 b hb).1.1
  generalize hce : compEnvC scope (cellsFrom (s3.heap.objs.size + 1) scope.names (cloFrom X.env.cells scope.names [])) s3.heap.objs.size X.env = ce at I4 pg pt pe ⊢
  have cL : ce.locals = s3.heap.objs.size := by rw [← hce]; rfl
  have es : ({ s2 with heap := pushCells (s3.heap.push { cls := .type "dict", data := .dict #[] }) scope.names } : Shared) = { s3 with heap := pushCells (s3.heap.push { cls := .type "dict", data := .dict #[] }) scope.names } := by rw [← e3]
  rw [es]
  generalize hs4 : ({ s3 with heap := pushCells (s3.heap.push { cls := .type "dict", data := .dict #[] }) scope.names } : Shared) = s4 at I4 ⊢
  have st4 : tn 0 s4.heap := T.keep _ _ _ st3 fun b _ o e => by rw [← hs4]; exact pushCells_keeps _ _ _ _ (Heap.get?_push_of_some _ e)
  have foot : ∀ {σ' : L2.St} {H' : Hp} {s' : Shared}, Inv (X.blk s3 H3 scope ce fp) [] σ' H' s' → (∀ b ∈ fp, H' b = none) → ∀ b ∈ fp, FpOk (X.blk s3 H3 scope ce fp) [] H' b := fun {σ' H' s'} I' hn b hb =>
    ⟨hn b hb, (I'.ok.exf b hb).1, I'.ok.exfs b hb, .inl hb, fun x c e => (I'.ok.exf b hb).2 x c e, fun p hp => nomatch (show p ∈ ([] : List (Addr × Obj)) from by simpa using hp)⟩
  have loop : codeAny (model X.prog X.w) X.A (.compLoop (.SetComp elt [⟨tg, iter, ifs, 0⟩] scope pos) 0 (.ref it) (.ref D) ce) (compPost (model X.prog X.w) X.A X.xe none (EP X pins σ Q) (.ref D) s3.heap.objs.size) s4 := by
    refine PpSet.compLoopS_any (fun n s' => ∃ i H', Inv (X.blk s3 H3 scope ce fp) [] (wipe σ (own.map (·.2))) H' s' ∧ tn i s'.heap ∧ (∀ b ∈ fp, H' b = none) ∧ W i n H') ?_ m0 ⟨0, H3, I4, st4, none3, w0⟩
    rintro n s5 ⟨i, H5, I5, st5, n5, w5⟩
    rcases turn i n H5 w5 with ⟨stop, qq⟩ | ⟨go, Nx, hNx, step⟩
    · refine thnF (T.done (X.blk s3 H3 scope ce fp) rfl rfl rfl hc i [] s5 _ H5 (fun _ _ => False) I5 (foot I5 n5) st5 stop) fun r s6 ⟨hr, I6⟩ => ?_
      subst hr
      have I7 : Inv X pins σ H5 s6 := I3.call' (ch := fp) I6.os I6.base I6.hok I6.bare fun b hb => ⟨(f3 b hb).1.2.2.2.1, (f3 b hb).1.2.1, (f3 b hb).1.2.2.2.2.1, (f3 b hb).1.2.2.2.2.2⟩
      have nC : H5 s3.heap.objs.size = none := by
        have z : H5 ce.locals = none := I6.free
        rwa [cL] at z
      obtain ⟨m, hn, _⟩ := I6.loc
      have hn2 : s6.heap.Ns ce.locals m := hn
      rw [cL] at hn2
      refine ⟨m, hn2, fun h'' sb => ?_⟩
      obtain ⟨g0, g1, g2, g3, g4, g5⟩ := I3.fpOk (Nat.le_refl _) nC
      exact ⟨.ref D, H5, I7.turned (t' := s6.toks) (fun b o hb e => (sb.2 b hb).trans e) g0 g1 g3 g4 g5, rfl, qq⟩
    · refine thnF (T.item (X.blk s3 H3 scope ce fp) rfl rfl rfl hc i [] s5 _ H5 (fun _ _ => False) I5 (foot I5 n5) st5 go) fun r s6 ⟨u, hr, h6⟩ => ?_
      subst hr
      refine thnF h6 fun _ s7 ⟨x, H7, I7, r7, y7, st7, n7⟩ => ?_
      refine thnF (pg.run _ s7 _ H7 x u _ (I7.pinned (foot I7 n7) (T.obj _ _ st7)) r7 (step x H7 y7)) fun _ s8 ⟨σ8, H8, I8, hw8, q8⟩ => ?_
      refine thnF (pt.run _ s8 σ8 H8 _ I8 q8) fun b s9 ⟨H9, I9, q9⟩ => ?_
      have next : ∀ {s' : Shared} {H' : Hp}, Inv (X.blk s3 H3 scope ce fp) ([] ++ pinsAt fp s7.heap) σ8 H' s' → Nx H' → ∃ m, m < n ∧ ∃ i H', Inv (X.blk s3 H3 scope ce fp) [] (wipe σ (own.map (·.2))) H' s' ∧ tn i s'.heap ∧ (∀ b ∈ fp, H' b = none) ∧ W i m H' := fun {s' H'} I' nx => by
        obtain ⟨m', hm, w'⟩ := hNx H' nx
        have fixed : ∀ b ∈ fp, ∀ o, s7.heap.get? b = some o → s'.heap.get? b = some o ∧ H' b = none := fun b hb o e =>
          let z := I'.pin (b, o) (List.mem_append_right _ (List.mem_append_right _ (mem_pinsAt hb e)))
          ⟨z.1, z.2.1⟩
        refine ⟨m', hm, i + 1, H', (I'.unpinned (pins := [])).weak (by rw [← hw8, wipe_length]) (fun j v e => ?_), T.keep _ _ _ st7 fun b hb o e => (fixed b hb o e).1, fun b hb => ?_, w'⟩
        · rw [← hw8] at e
          exact (wipe_some e).1
        · obtain ⟨o, e, _⟩ := T.obj _ _ st7 b hb
          exact (fixed b hb o e).2
      cases b with
      | false =>
        simp only [Bool.false_eq_true, if_false] at q9 ⊢
        exact next I9 q9
      | true =>
        simp only [if_true] at q9 ⊢
        refine thnF (pe.run _ s9 σ8 H9 _ I9 q9) fun z s10 ⟨yv, H10, I10, r10, pp⟩ => ?_
        exact put_ok (X := X.blk s3 H3 scope ce fp) I10 hu r10 pp fun H11 s11 I11 nx => next I11 nx
  exact PpSet.codeAny_compStart_set loop (T.self X.A 0 _ _ _ st4 loop)
end
end
end NSet
set_option Elab.async false
set_option linter.all false
set_option maxRecDepth 100000
set_option maxHeartbeats 4000000
namespace NSet
open PySem PySem.Spec PyProof.Rows L2
/-! X36: the set comprehension over a list that stays -/
theorem scN_list {w : World} {K : PySem.W.Frag} {a : Addr} {xs : List V} {g : TG} {tt : TT} {te : TE} {vs : List Nat} {σ : L2.St} {H1 : Hp} {D : Addr} {Fin : Hp → Prop} (Pv : Nat → Hp → Prop) (first : Pv 0 (upd H1 D (SetN w D []))) (here : ∀ i H, i ≤ xs.length → Pv i H → SqL K H a xs)
    (turn : ∀ i x H, xs[i]? = some x → Pv i H → g x (wipe σ vs) H fun σ2 H2 => wipe σ2 vs = wipe σ vs ∧ tt σ2 H2 fun b H3 => if b = true then te σ2 H3 fun y H4 => putN K w D y H4 (Pv (i + 1)) else Pv (i + 1) H3) (last : ∀ H, Pv xs.length H → Fin H) :
    ∃ W : Nat → Nat → Hp → Prop, (∃ m, W 0 m (upd H1 D (SetN w D []))) ∧ ∀ i m H, W i m H →
      ((Itl K a).stop i H ∧ Fin H) ∨ ((Itl K a).go i H ∧ ∃ Nx : Hp → Prop, (∀ H', Nx H' → ∃ m', m' < m ∧ W (i + 1) m' H') ∧ ∀ x H', (Itl K a).yld i H x H' → g x (wipe σ vs) H' fun σ2 H2 => wipe σ2 vs = wipe σ vs ∧ tt σ2 H2 fun b H3 =>
        if b = true then te σ2 H3 fun y H4 => putN K w D y H4 Nx else Nx H3) := by
  refine ⟨fun i m H => m + i = xs.length ∧ Pv i H, ⟨xs.length, rfl, first⟩, fun i m H ⟨hm, p⟩ => ?_⟩
  have q := here i H (by omega) p
  rcases Nat.lt_or_ge i xs.length with lt | ge
  · refine .inr ⟨⟨xs, xs[i], q, by simp [lt]⟩, Pv (i + 1), fun H' p' => ⟨m - 1, by omega, by omega, p'⟩, fun x H' y => ?_⟩
    obtain ⟨e, y⟩ := y
    subst e
    exact turn i x _ (y xs q) p
  · obtain rfl : i = xs.length := by omega
    exact .inl ⟨⟨xs, q, Nat.le_refl _⟩, last H p⟩
end NSet
set_option Elab.async false
set_option linter.all false
set_option maxRecDepth 100000
set_option maxHeartbeats 8000000
namespace Vk
open PySem PySem.Spec PyProof.Rows L2
/-! the walk over a reading -/
open L2 in
local macro_rules | `(tactic| walk_at "lk") => `(tactic| (refine Fr.get (by assumption) (by first | assumption | (simp only [List.mem_cons, List.not_mem_nil, or_false, not_or]; first | assumption | (refine ⟨?_, ?_⟩ <;> assumption) | (apply Ne.symm; assumption))) ?_; walk_at "lk"))
local macro_rules | `(tactic| walk_at "lk") => `(tactic| (refine Same.get (by assumption) ?_; walk_at "lk"))
local macro_rules | `(tactic| walk_at "lk") => `(tactic| (refine upd_oth (by first | assumption | (apply Ne.symm; assumption)) ?_; walk_at "lk"))
local macro_rules | `(tactic| walk_at "lk") => `(tactic| (refine upd_old (by assumption) ?_; walk_at "lk"))
local macro_rules | `(tactic| walk_at "lk") => `(tactic| exact upd_same)
local macro_rules | `(tactic| walk_at "lk") => `(tactic| assumption)
local macro_rules | `(tactic| walk_at "len") => `(tactic| (simp only [S_len, sizeLine_eq, List.length_take, List.length_drop, List.length_append, List.length_cons, List.length_nil]; omega))
local macro_rules | `(tactic| walk_at "len") => `(tactic| (simp only [S_len, sizeLine_eq]; omega))
local macro_rules | `(tactic| walk_at "len") => `(tactic| (simp only [List.length_cons, List.length_nil, sizeLine_eq]; omega))
local macro_rules | `(tactic| walk_at "num") => `(tactic| first | assumption | omega | (simp only [List.length_take, List.length_drop, List.length_append, List.length_cons, List.length_nil]; omega))
local macro_rules | `(tactic| walk_at "ix") => `(tactic| first | exact rfl | assumption | exact atI_nat (by assumption))
local macro_rules | `(tactic| walk_at "putq") => `(tactic| exact rfl)
local macro_rules | `(tactic| walk_at "sq") => `(tactic| exact .inr (SqT.of (by walk_at "lk")))
local macro_rules | `(tactic| walk_at "sq") => `(tactic| exact .inl (SqL.of (by walk_at "lk")))
local macro_rules | `(tactic| walk_at "sq") => `(tactic| exact .inl (by assumption))
local macro_rules | `(tactic| walk_at "sq") => `(tactic| exact .inr (by assumption))
local macro_rules | `(tactic| walk_at "mapq") => `(tactic| exact (rfl : _ = List.map (fun l => V.str (S l)) [_, _, _, _, _]))
local macro_rules | `(tactic| walk_at "mapq") => `(tactic| exact (rfl : _ = List.map (fun l => V.str (S l)) [_, _, _, _]))
local macro_rules | `(tactic| walk_at "mapq") => `(tactic| exact (rfl : _ = List.map (fun l => V.str (S l)) [_, _, _]))
local macro_rules | `(tactic| walk_at "mapq") => `(tactic| exact (rfl : _ = List.map (fun l => V.str (S l)) [_, _]))
local macro_rules | `(tactic| walk_at "mapq") => `(tactic| exact (rfl : _ = List.map (fun l => V.str (S l)) [_]))
local macro_rules | `(tactic| walk_at "mapq") => `(tactic| exact rfl)
local macro_rules | `(tactic| walk_at "setq") => `(tactic| ((try simp only [Int.reduceToNat, List.set_cons_succ, List.set_cons_zero]); exact rfl))
local macro_rules | `(tactic| walk_at "toN") => `(tactic| first | exact rfl | exact (Int.natCast_add _ _).symm | exact (Int.natCast_add _ 1).symm)
local macro_rules | `(tactic| walk_at "cond") => `(tactic| first | omega | (simp only [List.length_map]; omega) | (refine Or.inl ⟨?_, ?_⟩ <;> omega) | (refine Or.inr ⟨?_, ?_⟩ <;> omega) | (refine ⟨?_, ?_⟩ <;> omega))
local macro_rules | `(tactic| walk_at "side") => `(tactic| omega)
local macro_rules | `(tactic| walk_at "side") => `(tactic| (walk_at "len"))
local macro_rules | `(tactic| walk_at "side") => `(tactic| exact ⟨_, by assumption⟩)
local macro_rules | `(tactic| walk_at "side") => `(tactic| exact ⟨_, SqL.of (by walk_at "lk")⟩)
local macro_rules | `(tactic| walk_at "side") => `(tactic| exact ⟨_, rfl⟩)
local macro_rules | `(tactic| walk_at "side") => `(tactic| exact .inl ⟨rfl, _, SqL.of (by walk_at "lk")⟩)
local macro_rules | `(tactic| walk_at "side") => `(tactic| exact .inr (SqT.of (by walk_at "lk")))
local macro_rules | `(tactic| walk_at "side") => `(tactic| exact .inl (SqL.of (by walk_at "lk")))
local macro_rules | `(tactic| walk_at "side") => `(tactic| exact SqT.of (by walk_at "lk"))
local macro_rules | `(tactic| walk_at "side") => `(tactic| exact SqL.of (by walk_at "lk"))
local macro_rules | `(tactic| walk_at "side") => `(tactic| (walk_at "lk"))
local macro_rules | `(tactic| walk_at "side") => `(tactic| rfl)
local macro_rules | `(tactic| walk_at "go1") => `(tactic| ((with_reducible apply Or.inr); (with_reducible apply Exists.intro); (with_reducible apply And.intro); exact rfl))
local macro_rules | `(tactic| walk_at "go1") => `(tactic| ((with_reducible apply Or.inl); (with_reducible apply Exists.intro); (with_reducible apply And.intro); exact rfl))
local macro_rules | `(tactic| walk_at "go1") => `(tactic| ((with_reducible apply And.intro); walk_at "side"))
local macro_rules | `(tactic| walk_at "go1") => `(tactic| ((with_reducible apply And.intro); exact rfl))
local macro_rules | `(tactic| walk_at "go1") => `(tactic| (with_reducible apply Exists.intro))
local macro_rules | `(tactic| walk_at "go1") => `(tactic| (walk_at "proj"))
local macro_rules | `(tactic| walk_at "go1") => `(tactic| ((with_reducible apply eSFld); (walk_at "lk"); assumption; assumption; (simp only [List.length_cons, List.length_nil]; decide); (walk_at "putq")))
local macro_rules | `(tactic| walk_at "go1") => `(tactic| (with_reducible refine iNFF ?_))
local macro_rules | `(tactic| walk_at "go1") => `(tactic| (with_reducible refine iNTT ?_))
local macro_rules | `(tactic| walk_at "go1") => `(tactic| (with_reducible refine iFF ?_))
local macro_rules | `(tactic| walk_at "go1") => `(tactic| (with_reducible refine iTT ?_))
local macro_rules | `(tactic| walk_at "go1") => `(tactic| ((with_reducible apply iListT); (walk_at "num")))
local macro_rules | `(tactic| walk_at "go1") => `(tactic| ((with_reducible apply iTruL); (first | assumption | exact SqL.of (by walk_at "lk"))))
local macro_rules | `(tactic| walk_at "go1") => `(tactic| ((with_reducible apply iTruCons); exact SqL.of (by walk_at "lk")))
local macro_rules | `(tactic| walk_at "go1") => `(tactic| ((with_reducible apply iTruNil); exact SqL.of (by walk_at "lk")))
local macro_rules | `(tactic| walk_at "go1") => `(tactic| ((with_reducible apply iAppend); (walk_at "lk"); (walk_at "len")))
local macro_rules | `(tactic| walk_at "go1") => `(tactic| ((with_reducible apply iCat); (walk_at "lk"); (walk_at "lk"); (walk_at "len")))
local macro_rules | `(tactic| walk_at "go1") => `(tactic| ((with_reducible apply iSlL); (first | assumption | exact SqL.of (by walk_at "lk"))))
local macro_rules | `(tactic| walk_at "go1") => `(tactic| (with_reducible refine iYes ?_))
local macro_rules | `(tactic| walk_at "go1") => `(tactic| (with_reducible refine iForR2 ?_))
local macro_rules | `(tactic| walk_at "go1") => `(tactic| (with_reducible refine iForR1 ?_))
local macro_rules | `(tactic| walk_at "go1") => `(tactic| (with_reducible refine iForS ?_))
local macro_rules | `(tactic| walk_at "go1") => `(tactic| (with_reducible refine iForL ?_))
local macro_rules | `(tactic| walk_at "go1") => `(tactic| (with_reducible refine iLcR1 ?_))
local macro_rules | `(tactic| walk_at "go1") => `(tactic| (with_reducible refine iLcS ?_))
local macro_rules | `(tactic| walk_at "go1") => `(tactic| (with_reducible refine iLcL ?_))
local macro_rules | `(tactic| walk_at "go1") => `(tactic| ((with_reducible apply iNInL); (walk_at "sq"); (walk_at "mapq")))
local macro_rules | `(tactic| walk_at "go1") => `(tactic| ((with_reducible apply iInL); (walk_at "sq"); (walk_at "mapq")))
local macro_rules | `(tactic| walk_at "go1") => `(tactic| (with_reducible refine iWF ?_))
local macro_rules | `(tactic| walk_at "go1") => `(tactic| (with_reducible refine iWT ?_))
local macro_rules | `(tactic| walk_at "go1") => `(tactic| (with_reducible refine iMeth ?_))
local macro_rules | `(tactic| walk_at "go1") => `(tactic| (with_reducible refine iMeth0 ?_))
local macro_rules | `(tactic| walk_at "go1") => `(tactic| (with_reducible refine iProp ?_))
local macro_rules | `(tactic| walk_at "go1") => `(tactic| (with_reducible refine iCon ?_))
local macro_rules | `(tactic| walk_at "go1") => `(tactic| (with_reducible refine iSFld ?_))
local macro_rules | `(tactic| walk_at "go1") => `(tactic| (with_reducible refine iFld ?_))
local macro_rules | `(tactic| walk_at "go1") => `(tactic| (with_reducible refine isi_bl_str ?_))
local macro_rules | `(tactic| walk_at "go1") => `(tactic| (with_reducible refine isi_bl_int ?_))
local macro_rules | `(tactic| walk_at "go1") => `(tactic| (with_reducible refine isi_bl_bool ?_))
local macro_rules | `(tactic| walk_at "go1") => `(tactic| (with_reducible refine isi_str_bool ?_))
local macro_rules | `(tactic| walk_at "go1") => `(tactic| (with_reducible refine isi_str_int ?_))
local macro_rules | `(tactic| walk_at "go1") => `(tactic| (with_reducible refine isi_str_str ?_))
local macro_rules | `(tactic| walk_at "go1") => `(tactic| (with_reducible refine isi_int_str ?_))
local macro_rules | `(tactic| walk_at "go1") => `(tactic| (with_reducible refine isi_int_bool ?_))
local macro_rules | `(tactic| walk_at "go1") => `(tactic| (with_reducible refine isi_int_int ?_))
local macro_rules | `(tactic| walk_at "go1") => `(tactic| (with_reducible refine iLst ?_))
local macro_rules | `(tactic| walk_at "go1") => `(tactic| (with_reducible refine iTup ?_))
local macro_rules | `(tactic| walk_at "go1") => `(tactic| (with_reducible refine iPart ?_))
local macro_rules | `(tactic| walk_at "go1") => `(tactic| (with_reducible refine iNoPart ?_))
local macro_rules | `(tactic| walk_at "go1") => `(tactic| ((with_reducible apply iSetL); (walk_at "lk"); exact rfl; (walk_at "setq")))
local macro_rules | `(tactic| walk_at "go1") => `(tactic| ((with_reducible apply iPartS); walk_at "num"))
local macro_rules | `(tactic| walk_at "go1") => `(tactic| (with_reducible refine iStartS ?_))
local macro_rules | `(tactic| walk_at "go1") => `(tactic| (with_reducible refine iFindS ?_))
local macro_rules | `(tactic| walk_at "go1") => `(tactic| ((with_reducible apply iFindNo); assumption))
local macro_rules | `(tactic| walk_at "go1") => `(tactic| ((with_reducible apply iFindYes); assumption))
local macro_rules | `(tactic| walk_at "go1") => `(tactic| (with_reducible refine iNotInS ?_))
local macro_rules | `(tactic| walk_at "go1") => `(tactic| (with_reducible refine iInS ?_))
local macro_rules | `(tactic| walk_at "go1") => `(tactic| ((with_reducible apply iLenS1); walk_at "num"))
local macro_rules | `(tactic| walk_at "go1") => `(tactic| ((with_reducible apply iAddS); walk_at "num"))
local macro_rules | `(tactic| walk_at "go1") => `(tactic| ((with_reducible apply iSlS); walk_at "num"))
local macro_rules | `(tactic| walk_at "go1") => `(tactic| ((with_reducible apply iSlMid); walk_at "num"; walk_at "toN"; walk_at "toN"))
local macro_rules | `(tactic| walk_at "go1") => `(tactic| ((with_reducible apply iSlFrom); walk_at "num"; walk_at "toN"))
local macro_rules | `(tactic| walk_at "go1") => `(tactic| ((with_reducible apply iSlTo); walk_at "num"; walk_at "toN"))
local macro_rules | `(tactic| walk_at "go1") => `(tactic| ((with_reducible apply iIxS); walk_at "num"; walk_at "ix"))
local macro_rules | `(tactic| walk_at "go1") => `(tactic| ((with_reducible apply iIxT); exact SqT.of (by walk_at "lk"); walk_at "ix"))
local macro_rules | `(tactic| walk_at "go1") => `(tactic| ((with_reducible apply iIxL); exact SqL.of (by walk_at "lk"); walk_at "ix"))
local macro_rules | `(tactic| walk_at "go1") => `(tactic| (with_reducible refine iSl ?_))
local macro_rules | `(tactic| walk_at "go1") => `(tactic| (with_reducible refine iBM ?_))
local macro_rules | `(tactic| walk_at "go1") => `(tactic| (with_reducible refine iM1 ?_))
local macro_rules | `(tactic| walk_at "go1") => `(tactic| ((with_reducible apply iI); walk_at "cond"))
local macro_rules | `(tactic| walk_at "go1") => `(tactic| ((with_reducible apply iNe); exact rfl))
local macro_rules | `(tactic| walk_at "go1") => `(tactic| ((with_reducible apply iEq); exact rfl))
local macro_rules | `(tactic| walk_at "go1") => `(tactic| (with_reducible refine iNext ?_))
local macro_rules | `(tactic| walk_at "go1") => `(tactic| (with_reducible refine iDrop ?_))
local macro_rules | `(tactic| walk_at "go1") => `(tactic| (with_reducible refine iRetN ?_))
local macro_rules | `(tactic| walk_at "go1") => `(tactic| (with_reducible refine iRet ?_))
local macro_rules | `(tactic| walk_at "go1") => `(tactic| (with_reducible refine iIfE ?_))
local macro_rules | `(tactic| walk_at "go1") => `(tactic| (with_reducible refine iNotV ?_))
local macro_rules | `(tactic| walk_at "go1") => `(tactic| (with_reducible refine iOrV ?_))
local macro_rules | `(tactic| walk_at "go1") => `(tactic| (with_reducible refine iAndV ?_))
local macro_rules | `(tactic| walk_at "go1") => `(tactic| (with_reducible refine iNot ?_))
local macro_rules | `(tactic| walk_at "go1") => `(tactic| (with_reducible refine iOr ?_))
local macro_rules | `(tactic| walk_at "go1") => `(tactic| (with_reducible refine iAnd ?_))
local macro_rules | `(tactic| walk_at "go1") => `(tactic| (with_reducible refine iTest ?_))
local macro_rules | `(tactic| walk_at "go1") => `(tactic| (with_reducible refine iB ?_))
local macro_rules | `(tactic| walk_at "go1") => `(tactic| (with_reducible refine iIfS ?_))
local macro_rules | `(tactic| walk_at "go1") => `(tactic| (with_reducible refine iUn ?_))
local macro_rules | `(tactic| walk_at "go1") => `(tactic| (with_reducible refine iU ?_))
local macro_rules | `(tactic| walk_at "go1") => `(tactic| (with_reducible refine iI0 ?_))
local macro_rules | `(tactic| walk_at "go1") => `(tactic| (with_reducible refine iCall ?_))
local macro_rules | `(tactic| walk_at "go1") => `(tactic| (with_reducible refine iCall0 ?_))
local macro_rules | `(tactic| walk_at "go1") => `(tactic| (with_reducible refine iCB ?_))
local macro_rules | `(tactic| walk_at "go1") => `(tactic| (with_reducible refine iNil ?_))
local macro_rules | `(tactic| walk_at "go1") => `(tactic| (with_reducible refine iCons ?_))
local macro_rules | `(tactic| walk_at "go1") => `(tactic| (with_reducible refine iSub ?_))
local macro_rules | `(tactic| walk_at "go1") => `(tactic| (with_reducible refine iName ?_))
local macro_rules | `(tactic| walk_at "go1") => `(tactic| (with_reducible refine iAsg ?_))
local macro_rules | `(tactic| walk_at "go1") => `(tactic| (with_reducible refine iOp ?_))
local macro_rules | `(tactic| walk_at "go1") => `(tactic| (with_reducible refine iC ?_))
local macro_rules | `(tactic| walk_at "go1") => `(tactic| ((with_reducible apply iVar); exact rfl))
local macro_rules | `(tactic| walk_at "go1") => `(tactic| (with_reducible refine iSeq ?_))
local macro_rules | `(tactic| walk_at "fr") => `(tactic| (refine Fr.trans ?_ (Fr.wk (Fr.wk (by assumption))); walk_at "fr"))
local macro_rules | `(tactic| walk_at "fr") => `(tactic| (refine Fr.trans ?_ (Fr.wk1 (by assumption)); walk_at "fr"))
local macro_rules | `(tactic| walk_at "fr") => `(tactic| (refine Fr.trans ?_ (Fr.wk (by assumption)); walk_at "fr"))
local macro_rules | `(tactic| walk_at "fr") => `(tactic| (refine Fr.trans ?_ (by assumption); walk_at "fr"))
local macro_rules | `(tactic| walk_at "fr") => `(tactic| (refine Fr.trans ?_ (Fr.of_same (by assumption)); walk_at "fr"))
local macro_rules | `(tactic| walk_at "fr") => `(tactic| (refine Fr.trans ?_ (Fr.upd_new (by assumption)); walk_at "fr"))
local macro_rules | `(tactic| walk_at "fr") => `(tactic| (refine Fr.trans ?_ Fr.in2; walk_at "fr"))
local macro_rules | `(tactic| walk_at "fr") => `(tactic| (refine Fr.trans ?_ Fr.in1; walk_at "fr"))
local macro_rules | `(tactic| walk_at "fr") => `(tactic| (refine Fr.trans ?_ Fr.in0; walk_at "fr"))
local macro_rules | `(tactic| walk_at "fr") => `(tactic| assumption)
local macro_rules | `(tactic| walk_at "fr") => `(tactic| exact Fr.refl _ _)
local macro_rules | `(tactic| walk_at "proj") => `(tactic| (with_reducible refine (show (Ends.mk _ _ _ _).rt _ _ from ?_); dsimp only))
local macro_rules | `(tactic| walk_at "proj") => `(tactic| (with_reducible refine (show (Ends.mk _ _ _ _).nx _ _ from ?_); dsimp only))
local macro_rules | `(tactic| walk_at "br0") => `(tactic| (with_reducible apply iWDN))
local macro_rules | `(tactic| walk_at "br0") => `(tactic| (with_reducible apply iWD))
local macro_rules | `(tactic| walk_at "br0") => `(tactic| (with_reducible apply iBbn))
local macro_rules | `(tactic| walk_at "br0") => `(tactic| (with_reducible apply iBb))
local macro_rules | `(tactic| walk_at "br0") => `(tactic| (with_reducible apply iBnd))
local macro_rules | `(tactic| walk_at "br0") => `(tactic| (with_reducible apply iBd))
local macro_rules | `(tactic| walk_at "dead") => `(tactic| first | (exfalso; omega) | contradiction)
local macro_rules | `(tactic| walk_at "br") => `(tactic| (walk_at "br0" <;> (intro hbr; (try simp only [V.str.injEq, V.int.injEq, V.bl.injEq, Vk.S_inj, reduceCtorEq, List.cons.injEq, and_true, not_true_eq_false, not_false_eq_true, decide_eq_true_eq, decide_eq_false_iff_not, Nat.reduceEqDiff, List.length_cons, List.length_nil, and_false, false_and, eq_self] at hbr); (try walk_at "dead"))))
local macro_rules | `(tactic| walk_at "new") => `(tactic| (refine fun (p : Addr) (hp : _ = none) => ?_))
local macro_rules | `(tactic| walk_at "go") => `(tactic| repeat' (first | walk_at "go1" | walk_at "br" | walk_at "new" | (refine fun (y z : V) => ?_)))
section
set_option Elab.async false
set_option linter.all false
set_option maxRecDepth 100000
set_option maxHeartbeats 4000000
open PySem PySem.Spec PyProof.Rows L2

local macro_rules | `(tactic| walk_at "side") => `(tactic| exact .inl (by assumption))
theorem _root_.L2.PE.imp {X : Cx} {e : Expr} {t t' : TE} (h : PE X e t) (k : ∀ σ H Q, t' σ H Q → t σ H Q) : PE X e t' := ⟨fun pins s σ H Q I q => h.run pins s σ H Q I (k σ H Q q)⟩
theorem _root_.L2.PS.imp {X : Cx} {st : Stmt} {t t' : TS} (h : PS X st t) (k : ∀ D σ H, t' D σ H → t D σ H) : PS X st t' := ⟨fun pins s σ H D I q => h.run pins s σ H D I (k D σ H q)⟩
theorem _root_.L2.Room.units1 {k : Nat} {A : Around} (r : Room (k + 1) A) : A.units + 65 < cLine := by have := r.un; omega
/-- an error class and its own __init__ -/
structure EF (K : PySem.W.Frag) (mg : Str → Option Value) (N : Str) (B fB : Addr) (fd : FuncData) (ps : List Str) : Prop where
  ox : OexC K B
  iC : PySem.W.findIn K (.ref B) "__init__" = some (some (.ref fB))
  tI : PySem.W.typeIn K (.ref fB) = some (.type "function")
  gB : mg N = some (.ref B)
  bB : Binds K fd ps []
structure Ad where
  aDiff : Addr
  aAsc : Addr
  aSignsOf : Addr
  aIsText : Addr
  aCheck : Addr
  aPShortlex : Addr
  aPKindAfter : Addr
  aBox : Addr
  aTake : Addr
  aPick : Addr
  aChar : Addr
  aChanged : Addr
  aName : Addr
  aSet : Addr
  aToldSet : Addr
  aChecked : Addr
  aText : Addr
  aTexts : Addr
  aBefore : Addr
  aEachOnce : Addr
  aKind : Addr
  aStrings : Addr
  aLists : Addr
  aLaw : Addr
  cAlphabet : Addr
  cTale : Addr
  cBadText : Addr
  eBadText : Addr
  cBadSet : Addr
  eBadSet : Addr
  cBadAlph : Addr
  tJoint : Tok
structure Fd where
  dDiff : FuncData
  dAsc : FuncData
  dSignsOf : FuncData
  dIsText : FuncData
  dCheck : FuncData
  dPShortlex : FuncData
  dPKindAfter : FuncData
  dBox : FuncData
  dTake : FuncData
  dPick : FuncData
  dChar : FuncData
  dChanged : FuncData
  dName : FuncData
  dSet : FuncData
  dToldSet : FuncData
  dChecked : FuncData
  dText : FuncData
  dTexts : FuncData
  dBefore : FuncData
  dEachOnce : FuncData
  dKind : FuncData
  dStrings : FuncData
  dLists : FuncData
  dLaw : FuncData
  eBadText : FuncData
  eBadSet : FuncData
abbrev sAsc : Stmt := inClass (top 8) 5
abbrev sSignsOf : Stmt := inClass (top 8) 4
abbrev sIsText : Stmt := inClass (top 8) 7
abbrev sCheck : Stmt := inClass (top 8) 8
abbrev sPShortlex : Stmt := top 10
abbrev sPKindAfter : Stmt := top 11
abbrev sBox : Stmt := top 13
abbrev sTake : Stmt := top 14
abbrev sPick : Stmt := top 15
abbrev sChar : Stmt := top 16
abbrev sChanged : Stmt := top 17
abbrev sName : Stmt := top 18
abbrev sSet : Stmt := top 19
abbrev sToldSet : Stmt := top 20
abbrev sChecked : Stmt := top 21
abbrev sText : Stmt := top 22
abbrev sTexts : Stmt := top 23
abbrev sBefore : Stmt := top 24
abbrev sEachOnce : Stmt := top 25
abbrev sKind : Stmt := top 26
abbrev sStrings : Stmt := top 27
abbrev sLists : Stmt := top 28
abbrev sLaw : Stmt := top 29
structure Fns (K : PySem.W.Frag) (mg : Str → Option Value) (a : Ad) (d : Fd) : Prop extends TxA K mg a.aDiff where
  FDiff : Fun K "differ_within" "differ_within" sDiff a.aDiff d.dDiff
  bDiff : Binds K d.dDiff ["text", "allowed"] []
  mAsc : Meth K a.cAlphabet "are_ascending" a.aAsc
  FAsc : Fun K "are_ascending" "Alphabet.are_ascending" sAsc a.aAsc d.dAsc
  bAsc : Binds K d.dAsc ["self", "text"] []
  mSignsOf : Meth K a.cAlphabet "signs_of" a.aSignsOf
  FSignsOf : Fun K "signs_of" "Alphabet.signs_of" sSignsOf a.aSignsOf d.dSignsOf
  bSignsOf : Binds K d.dSignsOf ["self", "name"] []
  mIsText : Meth K a.cAlphabet "is_text" a.aIsText
  FIsText : Fun K "is_text" "Alphabet.is_text" sIsText a.aIsText d.dIsText
  bIsText : Binds K d.dIsText ["self", "text"] []
  mCheck : Meth K a.cAlphabet "check" a.aCheck
  FCheck : Fun K "check" "Alphabet.check" sCheck a.aCheck d.dCheck
  bCheck : Binds K d.dCheck ["self", "text"] []
  gPShortlex : mg "shortlex" = some (.ref a.aPShortlex)
  FPShortlex : Fun K "shortlex" "shortlex" sPShortlex a.aPShortlex d.dPShortlex
  bPShortlex : Binds K d.dPShortlex ["texts"] []
  gPKindAfter : mg "kind_after" = some (.ref a.aPKindAfter)
  FPKindAfter : Fun K "kind_after" "kind_after" sPKindAfter a.aPKindAfter d.dPKindAfter
  bPKindAfter : Binds K d.dPKindAfter ["text"] []
  gBox : mg "_law_box" = some (.ref a.aBox)
  FBox : Fun K "_law_box" "_law_box" sBox a.aBox d.dBox
  bBox : Binds K d.dBox ["_law_script", "_law_k"] []
  gTake : mg "_law_take" = some (.ref a.aTake)
  FTake : Fun K "_law_take" "_law_take" sTake a.aTake d.dTake
  bTake : Binds K d.dTake ["_law_box_here", "_law_size"] []
  gPick : mg "_law_pick" = some (.ref a.aPick)
  FPick : Fun K "_law_pick" "_law_pick" sPick a.aPick d.dPick
  bPick : Binds K d.dPick ["_law_box_here", "_law_string", "_law_many"] []
  gChar : mg "_law_char" = some (.ref a.aChar)
  FChar : Fun K "_law_char" "_law_char" sChar a.aChar d.dChar
  bChar : Binds K d.dChar ["_law_box_here"] []
  gChanged : mg "_law_changed" = some (.ref a.aChanged)
  FChanged : Fun K "_law_changed" "_law_changed" sChanged a.aChanged d.dChanged
  bChanged : Binds K d.dChanged ["_law_box_here", "_law_string"] []
  gName : mg "_law_name" = some (.ref a.aName)
  FName : Fun K "_law_name" "_law_name" sName a.aName d.dName
  bName : Binds K d.dName ["_law_box_here", "_law_signs"] []
  gSet : mg "_law_set" = some (.ref a.aSet)
  FSet : Fun K "_law_set" "_law_set" sSet a.aSet d.dSet
  bSet : Binds K d.dSet ["_law_name_here", "_law_letters", "_law_vowels"] []
  gToldSet : mg "_law_told_set" = some (.ref a.aToldSet)
  FToldSet : Fun K "_law_told_set" "_law_told_set" sToldSet a.aToldSet d.dToldSet
  bToldSet : Binds K d.dToldSet ["_law_alphabet", "_law_name_here"] []
  gChecked : mg "_law_checked" = some (.ref a.aChecked)
  FChecked : Fun K "_law_checked" "_law_checked" sChecked a.aChecked d.dChecked
  bChecked : Binds K d.dChecked ["_law_alphabet", "_law_text_here"] []
  gText : mg "_law_text" = some (.ref a.aText)
  FText : Fun K "_law_text" "_law_text" sText a.aText d.dText
  bText : Binds K d.dText ["_law_box_here", "_law_signs", "_law_few", "_law_many"] []
  gTexts : mg "_law_texts" = some (.ref a.aTexts)
  FTexts : Fun K "_law_texts" "_law_texts" sTexts a.aTexts d.dTexts
  bTexts : Binds K d.dTexts ["_law_box_here", "_law_signs"] []
  gBefore : mg "_law_before" = some (.ref a.aBefore)
  FBefore : Fun K "_law_before" "_law_before" sBefore a.aBefore d.dBefore
  bBefore : Binds K d.dBefore ["_law_signs", "_law_one", "_law_other"] []
  gEachOnce : mg "_law_each_once" = some (.ref a.aEachOnce)
  FEachOnce : Fun K "_law_each_once" "_law_each_once" sEachOnce a.aEachOnce d.dEachOnce
  bEachOnce : Binds K d.dEachOnce ["_law_signs", "_law_texts_here", "_law_told"] []
  gKind : mg "_law_kind" = some (.ref a.aKind)
  FKind : Fun K "_law_kind" "_law_kind" sKind a.aKind d.dKind
  bKind : Binds K d.dKind ["_law_text_here"] []
  gStrings : mg "_law_strings" = some (.ref a.aStrings)
  FStrings : Fun K "_law_strings" "_law_strings" sStrings a.aStrings d.dStrings
  bStrings : Binds K d.dStrings ["_law_script", "_law_pairs", "_law_alphabets", "_law_signs"] []
  gLists : mg "_law_lists" = some (.ref a.aLists)
  FLists : Fun K "_law_lists" "_law_lists" sLists a.aLists d.dLists
  bLists : Binds K d.dLists ["_law_box_here", "_law_signs"] []
  gLaw : mg "law" = some (.ref a.aLaw)
  FLaw : Fun K "law" "law" sLaw a.aLaw d.dLaw
  bLaw : Binds K d.dLaw ["_law_script"] []
  gcTaleError : mg "TaleError" = some (.ref a.cTale)
  gcBadAlph : mg "BadAlphabet" = some (.ref a.cBadAlph)
  xBadText : EF K mg "BadText" a.cBadText a.eBadText d.eBadText ["self", "text"]
  xBadSet : EF K mg "BadSet" a.cBadSet a.eBadSet d.eBadSet ["self", "name"]
  clA : Cls K a.cAlphabet
  nL : NoAttr K a.cAlphabet "letters"
  nV : NoAttr K a.cAlphabet "vowels"
  nC : NoAttr K a.cAlphabet "consonants"
  nS : NoAttr K a.cAlphabet "signs"
  joint : Con K a.cAlphabet "JOINT" (.str (S [45])) (.str "-" a.tJoint)
/-- the box of draws -/
def IsBox (H : Hp) (b : Addr) : Prop := ∃ c r : Int, H b = some (.lst [.int c, .int r])
theorem IsBox.fr {H H' : Hp} {b : Addr} {L : List Addr} (h : IsBox H b) (f : Fr L H H') (h1 : b ∉ L) : IsBox H' b := by
  obtain ⟨c, r, e⟩ := h
  exact ⟨c, r, f _ _ h1 e⟩
theorem IsBox.same {H H' : Hp} {b : Addr} (h : IsBox H b) (f : Same H H') : IsBox H' b := h.fr (L := []) (Fr.of_same f) (by simp)
theorem IsBox.ne {H : Hp} {b p : Addr} (h : IsBox H b) (hp : H p = none) : b ≠ p := by
  obtain ⟨c, r, e⟩ := h
  exact ne_of_none e hp
theorem IsBox.laid {H : Hp} {b p : Addr} {o : HO} (h : IsBox H b) (hp : H p = none) : IsBox (upd H p o) b := h.same (Same.upd_new hp)
theorem IsBox.upd {H : Hp} {b p : Addr} {o : HO} (h : IsBox H b) (h1 : b ≠ p) : IsBox (upd H p o) b := by
  obtain ⟨c, r, e⟩ := h
  exact ⟨c, r, upd_oth h1 e⟩
theorem cut_perm {q : List Nat} {r c : Nat} (h : q[r]? = some c) : (c :: (q.take r ++ q.drop (r + 1))).Perm q := by
  have hr : r < q.length := (List.getElem?_eq_some_iff.mp h).1
  have hc : q[r] = c := (List.getElem?_eq_some_iff.mp h).2
  have e : q.take r ++ c :: q.drop (r + 1) = q := by
    rw [← hc, ← List.drop_eq_getElem_cons hr, List.take_append_drop]
  exact List.perm_middle.symm.trans (List.Perm.of_eq e)
def kStrA1_0 : List Nat := [32, 33, 34, 35, 36, 38, 39, 40, 41, 42, 43, 44, 45, 46, 47, 48, 49, 50, 51, 52, 53, 54, 55, 56, 57, 58, 59, 60, 61, 62, 63, 64, 65, 66, 67, 68, 69, 70, 71, 72, 73, 74, 75, 76, 77, 78, 79, 80, 81, 82, 83, 84, 85, 86, 87, 88, 89, 90, 91, 92, 93, 94, 95, 96]
theorem kStrA1_0_eq : PySem.Str.ofString " !\"#$&'()*+,-./0123456789:;<=>?@ABCDEFGHIJKLMNOPQRSTUVWXYZ[\\]^_`" = S kStrA1_0 := by decide +kernel
def kStrA1_1 : List Nat := [97, 98, 99, 100, 101, 102, 103, 104, 105, 106, 107, 108, 109, 110, 111, 112, 113, 114, 115, 116, 117, 118, 119, 120, 121, 122, 123, 124, 125, 126, 10, 9]
theorem kStrA1_1_eq : PySem.Str.ofString "abcdefghijklmnopqrstuvwxyz{|}~\n\t" = S kStrA1_1 := by decide +kernel
section
variable {P : Program} {w : World} {K : PySem.W.Frag} {mg : Str → Option Value} {base : Heap} {a : Ad} {d : Fd}
def spTake : Sp := fun vs H Q _ => ∃ (b : Addr) (n : Nat), vs = [.ref b, .int (n : Int)] ∧ IsBox H b ∧ 0 < n ∧ n < 2 ^ 30 ∧ ∀ (r : Nat) (H' : Hp), r < n → IsBox H' b → Fr [b] H H' → Q (.int (r : Int)) H'
theorem scTake : FnScope ["_law_box_here", "_law_size", "_law_digit", "_law_mixed"] ["_law_box_here", "_law_size"] (defScope sTake) := ⟨rfl, rfl, rfl, by decide +kernel, rfl, by decide +kernel, by decide +kernel⟩
theorem ok_take (T : Fns K mg a d) : FnOk P w K mg base CX0 1 a.aTake d.dTake ["_law_box_here", "_law_size"] spTake := by
  refine T.FTake.ok scTake (fun vs H Q E h => ?_) (fun cdv A outer s H vs Q E hr h => ?_)
  · obtain ⟨b, n, rfl, _⟩ := h
    rfl
  · obtain ⟨b, n, rfl, ⟨c, m, hb⟩, hn, hn2, k⟩ := h
    have fin : ∀ (z : Int) (H' : Hp), IsBox H' b → Fr [b] H H' → Q (.int (z % (n : Int))) H' := fun z H' h1 h2 => by
      have e0 := Int.emod_nonneg z (b := (n : Int)) (by omega)
      have e1 := Int.emod_lt_of_pos z (b := (n : Int)) (by omega)
      obtain ⟨r, hr⟩ : ∃ r : Nat, z % (n : Int) = (r : Int) := ⟨(z % (n : Int)).toNat, by omega⟩
      rw [hr]
      exact k r H' (by omega) h1 h2
    clear k
    refine ⟨_, ((pss_cons (ps_if (pt_cmpR op_eq (pe_ix (r := rIxL K) ix_list (pv 0) pe_int (fun _ _ => rfl)) pe_int (nomark _)) (pss_cons (ps_set (i := 2) scTake.nd rfl (Or.inl rfl) (pe_op op_mod (pe_callTy call_int1 (by rfl) T.z_int (by decide +kernel) (pa_cons (pe_ix (r := rIxL K) ix_list (pv 0) pe_int (fun _ _ => rfl)) pa_nil)) (pv 1)))
      (pss_cons (ps_asg (pe_op op_fdivN (pe_callTy call_int1 (by rfl) T.z_int (by decide +kernel) (pa_cons (pe_ix (r := rIxL K) ix_list (pv 0) pe_int (fun _ _ => rfl)) pa_nil)) (pv 1)) (pg_sub (pv 0) pe_int set_list))
      (pss_one (ps_ret (pv 2))))) pss_nil)
      (pss_cons (ps_asg (pe_op op_add (pe_ix (r := rIxL K) ix_list (pv 0) pe_int (fun _ _ => rfl)) pe_int) (pg_sub (pv 0) pe_int set_list))
      (pss_cons (ps_set (i := 3) scTake.nd rfl (Or.inl rfl) (pe_op op_mod (pe_callTy call_int1 (by rfl) T.z_int (by decide +kernel) (pa_cons (pe_op op_add (pe_op op_add (pe_op op_mul (pe_ix (r := rIxL K) ix_list (pv 0) pe_int (fun _ _ => rfl)) pe_int) (pe_op op_mul (pe_ix (r := rIxL K) ix_list (pv 0) pe_int (fun _ _ => rfl)) pe_int)) pe_int) pa_nil)) pe_int))
      (pss_cons (ps_set (i := 3) scTake.nd rfl (Or.inl rfl) (pe_op op_mod (pe_callTy call_int1 (by rfl) T.z_int (by decide +kernel) (pa_cons (pe_op op_mul (pv 3) (pe_op op_add (pe_op op_mod (pe_callTy call_int1 (by rfl) T.z_int (by decide +kernel) (pa_cons (pv 3) pa_nil)) pe_int) pe_int)) pa_nil)) pe_int))
      (pss_one (ps_ret (pe_op op_mod (pe_callTy call_int1 (by rfl) T.z_int (by decide +kernel) (pa_cons (pe_op op_add (pe_op op_fdiv (pv 3) pe_int) (pe_op op_fdiv (pv 3) pe_int)) pa_nil)) (pv 1))))))))), ?_⟩
    walk_at "go"
    · exact fin _ _ ⟨_, _, upd_same⟩ (by walk_at "fr")
    · exact fin _ _ ⟨_, _, upd_same⟩ (by walk_at "fr")
def spBox (K : PySem.W.Frag) : Sp := fun vs H Q _ => ∃ (x : Addr) (ns : List Int) (k : Nat), vs = [.ref x, .int (k : Int)] ∧ SqL K H x (ns.map V.int) ∧ ns.length ≤ 63 ∧ k ≤ 63 ∧ ∀ (b : Addr) (H' : Hp), H b = none → IsBox H' b → Same H H' → Q (.ref b) H'
theorem scBox : FnScope ["_law_script", "_law_k", "_law_cell"] ["_law_script", "_law_k"] (defScope sBox) := ⟨rfl, rfl, rfl, by decide +kernel, rfl, by decide +kernel, by decide +kernel⟩
theorem ok_box (T : Fns K mg a d) : FnOk P w K mg base CX0 1 a.aBox d.dBox ["_law_script", "_law_k"] (spBox K) := by
  refine T.FBox.ok scBox (fun vs H Q E h => ?_) (fun cdv A outer s H vs Q E hr h => ?_)
  · obtain ⟨x, ns, k, rfl, _⟩ := h
    rfl
  · obtain ⟨x, ns, kk, rfl, hS, hl, hk, k⟩ := h
    have fin : ∀ (c r : Int) (b : Addr), H b = none → Q (.ref b) (upd H b (.lst [.int c, .int r])) := fun c r b hb => k b _ hb ⟨_, _, upd_same⟩ (Same.upd_new hb)
    clear k
    refine ⟨_, ((pss_cons (ps_if (pt_not (pt_truth (pv 0) (by intro _; rfl))) (pss_one (ps_ret (pe_lst (pa_cons pe_int (pa_cons pe_int pa_nil))))) pss_nil)
      (pss_cons (ps_set (i := 2) scBox.nd rfl (Or.inl rfl) (pe_op op_add (pe_callB call_abs (by rfl) T.z_abs (by decide +kernel) (pa_cons (pe_callTy call_int1 (by rfl) T.z_int (by decide +kernel) (pa_cons (pe_ix (r := rIxL K) ix_list (pv 0) (pe_op op_mod (pe_callTy call_int1 (by rfl) T.z_int (by decide +kernel) (pa_cons (pv 1) pa_nil)) (pe_callB call_len_seq (by rfl) T.z_len (by decide +kernel) (pa_cons (pv 0) pa_nil))) (fun _ _ => rfl)) pa_nil)) pa_nil)) (pe_op op_mul pe_int (pe_op op_fdivN (pe_callTy call_int1 (by rfl) T.z_int (by decide +kernel) (pa_cons (pv 1) pa_nil)) (pe_callB call_len_seq (by rfl) T.z_len (by decide +kernel) (pa_cons (pv 0) pa_nil))))))
      (pss_cons (ps_if (pt_cmpR op_lt (pv 2) (pe_op op_pow pe_int pe_int) (nomark _)) (pss_one (ps_ret (pe_lst (pa_cons (pv 2) (pa_cons pe_int pa_nil))))) pss_nil)
      (pss_one (ps_ret (pe_lst (pa_cons (pv 2) (pa_cons pe_int pa_nil))))))))), ?_⟩
    by_cases hpos : 0 < ns.length
    · walk_at "go"
      · exact fin _ _ _ (by assumption)
      · have hlt : kk % ns.length < ns.length := Nat.mod_lt _ hpos
        refine iIxL hS (v := .int (ns[kk % ns.length]'hlt)) ?_ ?_
        · rw [List.length_map, ← Int.natCast_emod]
          exact atI_nat (j := kk % ns.length) (by rw [List.getElem?_map, List.getElem?_eq_getElem hlt]; rfl)
        walk_at "go"
        rw [List.length_map]
        walk_at "go"
        · exact fin _ _ _ (by assumption)
        · exact fin _ _ _ (by assumption)
    · have hne : ns = [] := List.eq_nil_of_length_eq_zero (by omega)
      subst hne
      walk_at "go"
      · exact fin _ _ _ (by assumption)
def spPick : Sp := fun vs H Q _ => ∃ (b : Addr) (t : List Nat) (m : Nat), vs = [.ref b, .str (S t), .int (m : Int)] ∧ IsBox H b ∧ m ≤ t.length ∧ t.length ≤ 1000 ∧
  ∀ (p : List Nat) (H' : Hp), p.length = m → (∃ q, (p ++ q).Perm t) → IsBox H' b → Fr [b] H H' → Q (.str (S p)) H'
theorem scPick : FnScope ["_law_box_here", "_law_string", "_law_many", "_law_picked", "_law_turn", "_law_at"] ["_law_box_here", "_law_string", "_law_many"] (defScope sPick) := ⟨rfl, rfl, rfl, by decide +kernel, rfl, by decide +kernel, by decide +kernel⟩
theorem ok_pick (T : Fns K mg a d) : FnOk P w K mg base CX0 2 a.aPick d.dPick ["_law_box_here", "_law_string", "_law_many"] spPick := by
  have GTake : FnOk P w K mg base CX0 1 a.aTake d.dTake ["_law_box_here", "_law_size"] spTake := ok_take T
  refine T.FPick.ok scPick (fun vs H Q E h => ?_) (fun cdv A outer s H vs Q E hr h => ?_)
  · obtain ⟨b, t, m, rfl, _⟩ := h
    rfl
  · obtain ⟨b, t, m, rfl, hB, hm, ht, k⟩ := h
    refine ⟨_, ((pss_cons (ps_set (i := 3) scPick.nd rfl (Or.inl rfl) (pe_strS (l := []) (by decide +kernel)))
      (pss_cons (ps_for PassesOwn.never rfl (pi_range1 (by rfl) T.z_range (pa_cons (pv 2) pa_nil)) (pg_name (i := 4) scPick.nd rfl (Or.inl rfl)) (pss_cons (ps_set (i := 5) scPick.nd rfl (Or.inl rfl) (pe_call GTake (hr.mono (by decide)) (by rfl) T.gTake T.FTake.kp T.bTake .nil pass0 (pa_cons (pv 0) (pa_cons (pe_callB call_lenS (by rfl) T.z_len (by decide +kernel) (pa_cons (pv 1) pa_nil)) pa_nil))))
      (pss_cons (ps_set (i := 3) scPick.nd rfl (Or.inl rfl) (pe_op op_addS (pv 3) (pe_ix ix_str (pv 1) (pv 5) (fun _ _ => rfl))))
      (pss_one (ps_set (i := 1) scPick.nd rfl (Or.inl rfl) (pe_op op_addS (pe_slice sl_str (pv 1) po_none (po_some (pv 5))) (pe_slice sl_str (pv 1) (po_some (pe_op op_add (pv 5) pe_int)) po_none)))))))
      (pss_one (ps_ret (pv 3)))))), ?_⟩
    walk_at "go"
    refine for_range (lo := 0) (n := m) (fun i σ H' => Stop (∃ (p q : List Nat) (v4 v5 : Option V), σ = [some (.ref b), some (.str (S q)), some (.int (m : Int)), some (.str (S p)), v4, v5] ∧ p.length = i ∧ (p ++ q).Perm t ∧ IsBox H' b ∧ Fr [b] H H'))
      ⟨[], t, none, none, rfl, rfl, List.Perm.refl _, hB, Fr.refl _ _⟩ ?_ ?_
    · rintro i σ H1 hi ⟨p, q, v4, v5, rfl, hp, hpq, hB1, hk1⟩
      have hlen : p.length + q.length = t.length := by rw [← List.length_append]; exact hpq.length_eq
      walk_at "go"
      refine ⟨b, q.length, rfl, hB1, by omega, by omega, fun r H2 hrn hB2 hk2 => ?_⟩
      have hc : q[r]? = some q[r] := List.getElem?_eq_getElem hrn
      generalize q[r] = c at hc
      walk_at "go"
      refine ⟨p ++ [c], q.take r ++ q.drop (r + 1), _, _, rfl, by simp [hp], ?_, hB2, Fr.trans hk1 hk2⟩
      rw [List.append_assoc]
      exact ((cut_perm hc).append_left p).trans hpq
    · rintro σ H1 ⟨p, q, v4, v5, rfl, hp, hpq, hB1, hk1⟩
      walk_at "go"
      exact k p H1 hp ⟨q, hpq⟩ hB1 hk1
def spChar : Sp := fun vs H Q _ => ∃ b : Addr, vs = [.ref b] ∧ IsBox H b ∧ ∀ (c : Nat) (H' : Hp), c < 128 → IsBox H' b → Fr [b] H H' → Q (.str (S [c])) H'
theorem scChar : FnScope ["_law_box_here", "_law_chars"] ["_law_box_here"] (defScope sChar) := ⟨rfl, rfl, rfl, by decide +kernel, rfl, by decide +kernel, by decide +kernel⟩
theorem ok_char (T : Fns K mg a d) : FnOk P w K mg base CX0 2 a.aChar d.dChar ["_law_box_here"] spChar := by
  have GTake : FnOk P w K mg base CX0 1 a.aTake d.dTake ["_law_box_here", "_law_size"] spTake := ok_take T
  refine T.FChar.ok scChar (fun vs H Q E h => ?_) (fun cdv A outer s H vs Q E hr h => ?_)
  · obtain ⟨b, rfl, _⟩ := h
    rfl
  · obtain ⟨b, rfl, hB, k⟩ := h
    refine ⟨_, ((pss_cons (ps_set (i := 1) scChar.nd rfl (Or.inl rfl) (pe_strS (l := kStrA1_0) kStrA1_0_eq))
      (pss_cons (ps_set (i := 1) scChar.nd rfl (Or.inl rfl) (pe_op op_addS (pv 1) (pe_strS (l := kStrA1_1) kStrA1_1_eq)))
      (pss_one (ps_ret (pe_ix ix_str (pv 1) (pe_call GTake (hr.mono (by decide)) (by rfl) T.gTake T.FTake.kp T.bTake .nil pass0 (pa_cons (pv 0) (pa_cons pe_int pa_nil))) (fun _ _ => rfl))))))), ?_⟩
    have l0 : kStrA1_0.length = 64 := by decide +kernel
    have l1 : kStrA1_1.length = 32 := by decide +kernel
    walk_at "go"
    refine ⟨b, 96, rfl, hB, by decide, by decide, fun r H2 hrn hB2 hk2 => ?_⟩
    have hc : (kStrA1_0 ++ kStrA1_1)[r]? = some (kStrA1_0 ++ kStrA1_1)[r] := List.getElem?_eq_getElem (by rw [List.length_append, l0, l1]; omega)
    have hm : ∀ c ∈ kStrA1_0 ++ kStrA1_1, c < 128 := by decide +kernel
    have hl := hm _ (List.getElem_mem (by rw [List.length_append, l0, l1]; omega : r < (kStrA1_0 ++ kStrA1_1).length))
    generalize (kStrA1_0 ++ kStrA1_1)[r] = c at hc hl
    refine iIxS (by rw [List.length_append, l0, l1]; omega) (atI_nat hc) ?_
    exact k c H2 hl hB2 hk2
end
end
section
set_option Elab.async false
set_option linter.all false
set_option maxRecDepth 100000
set_option maxHeartbeats 2000000
open PySem PySem.Spec PyProof.Rows L2

local macro_rules | `(tactic| walk_at "side") => `(tactic| exact .inl (by assumption))
def kStrA2_0 : List Nat := [106, 111, 105, 110, 116, 115]
theorem kStrA2_0_eq : PySem.Str.ofString "joints" = S kStrA2_0 := by decide +kernel
def kStrA2_1 : List Nat := [99, 111, 110, 115, 111, 110, 97, 110, 116, 115]
theorem kStrA2_1_eq : PySem.Str.ofString "consonants" = S kStrA2_1 := by decide +kernel
def kStrA2_2 : List Nat := [118, 111, 119, 101, 108, 115]
theorem kStrA2_2_eq : PySem.Str.ofString "vowels" = S kStrA2_2 := by decide +kernel
def kStrA2_3 : List Nat := [108, 101, 116, 116, 101, 114, 115]
theorem kStrA2_3_eq : PySem.Str.ofString "letters" = S kStrA2_3 := by decide +kernel
/-! names of sets, and which signs they have -/
def nmAll : List Nat := [97, 108, 108]
def nmLet : List Nat := [108, 101, 116, 116, 101, 114, 115]
def nmVow : List Nat := [118, 111, 119, 101, 108, 115]
def nmCon : List Nat := [99, 111, 110, 115, 111, 110, 97, 110, 116, 115]
def nmJoi : List Nat := [106, 111, 105, 110, 116, 115]
def mid (l : List Nat) : List Nat := (l.take (l.length - 1)).drop 1
theorem cut_mid (l : List Nat) : cutS (S l) (some 1) (some (-1)) = S (mid l) := by
  rw [S_cut]
  congr 1
  unfold mid
  have e1 : HT.sIx l.length 0 (some 1) = min 1 l.length := by
    unfold HT.sIx
    simp only []
    split <;> omega
  have e2 : HT.sIx l.length l.length (some (-1)) = l.length - 1 := by
    unfold HT.sIx
    simp only []
    split <;> omega
  rw [e1, e2, List.drop_take]
  by_cases h : 1 ≤ l.length
  · rw [Nat.min_eq_left h]
  · have hl : l = [] := List.eq_nil_of_length_eq_zero (by omega)
    subst hl
    rfl
theorem mid_br (li : List Nat) : mid ([91] ++ li ++ [93]) = li := by
  unfold mid
  have e : ([91] ++ li ++ [93] : List Nat).length - 1 = ([91] ++ li).length := by simp
  rw [e, List.take_left]
  rfl
theorem mid_len (l : List Nat) : (mid l).length ≤ l.length := by
  unfold mid
  rw [List.length_drop, List.length_take]
  omega
section
variable {P : Program} {w : World} {K : PySem.W.Frag} {mg : Str → Option Value} {base : Heap} {a : Ad} {d : Fd}
theorem low_cut {t : List Nat} (h : ∀ c ∈ t, c < 128) (i j : Nat) : ∀ c ∈ (t.take i).drop j, c < 128 := fun c hc => h c (List.mem_of_mem_take (List.mem_of_mem_drop hc))
theorem low_app {t u : List Nat} (h : ∀ c ∈ t, c < 128) (k : ∀ c ∈ u, c < 128) : ∀ c ∈ t ++ u, c < 128 := fun c hc => (List.mem_append.mp hc).elim (h c) (k c)
theorem low_take {t : List Nat} (h : ∀ c ∈ t, c < 128) (i : Nat) : ∀ c ∈ t.take i, c < 128 := fun c hc => h c (List.mem_of_mem_take hc)
theorem low_drop {t : List Nat} (h : ∀ c ∈ t, c < 128) (i : Nat) : ∀ c ∈ t.drop i, c < 128 := fun c hc => h c (List.mem_of_mem_drop hc)
theorem low_one {c : Nat} (h : c < 128) : ∀ x ∈ [c], x < 128 := fun x hx => by rw [List.mem_singleton] at hx; rw [hx]; exact h
def spChanged : Sp := fun vs H Q _ => ∃ (b : Addr) (t : List Nat), vs = [.ref b, .str (S t)] ∧ IsBox H b ∧ t.length ≤ 1000 ∧ (∀ c ∈ t, c < 128) ∧ ∀ (u : List Nat) (H' : Hp), u.length ≤ t.length + 1 → (∀ c ∈ u, c < 128) → IsBox H' b → Fr [b] H H' → Q (.str (S u)) H'
theorem scChanged : FnScope ["_law_box_here", "_law_string", "_law_way", "_law_at"] ["_law_box_here", "_law_string"] (defScope sChanged) := ⟨rfl, rfl, rfl, by decide +kernel, rfl, by decide +kernel, by decide +kernel⟩
theorem ok_changed (T : Fns K mg a d) : FnOk P w K mg base CX0 3 a.aChanged d.dChanged ["_law_box_here", "_law_string"] spChanged := by
  have GTake : FnOk P w K mg base CX0 1 a.aTake d.dTake ["_law_box_here", "_law_size"] spTake := ok_take T
  have GChar : FnOk P w K mg base CX0 2 a.aChar d.dChar ["_law_box_here"] spChar := ok_char T
  refine T.FChanged.ok scChanged (fun vs H Q E h => ?_) (fun cdv A outer s H vs Q E hr h => ?_)
  · obtain ⟨b, t, rfl, _⟩ := h
    rfl
  · obtain ⟨b, t, rfl, hB, ht, hlow, k⟩ := h
    refine ⟨_, ((pss_cons (ps_set (i := 2) scChanged.nd rfl (Or.inl rfl) (pe_call GTake (hr.mono (by decide)) (by rfl) T.gTake T.FTake.kp T.bTake .nil pass0 (pa_cons (pv 0) (pa_cons pe_int pa_nil))))
      (pss_cons (ps_set (i := 3) scChanged.nd rfl (Or.inl rfl) (pe_call GTake (hr.mono (by decide)) (by rfl) T.gTake T.FTake.kp T.bTake .nil pass0 (pa_cons (pv 0) (pa_cons (pe_op op_add (pe_callB call_lenS (by rfl) T.z_len (by decide +kernel) (pa_cons (pv 1) pa_nil)) pe_int) pa_nil))))
      (pss_cons (ps_if (pt_cmpR op_eq (pv 2) pe_int (nomark _)) (pss_one (ps_ret (pe_op op_addS (pe_op op_addS (pe_slice sl_str (pv 1) po_none (po_some (pv 3))) (pe_call GChar (hr.mono (by decide)) (by rfl) T.gChar T.FChar.kp T.bChar .nil pass0 (pa_cons (pv 0) pa_nil))) (pe_slice sl_str (pv 1) (po_some (pv 3)) po_none)))) pss_nil)
      (pss_cons (ps_if (pt_cmpR op_eq (pv 2) pe_int (nomark _)) (pss_one (ps_ret (pe_op op_addS (pe_op op_addS (pe_slice sl_str (pv 1) po_none (po_some (pv 3))) (pe_call GChar (hr.mono (by decide)) (by rfl) T.gChar T.FChar.kp T.bChar .nil pass0 (pa_cons (pv 0) pa_nil))) (pe_slice sl_str (pv 1) (po_some (pe_op op_add (pv 3) pe_int)) po_none)))) pss_nil)
      (pss_one (ps_ret (pe_op op_addS (pe_slice sl_str (pv 1) po_none (po_some (pv 3))) (pe_slice sl_str (pv 1) (po_some (pe_op op_add (pv 3) pe_int)) po_none))))))))), ?_⟩
    walk_at "go"
    refine ⟨b, 3, rfl, hB, by decide, by decide, fun r H1 hr1 hB1 f1 => ?_⟩
    walk_at "go"
    refine ⟨b, t.length + 1, rfl, hB1, by omega, by omega, fun i H2 hi hB2 f2 => ?_⟩
    walk_at "go"
    · refine ⟨b, rfl, hB2, fun c H3 hc hB3 f3 => ?_⟩
      walk_at "go"
      exact k _ H3 (by simp; omega) (low_app (low_app (low_take hlow i) (low_one hc)) (low_drop hlow i)) hB3 (Fr.trans (Fr.trans f1 f2) f3)
    · refine ⟨b, rfl, hB2, fun c H3 hc hB3 f3 => ?_⟩
      walk_at "go"
      exact k _ H3 (by simp; omega) (low_app (low_app (low_take hlow i) (low_one hc)) (low_drop hlow (i + 1))) hB3 (Fr.trans (Fr.trans f1 f2) f3)
    · exact k _ H2 (by simp; omega) (low_app (low_take hlow i) (low_drop hlow (i + 1))) hB2 (Fr.trans f1 f2)
def stN (b : Addr) (sg : List Nat) (way : Nat) (nm ins : List Nat) (v5 v6 : Option V) : L2.St := [some (.ref b), some (.str (S sg)), some (.int (way : Int)), some (.str (S nm)), some (.str (S ins)), v5, v6]
def tN (lo hi : Nat) : TS := fun D σ H => ∃ (b : Addr) (sg : List Nat) (way : Nat) (nm ins : List Nat) (v5 v6 : Option V), σ = stN b sg way nm ins v5 v6 ∧ IsBox H b ∧ 0 < sg.length ∧ sg.length ≤ 6 ∧ (∀ c ∈ sg, c < 128) ∧ nm.length ≤ 18 ∧ (∀ c ∈ nm, c < 128) ∧ ins.length ≤ lo ∧ (∀ c ∈ ins, c < 128) ∧
  ∀ (nm' ins' : List Nat) (v5' v6' : Option V) (H' : Hp), nm'.length ≤ 18 → (∀ c ∈ nm', c < 128) → ins'.length ≤ hi → (∀ c ∈ ins', c < 128) → IsBox H' b → Fr [b] H H' → D.nx (stN b sg way nm' ins' v5' v6') H'
theorem low_br {t : List Nat} (h : ∀ c ∈ t, c < 128) : ∀ c ∈ [91] ++ t ++ [93], c < 128 := low_app (low_app (low_one (by decide)) h) (low_one (by decide))
def spName : Sp := fun vs H Q _ => ∃ (b : Addr) (sg : List Nat), vs = [.ref b, .str (S sg)] ∧ IsBox H b ∧ 0 < sg.length ∧ sg.length ≤ 6 ∧ (∀ c ∈ sg, c < 128) ∧ ∀ (nm : List Nat) (H' : Hp), nm.length ≤ 20 → (∀ c ∈ nm, c < 128) → IsBox H' b → Fr [b] H H' → Q (.str (S nm)) H'
theorem scName : FnScope ["_law_box_here", "_law_signs", "_law_way", "_law_name_here", "_law_inside", "_law_sign", "_law_turn"] ["_law_box_here", "_law_signs"] (defScope sName) := ⟨rfl, rfl, rfl, by decide +kernel, rfl, by decide +kernel, by decide +kernel⟩
theorem ok_name (T : Fns K mg a d) : FnOk P w K mg base CX0 4 a.aName d.dName ["_law_box_here", "_law_signs"] spName := by
  have GTake : FnOk P w K mg base CX0 1 a.aTake d.dTake ["_law_box_here", "_law_size"] spTake := ok_take T
  have GChanged : FnOk P w K mg base CX0 3 a.aChanged d.dChanged ["_law_box_here", "_law_string"] spChanged := ok_changed T
  refine T.FName.ok scName (fun vs H Q E h => ?_) (fun cdv A outer s H vs Q E hr h => ?_)
  · obtain ⟨b, sg, rfl, _⟩ := h
    rfl
  · obtain ⟨b, sg, rfl, hB, hs0, hs1, hlow, k⟩ := h
    refine ⟨_, ((pss_cons (ps_set (i := 2) scName.nd rfl (Or.inl rfl) (pe_call GTake (hr.mono (by decide)) (by rfl) T.gTake T.FTake.kp T.bTake .nil pass0 (pa_cons (pv 0) (pa_cons pe_int pa_nil))))
      (pss_cons (ps_set (i := 3) scName.nd rfl (Or.inl rfl) (pe_ix (r := rIxL K) ix_list (pe_lst (pa_cons (pe_strS (l := [97, 108, 108]) (by decide +kernel)) (pa_cons (pe_strS (l := kStrA2_3) kStrA2_3_eq) (pa_cons (pe_strS (l := kStrA2_2) kStrA2_2_eq) (pa_cons (pe_strS (l := kStrA2_1) kStrA2_1_eq) (pa_cons (pe_strS (l := kStrA2_0) kStrA2_0_eq) pa_nil)))))) (pe_call GTake (hr.mono (by decide)) (by rfl) T.gTake T.FTake.kp T.bTake .nil pass0 (pa_cons (pv 0) (pa_cons pe_int pa_nil))) (fun _ _ => rfl)))
      (pss_cons (ps_set (i := 4) scName.nd rfl (Or.inl rfl) (pe_strS (l := []) (by decide +kernel)))
      (pss_cons (PS.imp (t' := tN 0 6) (ps_if (PW.pt (pw_or (pt_cmpR op_eq (pv 2) pe_int (nomark _)) (pw_or1 (pt_cmpR op_eq (pv 2) pe_int (nomark _))))) (pss_cons (ps_for PassesOwn.never rfl (pi_str (pv 1)) (pg_name (i := 5) scName.nd rfl (Or.inl rfl)) (pss_one (ps_if (pt_cmpR op_eq (pe_call GTake (hr.mono (by decide)) (by rfl) T.gTake T.FTake.kp T.bTake .nil pass0 (pa_cons (pv 0) (pa_cons pe_int pa_nil))) pe_int (nomark _)) (pss_one (ps_set (i := 4) scName.nd rfl (Or.inl rfl) (pe_op op_addS (pv 4) (pv 5)))) pss_nil)))
      (pss_one (ps_set (i := 3) scName.nd rfl (Or.inl rfl) (pe_op op_addS (pe_op op_addS (pe_strS (l := [91]) (by decide +kernel)) (pv 4)) (pe_strS (l := [93]) (by decide +kernel)))))) pss_nil) ?h3)
      (pss_cons (PS.imp (t' := tN 6 12) (ps_if (PW.pt (pw_or (pt_cmpR op_eq (pv 2) pe_int (nomark _)) (pw_or1 (pt_cmpR op_eq (pv 2) pe_int (nomark _))))) (pss_cons (ps_for PassesOwn.never rfl (pi_range1 (by rfl) T.z_range (pa_cons (pe_call GTake (hr.mono (by decide)) (by rfl) T.gTake T.FTake.kp T.bTake .nil pass0 (pa_cons (pv 0) (pa_cons pe_int pa_nil))) pa_nil)) (pg_name (i := 6) scName.nd rfl (Or.inl rfl)) (pss_one (ps_set (i := 4) scName.nd rfl (Or.inl rfl) (pe_op op_addS (pv 4) (pe_ix ix_str (pv 1) (pe_call GTake (hr.mono (by decide)) (by rfl) T.gTake T.FTake.kp T.bTake .nil pass0 (pa_cons (pv 0) (pa_cons (pe_callB call_lenS (by rfl) T.z_len (by decide +kernel) (pa_cons (pv 1) pa_nil)) pa_nil))) (fun _ _ => rfl))))))
      (pss_one (ps_set (i := 3) scName.nd rfl (Or.inl rfl) (pe_op op_addS (pe_op op_addS (pe_strS (l := [91]) (by decide +kernel)) (pv 4)) (pe_strS (l := [93]) (by decide +kernel)))))) pss_nil) ?h4)
      (pss_cons (ps_if (PW.pt (pw_or (pt_cmpR op_eq (pv 2) pe_int (nomark _)) (pw_or (pt_cmpR op_eq (pv 2) pe_int (nomark _)) (pw_or1 (pt_cmpR op_eq (pv 2) pe_int (nomark _)))))) (pss_one (ps_ret (pe_call GChanged (hr.mono (by decide)) (by rfl) T.gChanged T.FChanged.kp T.bChanged .nil pass0 (pa_cons (pv 0) (pa_cons (pv 3) pa_nil))))) pss_nil)
      (pss_one (ps_ret (pv 3)))))))))), ?_⟩
    case h3 =>
      rintro ⟨D1, D2, D3, D4⟩ σ H ⟨b, sg, way, nm, ins, v5, v6, rfl, hB, hs0, hs1, hlow, hn, hnl, hi, hil, k⟩
      have loop : ∀ (Z : L2.St → Hp → Prop), True := fun _ => trivial
      unfold stN at *
      by_cases hw : way = 2 ∨ way = 3
      · have go : ∀ R : Prop, R → R := fun _ h => h
        rcases hw with rfl | rfl
        all_goals
          walk_at "go"
          refine for_S (l := sg) (fun i σ H' => Stop (∃ (q : List Nat) (u5 : Option V), σ = [some (.ref b), some (.str (S sg)), some (.int _), some (.str (S nm)), some (.str (S q)), u5, v6] ∧ q.length ≤ i ∧ (∀ c ∈ q, c < 128) ∧ IsBox H' b ∧ Fr [b] H H'))
            ⟨ins, v5, rfl, by omega, hil, hB, Fr.refl _ _⟩ ?_ ?_
          · rintro i c σ H1 hc ⟨q, u5, rfl, hq, hql, hB1, f1⟩
            have hcm := hlow c (List.mem_of_getElem? hc)
            have hi6 := (List.getElem?_eq_some_iff.mp hc).1
            walk_at "go"
            refine ⟨b, 2, rfl, hB1, by decide, by decide, fun r H2 hr2 hB2 f2 => ?_⟩
            walk_at "go"
            · exact ⟨q ++ [c], _, rfl, by simp; omega, low_app hql (low_one hcm), hB2, Fr.trans f1 f2⟩
            · exact ⟨q, _, rfl, by omega, hql, hB2, Fr.trans f1 f2⟩
          · rintro σ H1 ⟨q, u5, rfl, hq, hql, hB1, f1⟩
            walk_at "go"
            exact k _ q _ _ _ (by simp; omega) (low_br hql) (by omega) hql hB1 f1
      · walk_at "go"
        exact k nm ins v5 v6 H hn hnl (by omega) hil hB (Fr.refl _ _)
    case h4 =>
      rintro ⟨D1, D2, D3, D4⟩ σ H ⟨b, sg, way, nm, ins, v5, v6, rfl, hB, hs0, hs1, hlow, hn, hnl, hi, hil, k⟩
      unfold stN at *
      by_cases hw : way = 4 ∨ way = 5
      · rcases hw with rfl | rfl
        all_goals
          walk_at "go"
          refine ⟨b, 7, rfl, hB, by decide, by decide, fun m H1 hm hB1 f1 => ?_⟩
          walk_at "go"
          refine for_R (fun i σ H' => Stop (∃ (q : List Nat) (u6 : Option V), σ = [some (.ref b), some (.str (S sg)), some (.int _), some (.str (S nm)), some (.str (S q)), v5, u6] ∧ q.length ≤ 6 + i ∧ (∀ c ∈ q, c < 128) ∧ IsBox H' b ∧ Fr [b] H H'))
            ⟨ins, v6, rfl, by omega, hil, hB1, f1⟩ ?_ ?_
          · rintro i σ H1 hi2 ⟨q, u5, rfl, hq, hql, hB1, f1⟩
            walk_at "go"
            refine ⟨b, sg.length, rfl, hB1, by omega, by omega, fun r H2 hr2 hB2 f2 => ?_⟩
            have hc : sg[r]? = some sg[r] := List.getElem?_eq_getElem hr2
            have hcm := hlow _ (List.getElem_mem hr2)
            generalize sg[r] = c at hc hcm
            walk_at "go"
            exact ⟨q ++ [c], _, rfl, by simp; omega, low_app hql (low_one hcm), hB2, Fr.trans f1 f2⟩
          · rintro σ H1 ⟨q, u5, rfl, hq, hql, hB1, f1⟩
            walk_at "go"
            exact k _ q _ _ _ (by simp; omega) (low_br hql) (by omega) hql hB1 f1
      · walk_at "go"
        exact k nm ins v5 v6 H hn hnl (by omega) hil hB (Fr.refl _ _)
    walk_at "go"
    refine ⟨b, 6, rfl, hB, by decide, by decide, fun way H1 hway hB1 f1 => ?_⟩
    walk_at "go"
    rename_i p hp
    refine ⟨b, 5, rfl, hB1.laid hp, by decide, by decide, fun r H2 hr2 hB2 f2 => ?_⟩
    have hp2 : H2 p = some _ := f2 p _ (by simp; exact (hB1.ne hp).symm) upd_same
    obtain ⟨nm, hnm, hn, hnl⟩ : ∃ nm : List Nat, [V.str (S [97, 108, 108]), V.str (S kStrA2_3), V.str (S kStrA2_2), V.str (S kStrA2_1), V.str (S kStrA2_0)][r]? = some (V.str (S nm)) ∧ nm.length ≤ 18 ∧ ∀ c ∈ nm, c < 128 := by
      match r, hr2 with
      | 0, _ => exact ⟨_, rfl, by decide +kernel, by decide +kernel⟩
      | 1, _ => exact ⟨_, rfl, by decide +kernel, by decide +kernel⟩
      | 2, _ => exact ⟨_, rfl, by decide +kernel, by decide +kernel⟩
      | 3, _ => exact ⟨_, rfl, by decide +kernel, by decide +kernel⟩
      | 4, _ => exact ⟨_, rfl, by decide +kernel, by decide +kernel⟩
    have f3 : Fr [b] H H2 := Fr.trans f1 (Fr.trans (Fr.upd_new hp) f2)
    refine iIxL (SqL.of hp2) (atI_nat hnm) ?_
    walk_at "go"
    refine ⟨b, sg, way, nm, [], none, none, rfl, hB2, hs0, hs1, hlow, hn, hnl, by simp, by simp, fun nm1 ins1 u5 u6 H3 g1 g2 g3 g4 hB3 f4 => ?_⟩
    walk_at "go"
    refine ⟨b, sg, way, nm1, ins1, u5, u6, rfl, hB3, hs0, hs1, hlow, g1, g2, g3, g4, fun nm2 ins2 w5 w6 H4 j1 j2 j3 j4 hB4 f5 => ?_⟩
    unfold stN
    have f6 : Fr [b] H H4 := Fr.trans f3 (Fr.trans f4 f5)
    walk_at "go"
    all_goals first
      | exact k nm2 H4 (by omega) j2 hB4 f6
      | exact ⟨b, nm2, rfl, hB4, by omega, j2, fun u H5 hu hul hB5 f7 => k u H5 (by omega) hul hB5 (Fr.trans f6 f7)⟩
end
end
section
set_option Elab.async false
set_option linter.all false
set_option maxRecDepth 100000
set_option maxHeartbeats 2000000
open PySem PySem.Spec PyProof.Rows L2 L2H

local macro_rules | `(tactic| walk_at "side") => `(tactic| exact .inl (by assumption))

def Tx (t : List Nat) : Prop := t.length ≤ 100 ∧ ∀ c ∈ t, c < 0x110000
theorem repr_tx {t : List Nat} (h : Tx t) : (reprText (S t)).length ≤ 1002 := by
  have h1 := PySem.StrLaws.reprText_len (S t) (fun c hc => by
    rw [S_cps] at hc
    have := h.2 c hc
    omega)
  rw [S_len] at h1
  have := h.1
  omega
theorem al2 (a b : Str) : (a ++ b).length = a.length + b.length := by
  show (a.cps ++ b.cps).size = _
  rw [Array.size_append]
  rfl
theorem sl4 {n : Nat} (h : n ≤ 4000) : n ≤ sizeLine := by rw [sizeLine_eq]; omega
theorem e0l : Str.empty.length = 0 := by decide +kernel
def PostE (B b : Addr) (E : XK) (H1 : Hp) : VK := fun v H2 => v = .non ∧ ∃ (d : Addr) (fs : List (Str × V)), H2 b = some (exo b B (some d)) ∧ H2 d = some (exd d fs) ∧ H1 d = none ∧ E (.ref B) (some d) (upd (del H2 b) d (.xd fs))
theorem raise1 {B b : Addr} {H0 H1 : Hp} {E : XK} {f : Str} {y : V} (hb : H1 b = none) (s : Same H0 H1) (k : ∀ d H', H0 d = none → H' d = some (.xd [(f, y)]) → Same H0 H' → E (.ref B) (some d) H') :
    ∀ dx, (upd H1 b (exo b B none)) dx = none → dx ≠ b → PostE B b E H1 .non (upd (upd (upd H1 b (exo b B none)) dx (exd dx [(f, y)])) b (exo b B (some dx))) := by
  intro d hd hn
  refine ⟨rfl, d, [(f, y)], upd_same, ?_, ?_, ?_⟩
  · rw [upd_ne hn, upd_same]
  · rw [upd_ne hn] at hd
    exact hd
  · have h1 : H1 d = none := by
      rw [upd_ne hn] at hd
      exact hd
    exact k d _ (L2.Same.free s h1) upd_same (Vk.Same.trans s (kp_exc hb hd hn))
/-- a field, K named: inside a comprehension -/
theorem pe_fldK {X : Cx} {K : PySem.W.Frag} {e : Expr} {f : Str} {pos : Pos} {ta : TE} (hK : X.K = K) (he : PE X e ta) (hb : attributeBase e f X.env (eval e X.env) = eval e X.env) : PE X (.Attribute e f pos) (tFld K ta f) := hK ▸ pe_fld he hb
theorem passE {X : Cx} {P : Program} {w : World} : Passes (L2.CX P w) X (fun _ _ _ => False) := fun _ _ _ _ _ _ _ h => by
  obtain ⟨_, _, _, _, _, _, _, _, _, _, _, _, z⟩ := h
  exact z.elim
section
variable {P : Program} {w : World} {K : PySem.W.Frag} {mg : Str → Option Value} {base : Heap} {a : Ad} {d : Fd}
/-- what an error's __init__ leaves: one field -/
def spErr (C : Addr) (f : Str) : Sp := fun vs H Q _ => ∃ (a : Addr) (t : List Nat), vs = [.ref a, .str (S t)] ∧ Tx t ∧ H a = some (exo a C none) ∧
  ∀ dx, H dx = none → dx ≠ a → Q .non (upd (upd H dx (exd dx [(f, .str (S t))])) a (exo a C (some dx)))
abbrev sBadText : Stmt := inClass (top 4) 0
theorem scBadText : SScope ["self", "text"] (defScope sBadText) := ⟨rfl, rfl, rfl, by decide +kernel, by decide +kernel, by decide +kernel, fun x h => (show ∀ y ∈ (defScope sBadText).names, y.2 = .free → y.1 = "__class__" by decide +kernel) _ (PySem.mem_of_lookup h) rfl, by decide +kernel, by decide +kernel⟩
theorem ok_eBadText {f C cc cda : Addr} {dV kV doc pm ct oc : Value} {an od : Option Addr} {osl : Array (Option Value)} (T : SupC P K mg C cc cda) (hp : PySem.W.findIn K (.ref C) "text" = some none)
    (lk : K.lookup f = some ⟨oc, od, .func (PySem.W.ksFn "__init__" "BadText.__init__" (defArgs sBadText) (defBody sBadText) (defScope sBadText) dV kV doc pm an (.ref cda) ct cc), osl⟩) (hcd : PySem.W.codeIn K (.ref cda) "BadText.__init__" = true) :
    FnOk P w K mg base CX0 1 f (PySem.W.ksFn "__init__" "BadText.__init__" (defArgs sBadText) (defBody sBadText) (defScope sBadText) dV kV doc pm an (.ref cda) ct cc) ["self", "text"] (spErr C "text") := by
  refine fn_super (self := "self") (N' := ["text"]) T lk hcd scBadText rfl rfl rfl rfl (fun _ => rfl) (fun _ => rfl) (fun vs H Q E h => ?_) (fun A outer s H vs Q E hr h => ?_)
  · obtain ⟨a, z, rfl, _⟩ := h
    rfl
  · obtain ⟨a, z, rfl, hz, ha, k⟩ := h
    refine ⟨_, _, pe_joined (.cons pe_str (.cons (pe_fmtR (pv 1)) .nil)), pss_one (ps_ost (pv 0) (pv 1)), ⟨a, rfl, ha⟩, ?_⟩
    have e1 : (PySem.Str.ofString "not a text of the alphabet: ").length ≤ 100 := by decide +kernel
    have hz2 := repr_tx hz
    refine ⟨_, rfl, sl4 ?_, _, rfl, .inl ⟨S z, rfl, sl4 (by omega), _, rfl, sl4 ?_, ⟨a, rfl, ha⟩, ?_⟩⟩
    · rw [al2, e0l]
      omega
    · rw [al2, al2, e0l]
      omega
    · exact ⟨_, rfl, _, rfl, a, C, rfl, T.oex, hp, .inl ⟨ha, fun dx hd hn => k dx hd hn⟩⟩
abbrev sBadSet : Stmt := inClass (top 5) 0
theorem scBadSet : SScope ["self", "name"] (defScope sBadSet) := ⟨rfl, rfl, rfl, by decide +kernel, by decide +kernel, by decide +kernel, fun x h => (show ∀ y ∈ (defScope sBadSet).names, y.2 = .free → y.1 = "__class__" by decide +kernel) _ (PySem.mem_of_lookup h) rfl, by decide +kernel, by decide +kernel⟩
theorem ok_eBadSet {f C cc cda : Addr} {dV kV doc pm ct oc : Value} {an od : Option Addr} {osl : Array (Option Value)} (T : SupC P K mg C cc cda) (hp : PySem.W.findIn K (.ref C) "name" = some none)
    (lk : K.lookup f = some ⟨oc, od, .func (PySem.W.ksFn "__init__" "BadSet.__init__" (defArgs sBadSet) (defBody sBadSet) (defScope sBadSet) dV kV doc pm an (.ref cda) ct cc), osl⟩) (hcd : PySem.W.codeIn K (.ref cda) "BadSet.__init__" = true) :
    FnOk P w K mg base CX0 1 f (PySem.W.ksFn "__init__" "BadSet.__init__" (defArgs sBadSet) (defBody sBadSet) (defScope sBadSet) dV kV doc pm an (.ref cda) ct cc) ["self", "name"] (spErr C "name") := by
  refine fn_super (self := "self") (N' := ["name"]) T lk hcd scBadSet rfl rfl rfl rfl (fun _ => rfl) (fun _ => rfl) (fun vs H Q E h => ?_) (fun A outer s H vs Q E hr h => ?_)
  · obtain ⟨a, z, rfl, _⟩ := h
    rfl
  · obtain ⟨a, z, rfl, hz, ha, k⟩ := h
    refine ⟨_, _, pe_joined (.cons pe_str (.cons (pe_fmtR (pv 1)) .nil)), pss_one (ps_ost (pv 0) (pv 1)), ⟨a, rfl, ha⟩, ?_⟩
    have e1 : (PySem.Str.ofString "not the name of a set of signs: ").length ≤ 100 := by decide +kernel
    have hz2 := repr_tx hz
    refine ⟨_, rfl, sl4 ?_, _, rfl, .inl ⟨S z, rfl, sl4 (by omega), _, rfl, sl4 ?_, ⟨a, rfl, ha⟩, ?_⟩⟩
    · rw [al2, e0l]
      omega
    · rw [al2, al2, e0l]
      omega
    · exact ⟨_, rfl, _, rfl, a, C, rfl, T.oex, hp, .inl ⟨ha, fun dx hd hn => k dx hd hn⟩⟩
def spIsText (C : Addr) : Sp := fun vs H Q _ => ∃ (al : Addr) (l v t : List Nat), vs = [.ref al, .str (S t)] ∧ IsAl C H al l v ∧ t.length ≤ 4000 ∧ ∀ H', Same H H' → Q (.bl (decide (∀ c ∈ t, c ∈ 45 :: srtL l))) H'
theorem scIsText : FnScope ["self", "text", "sign"] ["self", "text"] (defScope sIsText) := ⟨rfl, rfl, rfl, by decide +kernel, rfl, by decide +kernel, by decide +kernel⟩
theorem ok_isText (T : Fns K mg a d) : FnOk P w K mg base CX0 1 a.aIsText d.dIsText ["self", "text"] (spIsText a.cAlphabet) := by
  have hcl := T.clA
  have hnS := T.nS
  refine T.FIsText.ok scIsText (fun vs H Q E h => ?_) (fun cdv A0 outer s H vs Q E hr h => ?_)
  · obtain ⟨al, l, v, t, rfl, _⟩ := h
    rfl
  · obtain ⟨al, l, v, t, rfl, ⟨dx, hal⟩, ht, k⟩ := h
    refine ⟨_, ((pss_one (ps_ret (pe_callB (cr_all rfl) (by rfl) T.z_all (by decide +kernel) (pa_cons (pe_lc (own := [("sign", 2)]) (g := gName 2) (by rfl) scIsText.nd (pi_str (pv 1)) (blkOk_by (own := [("sign", 2)]) (N := ["self", "text", "sign"]) (sc := defScope sIsText) (by decide +kernel)) (fun _ _ _ _ _ => pg_name (i := 2) scIsText.nd rfl (Or.inl rfl)) (fun _ _ _ _ _ => pts_nil) (fun _ _ _ _ _ => (pe_cmpR op_inS (pv 2) (pe_fldK (K := K) (by rfl) (pv 0) (by rfl)) rfl))) pa_nil))))), ?_⟩
    refine ⟨_, rfl, _, rfl, fun D hD => lc_text (fun _ => true) (fun c => V.bl (decide (c ∈ 45 :: srtL l))) (by omega) (fun _ => rfl) (fun _ _ _ _ _ q => q) (fun c hc _ H2 Q2 off q => ?_) ?_⟩
    · have hal2 : H2 al = some (.ins a.cAlphabet dx (alF l v)) := (off al (ne_of_none hal hD)).trans hal
      exact ⟨_, rfl, _, rfl, al, a.cAlphabet, dx, _, _, rfl, hal2, hcl, hnS, rfl, c, 45 :: srtL l, rfl, rfl, by simpa using q⟩
    · refine ⟨D, t.map (fun c => decide (c ∈ 45 :: srtL l)), rfl, ?_, ?_⟩
      · rw [List.map_map]
        refine SqL.of ?_
        rw [upd_same, List.filter_eq_self.mpr (fun _ _ => rfl)]
        rfl
      · have e3 : (t.map fun c => decide (c ∈ 45 :: srtL l)).all id = decide (∀ c ∈ t, c ∈ 45 :: srtL l) := by
          rw [Bool.eq_iff_iff]
          simp
        rw [e3]
        exact k _ (upd_laid hD)
def spCheck (C BT : Addr) : Sp := fun vs H Q E => ∃ (al : Addr) (l v t : List Nat), vs = [.ref al, .str (S t)] ∧ IsAl C H al l v ∧ Tx t ∧ ((∀ c ∈ t, c ∈ 45 :: srtL l) → ∀ H', Same H H' → Q .non H') ∧
  ((¬ ∀ c ∈ t, c ∈ 45 :: srtL l) → ∀ dd H', H dd = none → H' dd = some (.xd [("text", .str (S t))]) → Same H H' → E (.ref BT) (some dd) H')
theorem scCheck : FnScope ["self", "text"] ["self", "text"] (defScope sCheck) := ⟨rfl, rfl, rfl, by decide +kernel, rfl, by decide +kernel, by decide +kernel⟩
theorem ok_check (T : Fns K mg a d) (GBadText : FnOk P w K mg base CX0 1 a.eBadText d.eBadText ["self", "text"] (spErr a.cBadText "text")) : FnOk P w K mg base (L2.CX P w) 3 a.aCheck d.dCheck ["self", "text"] (spCheck a.cAlphabet a.cBadText) := by
  have GIsText : FnOk P w K mg base CX0 1 a.aIsText d.dIsText ["self", "text"] (spIsText a.cAlphabet) := ok_isText T
  refine T.FCheck.okX scCheck (fun vs H Q E h => ?_) (fun cdv A0 outer s H vs Q E hr h => ?_)
  · obtain ⟨al, l, v, t, rfl, _⟩ := h
    rfl
  · obtain ⟨al, l, v, t, rfl, hal, htx, k1, k2⟩ := h
    obtain ⟨dxa, hal2⟩ := id hal
    refine ⟨_, ((pss_one (ps_if (pt_not (pt_val (pe_meth (pv 0) T.clA T.mIsText GIsText (hr.mono (by decide)) T.bIsText .nil pass0 (pa_cons (pv 1) pa_nil)))) (pss_one (ps_raise rfl (takes_of rfl rfl rfl rfl) (pmk_oex T.xBadText.ox T.xBadText.iC T.xBadText.tI GBadText (hr.mono (by decide)) T.xBadText.bB .nil pass0 (by rfl) T.xBadText.gB (pa_cons (pv 1) pa_nil)))) pss_nil))), ?_⟩
    have ht := htx.1
    walk_at "go"
    refine ⟨al, l, v, t, rfl, hal, by omega, fun H' s1 => ?_⟩
    by_cases hv : ∀ c ∈ t, c ∈ 45 :: srtL l
    · rw [decide_eq_true hv]
      walk_at "go"
      exact k1 hv _ s1
    · rw [decide_eq_false hv]
      walk_at "go"
      exact ⟨_, rfl, by show 1 ≤ 1000; decide, fun b hb => ⟨b, t, rfl, htx, upd_same, raise1 hb s1 fun dd H' h1 h2 h3 => k2 hv dd H' h1 h2 h3⟩⟩
end
end
section
set_option Elab.async false
set_option linter.all false
set_option maxRecDepth 100000
set_option maxHeartbeats 2000000
open PySem PySem.Spec PyProof.Rows L2

local macro_rules | `(tactic| walk_at "side") => `(tactic| exact .inl (by assumption))

theorem dp_all {K : PySem.W.Frag} {H : Hp} : ∀ ys : List Str, DpAll K H (ys.map V.str) (ys.map PyData.str)
  | [] => .nil
  | y :: ys => .cons (.str y) (dp_all ys)
theorem dp_strs {K : PySem.W.Frag} {H : Hp} {a : Addr} {ys : List Str} (h : SqL K H a (ys.map V.str)) : Dp K H (.ref a) (.list (ys.map PyData.str)) := .lst h (dp_all ys)
theorem can_strs : ∀ ys : List Str, (∀ y ∈ ys, PyData.strOk y = true) → PyData.canLayAll0 (ys.map PyData.str) = true
  | [], _ => by simp [PyData.canLayAll0]
  | y :: r, h => by
    have h1 := h y List.mem_cons_self
    have h2 := can_strs r fun z hz => h z (List.mem_cons_of_mem _ hz)
    simp [PyData.canLayAll0, PyData.canLay0, h1, h2]
theorem dep_strs : ∀ ys : List Str, PyData.depthAll (ys.map PyData.str) = 0
  | [] => by simp [PyData.depthAll]
  | _ :: r => by simp [PyData.depthAll, PyData.depth, dep_strs r]
theorem shaped_strs {ys : List Str} (h : ∀ y ∈ ys, PyData.strOk y = true) : SeqAt.shaped (.list (ys.map PyData.str)) = true := by
  simp [SeqAt.shaped, PyData.canLay0, PyData.depth, can_strs ys h, dep_strs]
theorem eqv_strs (ys zs : List Str) : PyData.eqv (.list (ys.map PyData.str)) (.list (zs.map PyData.str)) = decide (ys = zs) := PySem.W.Datum.eqv (α := List Str) ys zs
theorem ok_S {l : List Nat} (h : ∀ c ∈ l, c < 0x110000) : PyData.strOk (S l) = true := by
  show l.toArray.all (fun c => decide (c < 0x110000)) = true
  simp
  exact h
theorem map_S_inj {a b : List Nat} : (a.map fun c => S [c]) = (b.map fun c => S [c]) ↔ a = b := by
  refine ⟨fun e => ?_, fun e => by rw [e]⟩
  have := congrArg (List.map fun z : Str => z.cps.toList.headD 0) e
  rw [List.map_map, List.map_map] at this
  have e1 : ∀ q : List Nat, q.map ((fun z : Str => z.cps.toList.headD 0) ∘ fun c => S [c]) = q := fun q => by
    refine (List.map_congr_left fun c _ => ?_).trans (List.map_id q)
    show (S [c]).cps.toList.headD 0 = c
    rw [S_cps]
    rfl
  rw [e1, e1] at this
  exact this
/-! signs in order, one sign -/
def ascB (sg t : List Nat) : Bool := decide (Differ t sg) && decide (t = srtL t)
def signB (sg t : List Nat) : Bool := match t with
  | [c] => decide (c ∈ sg)
  | _ => false
def setOf (l v nm : List Nat) : Option (List Nat) :=
  if nm = nmAll then some (45 :: srtL l) else if nm = nmLet then some (srtL l) else if nm = nmVow then some (srtL v) else if nm = nmCon then some (consL l v) else if nm = nmJoi then some [45]
  else if mid nm = [] ∨ nm ≠ [91] ++ mid nm ++ [93] ∨ ascB (45 :: srtL l) (mid nm) = false then none else some (mid nm)
section
variable {P : Program} {w : World} {K : PySem.W.Frag} {mg : Str → Option Value} {base : Heap} {a : Ad} {d : Fd}
def spAsc (C : Addr) : Sp := fun vs H Q _ => ∃ (al : Addr) (l v t : List Nat), vs = [.ref al, .str (S t)] ∧ IsAl C H al l v ∧ t.length ≤ 60 ∧ (∀ c ∈ t, c < 0x110000) ∧ ∀ H', Same H H' → Q (.bl (ascB (45 :: srtL l) t)) H'
theorem scAsc : FnScope ["self", "text"] ["self", "text"] (defScope sAsc) := ⟨rfl, rfl, rfl, by decide +kernel, rfl, by decide +kernel, by decide +kernel⟩
theorem ok_asc (T : Fns K mg a d) : FnOk P w K mg base CX0 2 a.aAsc d.dAsc ["self", "text"] (spAsc a.cAlphabet) := by
  have hcl := T.clA
  have hnS := T.nS
  have GDiff : FnOk P w K mg base CX0 1 a.aDiff d.dDiff ["text", "allowed"] spDiff := ok_diff T.FDiff T.toTxA
  refine T.FAsc.ok scAsc (fun vs H Q E h => ?_) (fun cdv A0 outer s H vs Q E hr h => ?_)
  · obtain ⟨al, l, v, t, rfl, _⟩ := h
    rfl
  · obtain ⟨al, l, v, t, rfl, ⟨dx, hal⟩, ht, htc, k⟩ := h
    have hal1 : H al = some (.ins a.cAlphabet dx [("letters", .str (S (srtL l))), ("vowels", .str (S (srtL v))), ("consonants", .str (S (consL l v))), ("signs", .str (S (45 :: srtL l)))]) := hal
    refine ⟨_, ((pss_one (ps_ret (pe_and (pe_call GDiff (hr.mono (by decide)) (by rfl) T.gDiff T.FDiff.kp T.bDiff .nil pass0 (pa_cons (pv 1) (pa_cons (pe_fld (pv 0) rfl) pa_nil))) (pe_one (pe_cmpR (op_eqD hr.units) (pe_callTy (call_listT rfl) (by rfl) T.z_list (by decide +kernel) (pa_cons (pv 1) pa_nil)) (pe_callB (cr_sortT rfl) (by rfl) T.z_sorted (by decide +kernel) (pa_cons (pv 1) pa_nil)) (nomark _))))))), ?_⟩
    walk_at "go"
    refine ⟨t, 45 :: srtL l, rfl, by omega, fun H1 s1 => ?_⟩
    unfold ascB at k
    by_cases hd : Differ t (45 :: srtL l)
    · rw [decide_eq_true hd] at k ⊢
      rw [Bool.true_and] at k
      walk_at "go"
      rename_i p1 hp1
      refine ⟨S t, rfl, (by rw [S_len]; omega), fun ys p2 hp hs n2 => ?_⟩
      rw [signs_S] at hp
      have ey := sorted_signs hp hs
      subst ey
      refine ⟨.list ((t.map fun c => S [c]).map PyData.str), .list (((srtL t).map fun c => S [c]).map PyData.str), dp_strs (SqL.of (upd_old n2 (by rw [upd_same, List.map_map]; rfl))), dp_strs (SqL.of upd_same), shaped_strs ?_, shaped_strs ?_, ?_⟩
      · intro y hy
        obtain ⟨c, hc, rfl⟩ := List.mem_map.mp hy
        exact ok_S (fun z hz => by rw [List.mem_singleton] at hz; rw [hz]; exact htc c hc)
      · intro y hy
        obtain ⟨c, hc, rfl⟩ := List.mem_map.mp hy
        exact ok_S (fun z hz => by rw [List.mem_singleton] at hz; rw [hz]; exact htc c (srtL_mem.mp hc))
      · rw [eqv_strs, decide_eq_decide.mpr map_S_inj]
        exact k _ (Vk.Same.trans s1 (Vk.Same.trans (Same.upd_new hp1) (Same.upd_new n2)))
    · rw [decide_eq_false hd] at k ⊢
      rw [Bool.false_and] at k
      walk_at "go"
      exact k _ s1
end
end
section
set_option Elab.async false
set_option linter.all false
set_option maxRecDepth 100000
set_option maxHeartbeats 2000000
open PySem PySem.Spec PyProof.Rows L2

local macro_rules | `(tactic| walk_at "side") => `(tactic| exact .inl (by assumption))
theorem iSlMidN {l : List Nat} {H : Hp} {Q : VK} (hz : l.length ≤ 100000) (h : Q (.str (S (mid l))) H) : rSlS (.str (S l)) (some 1) (some (-1)) H Q := iSlS hz (by rw [cut_mid]; exact h)
local macro_rules | `(tactic| walk_at "go1") => `(tactic| ((with_reducible apply iSlMidN); walk_at "num"))
theorem br_str (li : List Nat) : (((Str.empty ++ PySem.Str.ofString "[") ++ S li) ++ PySem.Str.ofString "]") = S ([91] ++ li ++ [93]) := by
  rw [show PySem.Str.ofString "[" = S [91] by decide +kernel, show PySem.Str.ofString "]" = S [93] by decide +kernel, show Str.empty = S [] by decide +kernel, S_app, S_app, S_app]
  rfl
section
variable {P : Program} {w : World} {K : PySem.W.Frag} {mg : Str → Option Value} {base : Heap} {a : Ad} {d : Fd}
def namedK (l v : List Nat) : List (Key × V) := [(.inr (S nmAll), .str (S (45 :: srtL l))), (.inr (S nmLet), .str (S (srtL l))), (.inr (S nmVow), .str (S (srtL v))), (.inr (S nmCon), .str (S (consL l v))), (.inr (S nmJoi), .str (S [45]))]
theorem putK_new {kvs : List (Key × V)} {k : Key} {v : V} (h : k ∉ kvs.map (·.1)) : putK kvs k v = kvs ++ [(k, v)] := by
  unfold putK
  rw [if_neg]
  intro hh
  rw [List.any_eq_true] at hh
  obtain ⟨p, hp, e⟩ := hh
  exact h (List.mem_map.mpr ⟨p, hp, of_decide_eq_true e⟩)
theorem merge_new : ∀ (more acc : List (Key × V)), ((acc ++ more).map (·.1)).Nodup → mergeK acc more = acc ++ more
  | [], acc, _ => by
    show acc = _
    rw [List.append_nil]
  | p :: r, acc, h => by
    have e1 : mergeK acc (p :: r) = mergeK (putK acc p.1 p.2) r := rfl
    have hp : p.1 ∉ acc.map (·.1) := by
      rw [List.map_append, List.nodup_append] at h
      intro hm
      exact h.2.2 _ hm _ (by simp) rfl
    have e2 : acc ++ p :: r = (acc ++ [p]) ++ r := by simp
    rw [e1, putK_new hp, e2]
    exact merge_new r (acc ++ [p]) (by rw [← e2]; exact h)
theorem named_merge (l v : List Nat) : mergeK [] (namedK l v) = namedK l v := by
  refine merge_new _ _ ?_
  show ([.inr (S nmAll), .inr (S nmLet), .inr (S nmVow), .inr (S nmCon), .inr (S nmJoi)] : List Key).Nodup
  decide +kernel
def named? (l v nm : List Nat) : Option (List Nat) := if nm = nmAll then some (45 :: srtL l) else if nm = nmLet then some (srtL l) else if nm = nmVow then some (srtL v) else if nm = nmCon then some (consL l v) else if nm = nmJoi then some [45] else none
theorem named_val (l v nm : List Nat) : valV (namedK l v) (.inr (S nm)) = (named? l v nm).map fun m => V.str (S m) := by
  have no : ∀ {m : List Nat}, ¬ nm = m → (Sum.inr (S m) : Key) ≠ .inr (S nm) := fun h e => h (S_inj.mp (Sum.inr.inj e)).symm
  unfold namedK named?
  by_cases h1 : nm = nmAll
  · rw [if_pos h1, h1, valV_pos rfl]
    rfl
  rw [if_neg h1, valV_neg (no h1)]
  by_cases h2 : nm = nmLet
  · rw [if_pos h2, h2, valV_pos rfl]
    rfl
  rw [if_neg h2, valV_neg (no h2)]
  by_cases h3 : nm = nmVow
  · rw [if_pos h3, h3, valV_pos rfl]
    rfl
  rw [if_neg h3, valV_neg (no h3)]
  by_cases h4 : nm = nmCon
  · rw [if_pos h4, h4, valV_pos rfl]
    rfl
  rw [if_neg h4, valV_neg (no h4)]
  by_cases h5 : nm = nmJoi
  · rw [if_pos h5, h5, valV_pos rfl]
    rfl
  rw [if_neg h5, valV_neg (no h5)]
  rfl
theorem setOf_eq (l v nm : List Nat) : setOf l v nm = match named? l v nm with
    | some m => some m
    | none => if mid nm = [] ∨ nm ≠ [91] ++ mid nm ++ [93] ∨ ascB (45 :: srtL l) (mid nm) = false then none else some (mid nm) := by
  unfold setOf named?
  by_cases h1 : nm = nmAll
  · rw [if_pos h1, if_pos h1]
  rw [if_neg h1, if_neg h1]
  by_cases h2 : nm = nmLet
  · rw [if_pos h2, if_pos h2]
  rw [if_neg h2, if_neg h2]
  by_cases h3 : nm = nmVow
  · rw [if_pos h3, if_pos h3]
  rw [if_neg h3, if_neg h3]
  by_cases h4 : nm = nmCon
  · rw [if_pos h4, if_pos h4]
  rw [if_neg h4, if_neg h4]
  by_cases h5 : nm = nmJoi
  · rw [if_pos h5, if_pos h5]
  rw [if_neg h5, if_neg h5]
def spSignsOf (C BS : Addr) : Sp := fun vs H Q E => ∃ (al : Addr) (l v nm : List Nat), vs = [.ref al, .str (S nm)] ∧ IsAl C H al l v ∧ nm.length ≤ 60 ∧ (∀ c ∈ nm, c < 0x110000) ∧ (∀ ms, setOf l v nm = some ms → ∀ H', Same H H' → Q (.str (S ms)) H') ∧
  (setOf l v nm = none → ∀ dd H', H dd = none → H' dd = some (.xd [("name", .str (S nm))]) → Same H H' → E (.ref BS) (some dd) H')
theorem scSignsOf : FnScope ["self", "name", "named", "listed"] ["self", "name"] (defScope sSignsOf) := ⟨rfl, rfl, rfl, by decide +kernel, rfl, by decide +kernel, by decide +kernel⟩
theorem ok_signsOf {mc : Value} {tm tj tl : Tok} (T : Fns K mg a d) (AV : AlV K mg a.cAlphabet mc tm tj tl) (GBadSet : FnOk P w K mg base CX0 1 a.eBadSet d.eBadSet ["self", "name"] (spErr a.cBadSet "name")) : FnOk P w K mg base (L2.CX P w) 4 a.aSignsOf d.dSignsOf ["self", "name"] (spSignsOf a.cAlphabet a.cBadSet) := by
  have hcl := T.clA
  have hnL := T.nL
  have hnV := T.nV
  have hnC := T.nC
  have hnS := T.nS
  have GAsc : FnOk P w K mg base CX0 2 a.aAsc d.dAsc ["self", "text"] (spAsc a.cAlphabet) := ok_asc T
  refine T.FSignsOf.okX scSignsOf (fun vs H Q E h => ?_) (fun cdv A0 outer s H vs Q E hr h => ?_)
  · obtain ⟨al, l, v, nm, rfl, _⟩ := h
    rfl
  · obtain ⟨al, l, v, nm, rfl, hal0, hnl, hnc, k1, k2⟩ := h
    obtain ⟨dx, hal⟩ := id hal0
    have hal1 : H al = some (.ins a.cAlphabet dx [("letters", .str (S (srtL l))), ("vowels", .str (S (srtL v))), ("consonants", .str (S (consL l v))), ("signs", .str (S (45 :: srtL l)))]) := hal
    refine ⟨_, (pss_cons (ps_set (i := 2) scSignsOf.nd rfl (Or.inl rfl) (pe_disp (pps_cons (pe_strS (l := nmAll) (by decide +kernel)) (pe_fld (pv 0) rfl) (pps_cons (pe_strS (l := nmLet) (by decide +kernel)) (pe_fld (pv 0) rfl) (pps_cons (pe_strS (l := nmVow) (by decide +kernel)) (pe_fld (pv 0) rfl) (pps_cons (pe_strS (l := nmCon) (by decide +kernel)) (pe_fld (pv 0) rfl) (pps_cons (pe_strS (l := nmJoi) (by decide +kernel)) (ClX.pe_cval (pe_glob (v := .ref a.cAlphabet) (by rfl) AV.gC rfl)) pps_nil))))) (by rfl) (by rfl) (fun z => by cases z) (by decide)))
      (pss_cons (ps_if (pt_cmp (pc_din (hu_of hr) (pv 1) (pv 2))) (pss_one (ps_ret (pe_dget (hu_of hr) (pv 2) (pv 1) (fun _ _ => rfl)))) pss_nil)
      (pss_cons (ps_set (i := 3) scSignsOf.nd rfl (Or.inl rfl) (pe_slice sl_str (pv 1) (po_some pe_int) (po_some (pe_un un_neg pe_int))))
      (pss_cons (ps_if (PW.pt (pw_or (pt_cmpR op_eq (pv 3) (pe_strS (l := []) (by decide +kernel)) (nomark _)) (pw_or (pt_cmpR op_ne (pv 1) (pe_joined (.cons pe_str (.cons (pe_fmt (pv 3)) (.cons pe_str .nil)))) (nomark _)) (pw_or1 (pt_not (pt_val (pe_meth (pv 0) T.clA T.mAsc GAsc (hr.mono (by decide)) T.bAsc .nil pass0 (pa_cons (pv 3) pa_nil)))))))) (pss_one (ps_raise rfl (takes_of rfl rfl rfl rfl) (pmk_oex T.xBadSet.ox T.xBadSet.iC T.xBadSet.tI GBadSet (hr.mono (by decide)) T.xBadSet.bB .nil pass0 (by rfl) T.xBadSet.gB (pa_cons (pv 1) pa_nil)))) pss_nil)
      (pss_one (ps_ret (pv 3))))))), ?_⟩
    refine iSeq ?_
    refine iAsg ?_
    intro q hq
    have hsame : Same H (upd H q (.dK [])) := Same.upd_new hq
    have hal2 : (upd H q (.dK [])) al = some (.ins a.cAlphabet dx [("letters", .str (S (srtL l))), ("vowels", .str (S (srtL v))), ("consonants", .str (S (consL l v))), ("signs", .str (S (45 :: srtL l)))]) := hsame _ _ hal1
    have e45 : PySem.Str.ofString "-" = S [45] := by decide +kernel
    refine ⟨_, rfl, al, a.cAlphabet, dx, _, _, rfl, hal2, hcl, hnS, rfl, _, rfl, al, a.cAlphabet, dx, _, _, rfl, hal2, hcl, hnL, rfl, _, rfl, al, a.cAlphabet, dx, _, _, rfl, hal2, hcl, hnV, rfl, _, rfl, al, a.cAlphabet, dx, _, _, rfl, hal2, hcl, hnC, rfl, a.cAlphabet, mc, _, _, rfl, AV.rd, AV.joint, upd_same, namedK l v, by rw [e45]; rfl, by show 5 ≤ 15; decide, ?_⟩
    rw [named_merge]
    have hq1 : (upd (upd H q (.dK [])) q (.dK (namedK l v))) q = some (.dK (namedK l v)) := upd_same
    have s1 : Same H (upd (upd H q (.dK [])) q (.dK (namedK l v))) := (Fr.forget1 (D := q) (Fr.trans Fr.in0 Fr.in0) hq)
    generalize upd (upd H q (.dK [])) q (.dK (namedK l v)) = H1 at hq1 s1
    have hal3 := s1 _ _ hal1
    have hg : DGet H1 q (.str (S nm)) (valV (namedK l v) (.inr (S nm))) := DGet.k (k := Sum.inr (S nm)) hq1
    rw [named_val] at hg
    have hse := setOf_eq l v nm
    walk_at "go"
    refine ⟨_, rfl, _, rfl, q, _, rfl, hg, _, rfl, ?_⟩
    cases hn : named? l v nm with
    | some m =>
      rw [hn] at hg hse
      exact iteT ⟨_, rfl, _, rfl, q, _, rfl, hg, k1 m hse _ s1⟩
    | none =>
      rw [hn] at hg hse
      refine iteF ?_
      have hml := mid_len nm
      have hmc : ∀ c ∈ mid nm, c < 0x110000 := fun c hc => hnc c (List.mem_of_mem_take (List.mem_of_mem_drop hc))
      have hno : (mid nm = [] ∨ nm ≠ [91] ++ mid nm ++ [93] ∨ ascB (45 :: srtL l) (mid nm) = false) → tMkO a.cBadSet (spErr a.cBadSet "name") [] (tCons (tVar 1) tNil) [some (.ref al), some (.str (S nm)), some (.ref q), some (.str (S (mid nm)))] H1 (fun cls d H' => E cls d H') := fun h =>
        ⟨_, rfl, by show 1 ≤ 1000; decide, fun b hb => ⟨b, nm, rfl, ⟨by omega, hnc⟩, upd_same, raise1 hb s1 fun dd H' h1 h2 h3 => k2 (by rw [hse, if_pos h]) dd H' h1 h2 h3⟩⟩
      walk_at "go"
      · rename_i hm0
        exact hno (.inl hm0)
      · rename_i hm0
        have hml2 : (S (mid nm)).length ≤ 100 := by rw [S_len]; omega
        have b1 : (PySem.Str.ofString "[").length = 1 := by decide +kernel
        have b2 : (PySem.Str.ofString "]").length = 1 := by decide +kernel
        refine ⟨_, rfl, sl4 (by rw [al2, b1, e0l]; omega), _, rfl, .inl ⟨S (mid nm), rfl, sl4 (by omega), _, rfl, sl4 (by rw [al2, al2, b1, e0l]; omega), _, rfl, sl4 (by rw [al2, al2, al2, b1, b2, e0l]; omega), ?_⟩⟩
        rw [br_str]
        unfold tJs
        dsimp only
        walk_at "go"
        · rename_i hne
          exact hno (.inr (.inl hne))
        · rename_i heq
          refine ⟨al, l, v, mid nm, rfl, hal0.same s1, by omega, hmc, fun H2 s2 => ?_⟩
          cases ha : ascB (45 :: srtL l) (mid nm) with
          | false =>
            walk_at "go"
            exact ⟨_, rfl, by show 1 ≤ 1000; decide, fun b hb => ⟨b, nm, rfl, ⟨by omega, hnc⟩, upd_same, raise1 hb (Vk.Same.trans s1 s2) fun dd H' h1 h2 h3 => k2 (by rw [hse, if_pos (.inr (.inr ha))]) dd H' h1 h2 h3⟩⟩
          | true =>
            walk_at "go"
            exact k1 (mid nm) (by rw [hse, if_neg (by
              rintro (h | h | h)
              · exact hm0 h
              · exact h heq
              · rw [ha] at h
                cases h)]) _ (Vk.Same.trans s1 s2)
end
end
section
set_option Elab.async false
set_option linter.all false
set_option maxRecDepth 100000
set_option maxHeartbeats 4000000
open PySem PySem.Spec PyProof.Rows L2

local macro_rules | `(tactic| walk_at "side") => `(tactic| exact .inl (by assumption))
def kStrA8_0 : List Nat := [108, 101, 116, 116, 101, 114, 115]
theorem kStrA8_0_eq : PySem.Str.ofString "letters" = S kStrA8_0 := by decide +kernel
def kStrA8_1 : List Nat := [118, 111, 119, 101, 108, 115]
theorem kStrA8_1_eq : PySem.Str.ofString "vowels" = S kStrA8_1 := by decide +kernel
def kStrA8_2 : List Nat := [99, 111, 110, 115, 111, 110, 97, 110, 116, 115]
theorem kStrA8_2_eq : PySem.Str.ofString "consonants" = S kStrA8_2 := by decide +kernel
def kStrA8_3 : List Nat := [106, 111, 105, 110, 116, 115]
theorem kStrA8_3_eq : PySem.Str.ofString "joints" = S kStrA8_3 := by decide +kernel
/-! which names are names of sets -/
structure AlOk (l v : List Nat) : Prop where
  dl : Differ l azL
  h1 : 1 ≤ l.length
  h4 : l.length ≤ 4
  vn : v.Nodup
  vl : ∀ c ∈ v, c ∈ l
theorem az_ge : ∀ c ∈ azL, 97 ≤ c ∧ c ≤ 122 := by decide +kernel
theorem AlOk.ge {l v : List Nat} (h : AlOk l v) : ∀ c ∈ l, 97 ≤ c ∧ c ≤ 122 := fun c hc => az_ge c (h.dl.2 c hc)
theorem AlOk.sg {l v : List Nat} (h : AlOk l v) : ∀ c ∈ 45 :: srtL l, c = 45 ∨ (97 ≤ c ∧ c ≤ 122) := fun c hc => by
  rcases List.mem_cons.mp hc with e | e
  · exact .inl e
  · exact .inr (h.ge c (srtL_mem.mp e))
theorem AlOk.nd {l v : List Nat} (h : AlOk l v) : (45 :: srtL l).Nodup := by
  refine List.nodup_cons.mpr ⟨fun hm => ?_, srtL_nodup.mpr h.dl.1⟩
  have := h.ge 45 (srtL_mem.mp hm)
  omega
theorem AlOk.le {l v : List Nat} (h : AlOk l v) : (45 :: srtL l).Pairwise (· ≤ ·) := by
  refine List.pairwise_cons.mpr ⟨fun c hc => ?_, srtL_le l⟩
  have := h.ge c (srtL_mem.mp hc)
  omega
theorem srt_of_le {t : List Nat} (h : t.Pairwise (· ≤ ·)) : t = srtL t := srt_eq (List.Perm.refl t) h
theorem asc_sub {l v li : List Nat} (h : AlOk l v) (hs : li.Sublist (45 :: srtL l)) : ascB (45 :: srtL l) li = true := by
  unfold ascB
  rw [decide_eq_true (p := Differ li (45 :: srtL l)) ⟨h.nd.sublist hs, fun c hc => hs.mem hc⟩, decide_eq_true (srt_of_le (h.le.sublist hs))]
  rfl
theorem vow_eq {l v : List Nat} (h : AlOk l v) : srtL v = (srtL l).filter (fun c => decide (c ∈ v)) := by
  refine (srt_eq ?_ ((srtL_le l).sublist List.filter_sublist)).symm
  refine (List.perm_ext_iff_of_nodup ((srtL_nodup.mpr h.dl.1).sublist List.filter_sublist) h.vn).mpr fun c => ?_
  rw [List.mem_filter, srtL_mem, decide_eq_true_iff]
  exact ⟨fun q => q.2, fun q => ⟨h.vl c q, q⟩⟩
/-- names that are none -/
def BadNm (l nm : List Nat) : Prop := nm ≠ nmAll ∧ nm ≠ nmLet ∧ nm ≠ nmVow ∧ nm ≠ nmCon ∧ nm ≠ nmJoi ∧ (mid nm = [] ∨ nm ≠ [91] ++ mid nm ++ [93] ∨ ascB (45 :: srtL l) (mid nm) = false)
theorem setOf_bad {l v nm : List Nat} (h : BadNm l nm) : setOf l v nm = none := by
  obtain ⟨h1, h2, h3, h4, h5, h6⟩ := h
  unfold setOf
  rw [if_neg h1, if_neg h2, if_neg h3, if_neg h4, if_neg h5, if_pos h6]
theorem fil_sub {l v li : List Nat} (h : AlOk l v) (hd : ascB (45 :: srtL l) li = true) : li = (45 :: srtL l).filter (fun c => decide (c ∈ li)) := by
  unfold ascB at hd
  rw [Bool.and_eq_true, decide_eq_true_iff, decide_eq_true_iff] at hd
  obtain ⟨hd, hs⟩ := hd
  have hp : li.Perm ((45 :: srtL l).filter (fun c => decide (c ∈ li))) := by
    refine (List.perm_ext_iff_of_nodup hd.1 (h.nd.sublist List.filter_sublist)).mpr fun c => ?_
    rw [List.mem_filter, decide_eq_true_iff]
    exact ⟨fun q => ⟨hd.2 c q, q⟩, fun q => q.2⟩
  have h1 : li.Pairwise (· ≤ ·) := by rw [hs]; exact srtL_le li
  have h2 : ((45 :: srtL l).filter (fun c => decide (c ∈ li))).Pairwise (· ≤ ·) := h.le.sublist List.filter_sublist
  exact (srt_eq (List.Perm.refl li) h1).trans (srt_eq hp.symm h2).symm
theorem srt_lt {l : List Nat} (h : l.Nodup) (p : l.Pairwise (· ≤ ·)) : l.Pairwise (· < ·) := by
  refine (List.Pairwise.and p h).imp fun {a b} q => ?_
  exact Nat.lt_of_le_of_ne q.1 q.2
theorem AlOk.lt {l v : List Nat} (h : AlOk l v) : (45 :: srtL l).Pairwise (· < ·) := srt_lt h.nd h.le
theorem asc_iff {sg m : List Nat} : ascB sg m = true ↔ (∀ c ∈ m, c ∈ sg) ∧ m.Pairwise (· < ·) := by
  unfold ascB
  rw [Bool.and_eq_true, decide_eq_true_iff, decide_eq_true_iff]
  constructor
  · rintro ⟨h1, h2⟩
    exact ⟨h1.2, srt_lt h1.1 (by rw [h2]; exact srtL_le m)⟩
  · rintro ⟨h1, h2⟩
    exact ⟨⟨h2.imp fun q => Nat.ne_of_lt q, h1⟩, srt_of_le (h2.imp fun q => Nat.le_of_lt q)⟩
theorem n1_lt {sg : List Nat} (h : sg.Pairwise (· < ·)) {c d : Nat} (hc : c ∈ sg) (hd : d ∈ sg) : n1 sg c < n1 sg d ↔ c < d := by
  have h1 := n1_at hc
  have h2 := n1_at hd
  have l1 := n1_mem.mp hc
  have l2 := n1_mem.mp hd
  have pw := List.pairwise_iff_getElem.mp h
  have e1 : sg[n1 sg c] = c := (List.getElem?_eq_some_iff.mp h1).2
  have e2 : sg[n1 sg d] = d := (List.getElem?_eq_some_iff.mp h2).2
  rcases Nat.lt_trichotomy (n1 sg c) (n1 sg d) with k | k | k
  · have := pw _ _ l1 l2 k
    rw [e1, e2] at this
    exact ⟨fun _ => this, fun _ => k⟩
  · have : c = d := by rw [← e1, ← e2]; simp only [k]
    subst this
    exact ⟨fun z => absurd z (Nat.lt_irrefl _), fun z => absurd z (Nat.lt_irrefl _)⟩
  · have := pw _ _ l2 l1 k
    rw [e1, e2] at this
    exact ⟨fun z => by omega, fun z => by omega⟩
theorem pw_snoc {l : List Nat} {c : Nat} (h : l.Pairwise (· < ·)) (k : ∀ d, l.getLast? = some d → d < c) : (l ++ [c]).Pairwise (· < ·) := by
  rw [List.pairwise_append]
  refine ⟨h, List.pairwise_singleton _ _, fun x hx y hy => ?_⟩
  rw [List.mem_singleton] at hy
  subst hy
  rcases List.eq_nil_or_concat l with e | ⟨m, d, e⟩
  · subst e
    cases hx
  · rw [List.concat_eq_append] at e
    subst e
    have hd := k d (by simp)
    rcases List.mem_append.mp hx with q | q
    · have := (List.pairwise_append.mp h).2.2 x q d (List.mem_singleton.mpr rfl)
      omega
    · rw [List.mem_singleton] at q
      omega
def lastN (sg p : List Nat) : Int := match p.getLast? with
  | none => -1
  | some d => (n1 sg d : Int)
theorem lastN_nil (sg : List Nat) : lastN sg [] = -1 := rfl
theorem lastN_snoc (sg p : List Nat) (c : Nat) : lastN sg (p ++ [c]) = (n1 sg c : Int) := by
  unfold lastN
  simp
theorem lastN_lt {sg p : List Nat} {c : Nat} (h : sg.Pairwise (· < ·)) (hp : ∀ d ∈ p, d ∈ sg) (hc : c ∈ sg) : lastN sg p < (n1 sg c : Int) ↔ ∀ d, p.getLast? = some d → d < c := by
  unfold lastN
  cases e : p.getLast? with
  | none => exact ⟨fun _ d z => (by cases z), fun _ => (show (-1 : Int) < _ by omega)⟩
  | some d =>
    have hd := hp d (List.mem_of_getLast? e)
    show ((n1 sg d : Nat) : Int) < _ ↔ _
    rw [Int.ofNat_lt, n1_lt h hd hc]
    exact ⟨fun q x z => (by cases z; exact q), fun q => q d rfl⟩
theorem iSortT {l : List Nat} {H : Hp} {Q : VK} (hl : l.length < 64) (h : ∀ p, H p = none → Q (.ref p) (upd H p (.lst ((srtL l).map fun c => V.str (S [c]))))) : rSortT [.str (S l)] H Q := by
  refine ⟨S l, rfl, by rw [S_len]; exact hl, fun ys p hp hs np => ?_⟩
  rw [signs_S] at hp
  have ey := sorted_signs hp hs
  subst ey
  rw [List.map_map]
  exact h p np
theorem joinS {l : List Nat} (hl : l.length < 1000) : (((l.map fun c => S [c]).map (·.length)).sum + (l.map fun c => S [c]).length * (S []).length ≤ 16777216) ∧ Txt.join (S []) (l.map fun c => S [c]) = S l := by
  have e0 : PySem.Str.ofString "" = S [] := by decide +kernel
  have := joinedL hl
  rwa [e0] at this
theorem joinQ {K : PySem.W.Frag} {l : List Nat} {p : Addr} {H : Hp} (h : H p = some (.lst (l.map fun c => V.str (S [c])))) : SqL K H p ((l.map fun c => S [c]).map V.str) := SqL.of (by rw [h, List.map_map]; rfl)
/-- what the law says a name stands for -/
def tell (l v nm : List Nat) : Bool × List Nat := match setOf l v nm with
  | some ms => (true, ms)
  | none => (false, nm)
theorem tell_br {l v nm : List Nat} (hn : nm ≠ nmAll ∧ nm ≠ nmLet ∧ nm ≠ nmVow ∧ nm ≠ nmCon ∧ nm ≠ nmJoi) (h0 : mid nm ≠ []) (hb : nm = [91] ++ mid nm ++ [93]) : tell l v nm = if ascB (45 :: srtL l) (mid nm) = true then (true, mid nm) else (false, nm) := by
  unfold tell setOf
  rw [if_neg hn.1, if_neg hn.2.1, if_neg hn.2.2.1, if_neg hn.2.2.2.1, if_neg hn.2.2.2.2]
  cases ha : ascB (45 :: srtL l) (mid nm) with
  | true =>
    rw [if_neg (fun q => q.elim h0 fun q => q.elim (fun q => q hb) fun q => by cases q)]
    rfl
  | false =>
    rw [if_pos (.inr (.inr rfl))]
    rfl
theorem tell_no {l v nm : List Nat} (hn : nm ≠ nmAll ∧ nm ≠ nmLet ∧ nm ≠ nmVow ∧ nm ≠ nmCon ∧ nm ≠ nmJoi) (h0 : mid nm = [] ∨ nm ≠ [91] ++ mid nm ++ [93]) : tell l v nm = (false, nm) := by
  unfold tell setOf
  rw [if_neg hn.1, if_neg hn.2.1, if_neg hn.2.2.1, if_neg hn.2.2.2.1, if_neg hn.2.2.2.2, if_pos (h0.elim .inl fun q => .inr (.inl q))]
section
variable {P : Program} {w : World} {K : PySem.W.Frag} {mg : Str → Option Value} {base : Heap} {a : Ad} {d : Fd}
def spSet : Sp := fun vs H Q _ => ∃ (l v nm : List Nat), vs = [.str (S nm), .str (S l), .str (S v)] ∧ AlOk l v ∧ nm.length ≤ 60 ∧ ∀ (q : Addr) H', H' q = some (.tup [.bl (tell l v nm).1, .str (S (tell l v nm).2)]) → Same H H' → Q (.ref q) H'
theorem scSet : FnScope ["_law_name_here", "_law_letters", "_law_vowels", "_law_ordered", "_law_signs", "_law_sign", "_law_last"] ["_law_name_here", "_law_letters", "_law_vowels"] (defScope sSet) := ⟨rfl, rfl, rfl, by decide +kernel, rfl, by decide +kernel, by decide +kernel⟩
theorem ok_set (T : Fns K mg a d) : FnOk P w K mg base CX0 1 a.aSet d.dSet ["_law_name_here", "_law_letters", "_law_vowels"] spSet := by
  refine T.FSet.ok scSet (fun vs H Q E h => ?_) (fun cdv A0 outer s H vs Q E hr h => ?_)
  · obtain ⟨l, v, nm, rfl, _⟩ := h
    rfl
  · obtain ⟨l, v, nm, rfl, ho, hnl, kq⟩ := h
    have h4 := ho.h4
    have hsl : (srtL l).length ≤ 4 := by rw [srtL_len]; exact h4
    have fin : ∀ (b : Bool) (t : List Nat) (q : Addr) (H1 : Hp), tell l v nm = (b, t) → H1 q = none → Same H H1 → Q (.ref q) (upd H1 q (.tup [.bl b, .str (S t)])) := fun b t q H1 e hq s => kq q _ (by rw [e]; exact upd_same) (Vk.Same.trans s (Same.upd_new hq))
    clear kq
    refine ⟨_, ((pss_cons (ps_set (i := 3) scSet.nd rfl (Or.inl rfl) (pe_join (pe_strS (l := []) (by decide +kernel)) (pe_callB (cr_sortT rfl) (by rfl) T.z_sorted (by decide +kernel) (pa_cons (pv 1) pa_nil))))
      (pss_cons (ps_set (i := 4) scSet.nd rfl (Or.inl rfl) (pe_op op_addS (pe_strS (l := [45]) (by decide +kernel)) (pv 3)))
      (pss_cons (ps_if (pt_cmpR op_eq (pv 0) (pe_strS (l := [97, 108, 108]) (by decide +kernel)) (nomark _)) (pss_one (ps_ret (pe_tup (pa_cons pe_bl (pa_cons (pv 4) pa_nil))))) pss_nil)
      (pss_cons (ps_if (pt_cmpR op_eq (pv 0) (pe_strS (l := kStrA8_0) kStrA8_0_eq) (nomark _)) (pss_one (ps_ret (pe_tup (pa_cons pe_bl (pa_cons (pv 3) pa_nil))))) pss_nil)
      (pss_cons (ps_if (pt_cmpR op_eq (pv 0) (pe_strS (l := kStrA8_1) kStrA8_1_eq) (nomark _)) (pss_one (ps_ret (pe_tup (pa_cons pe_bl (pa_cons (pe_join (pe_strS (l := []) (by decide +kernel)) (pe_lc (own := [("_law_sign", 5)]) (g := gName 5) (by rfl) scSet.nd (pi_str (pv 3)) (blkOk_by (own := [("_law_sign", 5)]) (N := ["_law_name_here", "_law_letters", "_law_vowels", "_law_ordered", "_law_signs", "_law_sign", "_law_last"]) (sc := defScope sSet) (by decide +kernel)) (fun _ _ _ _ _ => pg_name (i := 5) scSet.nd rfl (Or.inl rfl)) (fun _ _ _ _ _ => (pts_one (pt_cmpR op_inS (pv 5) (pv 2) rfl))) (fun _ _ _ _ _ => (pv 5)))) pa_nil))))) pss_nil)
      (pss_cons (ps_if (pt_cmpR op_eq (pv 0) (pe_strS (l := kStrA8_2) kStrA8_2_eq) (nomark _)) (pss_one (ps_ret (pe_tup (pa_cons pe_bl (pa_cons (pe_join (pe_strS (l := []) (by decide +kernel)) (pe_lc (own := [("_law_sign", 5)]) (g := gName 5) (by rfl) scSet.nd (pi_str (pv 3)) (blkOk_by (own := [("_law_sign", 5)]) (N := ["_law_name_here", "_law_letters", "_law_vowels", "_law_ordered", "_law_signs", "_law_sign", "_law_last"]) (sc := defScope sSet) (by decide +kernel)) (fun _ _ _ _ _ => pg_name (i := 5) scSet.nd rfl (Or.inl rfl)) (fun _ _ _ _ _ => (pts_one (pt_cmpR op_notInS (pv 5) (pv 2) rfl))) (fun _ _ _ _ _ => (pv 5)))) pa_nil))))) pss_nil)
      (pss_cons (ps_if (pt_cmpR op_eq (pv 0) (pe_strS (l := kStrA8_3) kStrA8_3_eq) (nomark _)) (pss_one (ps_ret (pe_tup (pa_cons pe_bl (pa_cons (pe_strS (l := [45]) (by decide +kernel)) pa_nil))))) pss_nil)
      (pss_cons (ps_if (PW.pt (pw_or (pt_cmpR op_lt (pe_callB call_lenS (by rfl) T.z_len (by decide +kernel) (pa_cons (pv 0) pa_nil)) pe_int (nomark _)) (pw_or (pt_cmpR op_ne (pe_ix ix_str (pv 0) pe_int (fun _ _ => rfl)) (pe_strS (l := [91]) (by decide +kernel)) (nomark _)) (pw_or1 (pt_cmpR op_ne (pe_ix ix_str (pv 0) (pe_un un_neg pe_int) (fun _ _ => rfl)) (pe_strS (l := [93]) (by decide +kernel)) (nomark _)))))) (pss_one (ps_ret (pe_tup (pa_cons pe_bl (pa_cons (pv 0) pa_nil))))) pss_nil)
      (pss_cons (ps_set (i := 6) scSet.nd rfl (Or.inl rfl) (pe_un un_neg pe_int))
      (pss_cons (ps_for PassesOwn.never rfl (pi_str (pe_slice sl_str (pv 0) (po_some pe_int) (po_some (pe_un un_neg pe_int)))) (pg_name (i := 5) scSet.nd rfl (Or.inl rfl)) (pss_cons (ps_if (pt_cmpR op_le (pe_m1 F.slot_str_find F.type_str_find mt_findS (pv 4) (pv 5)) (pv 6) (nomark _)) (pss_one (ps_ret (pe_tup (pa_cons pe_bl (pa_cons (pv 0) pa_nil))))) pss_nil)
      (pss_one (ps_set (i := 6) scSet.nd rfl (Or.inl rfl) (pe_m1 F.slot_str_find F.type_str_find mt_findS (pv 4) (pv 5))))))
      (pss_one (ps_ret (pe_tup (pa_cons pe_bl (pa_cons (pe_slice sl_str (pv 0) (po_some pe_int) (po_some (pe_un un_neg pe_int))) pa_nil)))))))))))))))), ?_⟩
    walk_at "go"
    refine iSortT (by omega) fun p1 hp1 => ?_
    refine ⟨_, p1, _, rfl, rfl, .inl (joinQ upd_same), (joinS (by omega)).1, ?_⟩
    rw [(joinS (l := srtL l) (by omega)).2]
    have s1 : Same H (upd H p1 (.lst ((srtL l).map fun c => V.str (S [c])))) := Same.upd_new hp1
    generalize upd H p1 (.lst ((srtL l).map fun c => V.str (S [c]))) = H1 at s1 ⊢
    rw [show kStrA8_0 = nmLet from rfl, show kStrA8_1 = nmVow from rfl, show kStrA8_2 = nmCon from rfl, show kStrA8_3 = nmJoi from rfl, show ([97, 108, 108] : List Nat) = nmAll from rfl]
    walk_at "go"
    · rename_i h1 q hq
      exact fin true (45 :: srtL l) q H1 (by unfold tell setOf; rw [if_pos h1]) hq s1
    · rename_i h1 h2 q hq
      exact fin true (srtL l) q H1 (by unfold tell setOf; rw [if_neg h1, if_pos h2]) hq s1
    · rename_i h1 h2 h3 D hD
      refine lc_text (l := srtL l) (fun c => decide (c ∈ v)) (fun c => V.str (S [c])) (by omega) (fun _ => rfl) (fun c hc H2 Q2 off q => ?_) (fun c hc hp H2 Q2 off q => ?_) ?_
      · walk_at "go"
        exact q
      · walk_at "go"
        exact q
      · have hfl := List.length_filter_le (fun c => decide (c ∈ v)) (srtL l)
        refine ⟨_, D, _, rfl, rfl, .inl (joinQ upd_same), (joinS (by omega)).1, ?_⟩
        rw [(joinS (l := (srtL l).filter fun c => decide (c ∈ v)) (by omega)).2]
        walk_at "go"
        rename_i q hq
        exact fin true _ q _ (by unfold tell setOf; rw [if_neg h1, if_neg h2, if_pos h3, vow_eq ho]) hq (Vk.Same.trans s1 (Same.upd_new hD))
    · rename_i h1 h2 h3 h4 D hD
      refine lc_text (l := srtL l) (fun c => !decide (c ∈ v)) (fun c => V.str (S [c])) (by omega) (fun _ => rfl) (fun c hc H2 Q2 off q => ?_) (fun c hc hp H2 Q2 off q => ?_) ?_
      · walk_at "go"
        exact q
      · walk_at "go"
        exact q
      · have hfl := List.length_filter_le (fun c => !decide (c ∈ v)) (srtL l)
        refine ⟨_, D, _, rfl, rfl, .inl (joinQ upd_same), (joinS (by omega)).1, ?_⟩
        rw [(joinS (l := (srtL l).filter fun c => !decide (c ∈ v)) (by omega)).2]
        walk_at "go"
        rename_i q hq
        exact fin true _ q _ (by unfold tell setOf; rw [if_neg h1, if_neg h2, if_neg h3, if_pos h4]; rfl) hq (Vk.Same.trans s1 (Same.upd_new hD))
    · rename_i h1 h2 h3 h4 h5 q hq
      exact fin true [45] q H1 (by unfold tell setOf; rw [if_neg h1, if_neg h2, if_neg h3, if_neg h4, if_pos h5]) hq s1
    · rename_i h1 h2 h3 h4 h5 h6 q hq
      refine fin false nm q H1 (tell_no ⟨h1, h2, h3, h4, h5⟩ ?_) hq s1
      by_cases h : mid nm = []
      · exact .inl h
      · refine .inr fun e => ?_
        have h8 := congrArg List.length e
        simp only [List.length_append, List.length_cons, List.length_nil] at h8
        have h7 : 0 < (mid nm).length := List.length_pos_iff.mpr h
        omega
    · rename_i h1 h2 h3 h4 h5 h6
      have hn : nm ≠ nmAll ∧ nm ≠ nmLet ∧ nm ≠ nmVow ∧ nm ≠ nmCon ∧ nm ≠ nmJoi := ⟨h1, h2, h3, h4, h5⟩
      clear h1 h2 h3 h4 h5
      rcases nm with _ | ⟨x, tl⟩
      · exact absurd h6 (by decide)
      obtain ⟨m, y, rfl⟩ : ∃ m y, tl = m ++ [y] := by
        rcases List.eq_nil_or_concat tl with e | ⟨m, y, e⟩
        · subst e
          exact absurd (by show ((1 : Nat) : Int) < 3; decide) h6
        · exact ⟨m, y, by rw [e, List.concat_eq_append]⟩
      have hlen : (x :: (m ++ [y])).length = m.length + 2 := by simp
      have hm0 : m ≠ [] := fun e => by
        rw [hlen, e] at h6
        exact h6 (by show ((2 : Nat) : Int) < 3; decide)
      have hmid : mid (x :: (m ++ [y])) = m := by
        unfold mid
        rw [hlen]
        simp
      have gy : (x :: (m ++ [y]))[m.length + 1]? = some y := by simp
      refine iIxS (by omega) (atI_nat (j := 0) rfl) ?_
      walk_at "go"
      · rename_i hx q hq
        exact fin false _ q H1 (tell_no hn (.inr fun e => hx (by rw [hmid] at e; exact (List.cons.inj e).1))) hq s1
      · rename_i hx
        have gy2 : atI (x :: (m ++ [y])) (-1) = some y := by
          unfold atI
          have e : ixN (x :: (m ++ [y])).length (-1) = some (m.length + 1) := by
            rw [hlen]
            unfold ixN
            simp
            omega
          rw [e]
          exact gy
        refine iIxS (by omega) gy2 ?_
        walk_at "go"
        · rename_i hy q hq
          exact fin false _ q H1 (tell_no hn (.inr fun e => hy (by rw [hmid, hx] at e; simpa using e))) hq s1
        · rename_i hy
          rw [show cutS (S (x :: (m ++ [y]))) (some 1) (some (-1)) = S m from by rw [cut_mid, hmid]]
          have hml : m.length ≤ 58 := by rw [hlen] at hnl; omega
          have tb := tell_br (l := l) (v := v) hn (by rw [hmid]; exact hm0) (by rw [hmid, hx, hy]; rfl)
          rw [hmid] at tb
          refine for_S (l := m) (fun i σ H' => Stop (∃ v5 : Option V, σ = [some (.str (S (x :: (m ++ [y])))), some (.str (S l)), some (.str (S v)), some (.str (S (srtL l))), some (.str (S ([45] ++ srtL l))), v5, some (.int (lastN ([45] ++ srtL l) (m.take i)))] ∧ (∀ c ∈ m.take i, c ∈ [45] ++ srtL l) ∧ (m.take i).Pairwise (· < ·) ∧ H' = H1))
            ⟨none, rfl, by simp, by simp, rfl⟩ ?_ ?_
          · rintro i c σ H2 hc ⟨v5, rfl, hin, hpw, rfl⟩
            have e1 : m.take (i + 1) = m.take i ++ [c] := by
              rw [List.take_add_one, hc]
              rfl
            have lt : ([45] ++ srtL l).Pairwise (· < ·) := ho.lt
            have hlow : -1 ≤ lastN ([45] ++ srtL l) (m.take i) := by
              unfold lastN
              split <;> omega
            have no : ¬ ((∀ c ∈ m.take (i + 1), c ∈ 45 :: srtL l) ∧ (m.take (i + 1)).Pairwise (· < ·)) → tell l v (x :: (m ++ [y])) = (false, x :: (m ++ [y])) := fun z => by
              rw [tb, if_neg]
              intro q
              obtain ⟨q1, q2⟩ := asc_iff.mp q
              exact z ⟨fun c hc => q1 c (List.mem_of_mem_take hc), q2.sublist (List.take_sublist _ _)⟩
            by_cases hcs : c ∈ [45] ++ srtL l
            · walk_at "go"
              · rename_i hle q hq
                refine fin false _ q _ (no fun z => ?_) hq s1
                have z2 := z.2
                rw [e1] at z2
                have := (lastN_lt lt hin hcs).mpr fun d hd => (List.pairwise_append.mp z2).2.2 d (List.mem_of_getLast? hd) c (List.mem_singleton.mpr rfl)
                omega
              · rename_i hle
                refine ⟨some (.str (S [c])), by rw [e1, lastN_snoc]; rfl, ?_, ?_, rfl⟩
                · rw [e1]
                  intro d hd
                  rcases List.mem_append.mp hd with q | q
                  · exact hin d q
                  · rw [List.mem_singleton] at q
                    rw [q]
                    exact hcs
                · rw [e1]
                  exact pw_snoc hpw ((lastN_lt lt hin hcs).mp (by omega))
            · walk_at "go"
              · rename_i q hq
                refine fin false _ q _ (no fun z => hcs (z.1 c ?_)) hq s1
                rw [e1]
                exact List.mem_append_right _ (List.mem_singleton.mpr rfl)
          · rintro σ H2 ⟨v5, rfl, hin, hpw, rfl⟩
            rw [List.take_length] at hin hpw
            walk_at "go"
            rw [show cutS (S (x :: (m ++ [y]))) (some 1) (some (-1)) = S m from by rw [cut_mid, hmid]]
            walk_at "go"
            rename_i q hq
            exact fin true m q _ (by rw [tb, if_pos ((asc_iff (sg := 45 :: srtL l)).mpr ⟨hin, hpw⟩)]) hq s1
end
end
section
set_option Elab.async false
set_option linter.all false
set_option maxRecDepth 100000
set_option maxHeartbeats 4000000
open PySem PySem.Spec PyProof.Rows L2

local macro_rules | `(tactic| walk_at "side") => `(tactic| exact .inl (by assumption))

/-- what the written part says of an error's class that the law catches: its field f, the two classes that it is none of -/
structure ErrX (K : PySem.W.Frag) (a : Ad) (B B' : Addr) (f : Str) : Prop where
  xf : XfC K B
  np : PySem.W.findIn K (.ref B) f = some none
  ec : ExcC K B
  e1 : PySem.W.exmOne K (.ref B) (.ref a.cTale) = some true
  k1 : PySem.W.kitOne K (.ref B) (.ref B) = some true
  k2 : PySem.W.kitOne K (.ref B) (.type "ValueError") = some true
  k3 : PySem.W.kitAny K (.ref B) [.ref B', .ref a.cBadAlph] = some false
theorem iIsX1 {K : PySem.W.Frag} {ab D dd : Addr} {fs : List (Str × V)} {c : V} {u : Value} {b : Bool} {H : Hp} {Q : VK} (C : ExcC K D) (h : H dd = some (.xd fs)) (cl : ClsV c u) (k : PySem.W.kitOne K (.ref D) u = some b) (q : Q (.bl b) H) : rIsX K ab (.ref D) (some dd) [.ref ab, c] H Q := ⟨D, dd, fs, rfl, rfl, C, h, .inl ⟨c, u, b, rfl, cl, k, q⟩⟩
theorem iIsX2 {K : PySem.W.Frag} {ab D dd tp B1 B2 : Addr} {fs : List (Str × V)} {b : Bool} {H : Hp} {Q : VK} (C : ExcC K D) (h : H dd = some (.xd fs)) (ht : H tp = some (.tup [.ref B1, .ref B2])) (k : PySem.W.kitAny K (.ref D) [.ref B1, .ref B2] = some b) (q : Q (.bl b) H) : rIsX K ab (.ref D) (some dd) [.ref ab, .ref tp] H Q :=
  ⟨D, dd, fs, rfl, rfl, C, h, .inr ⟨tp, _, _, b, rfl, ht, .cons (.own B1) (.cons (.own B2) .nil), k, q⟩⟩
section
variable {P : Program} {w : World} {K : PySem.W.Frag} {mg : Str → Option Value} {base : Heap} {a : Ad} {d : Fd}
def spToldSet (a : Ad) : Sp := fun vs H Q _ => ∃ (al : Addr) (l v nm : List Nat), vs = [.ref al, .str (S nm)] ∧ IsAl a.cAlphabet H al l v ∧ nm.length ≤ 60 ∧ (∀ c ∈ nm, c < 128) ∧
  ∀ (q : Addr) H', H' q = some (.tup [.bl (tell l v nm).1, .str (S (tell l v nm).2)]) → Same H H' → Q (.ref q) H'
theorem scToldSet : FnScope ["_law_alphabet", "_law_name_here", "_law_told", "e"] ["_law_alphabet", "_law_name_here"] (defScope sToldSet) := ⟨rfl, rfl, rfl, by decide +kernel, rfl, by decide +kernel, by decide +kernel⟩
theorem ok_toldSet {mc : Value} {tm tj tl : Tok} (T : Fns K mg a d) (BS : ErrX K a a.cBadSet a.cBadText "name") (AV : AlV K mg a.cAlphabet mc tm tj tl) (GBadSet : FnOk P w K mg base CX0 1 a.eBadSet d.eBadSet ["self", "name"] (spErr a.cBadSet "name")) :
    FnOk P w K mg base CX0 5 a.aToldSet d.dToldSet ["_law_alphabet", "_law_name_here"] (spToldSet a) := by
  have GSignsOf : FnOk P w K mg base (L2.CX P w) 4 a.aSignsOf d.dSignsOf ["self", "name"] (spSignsOf a.cAlphabet a.cBadSet) := ok_signsOf T AV GBadSet
  refine T.FToldSet.ok scToldSet (fun vs H Q E h => ?_) (fun cdv A0 outer s H vs Q E hr h => ?_)
  · obtain ⟨al, l, v, nm, rfl, _⟩ := h
    rfl
  · obtain ⟨al, l, v, nm, rfl, hal, hnl, hnc, kq⟩ := h
    obtain ⟨dxa, hal2⟩ := id hal
    have hal3 : H al = some (.ins a.cAlphabet dxa (alF l v)) := hal2
    have hlk : (alF l v).lookup ("signs_of" : Str) = none := rfl
    refine ⟨_, (pss_cons (ps_try_as (i := 3) (tb := fun W => tAsg (tMethS a.cAlphabet "signs_of" (spSignsOf a.cAlphabet a.cBadSet) (WE W) (tVar 0) (tCons (tVar 1) tNil)) (gName 2)) (ts := _) (Wout := fun _ _ _ _ => False) rfl rfl scToldSet.nd rfl rfl ⟨rfl, by decide, Or.inl T.gcTaleError⟩ takes0
      (fun W pn xe tk _ => pss_one (ps_set (i := 2) scToldSet.nd rfl (Or.inl rfl) (pe_methS (pv 0) T.clA T.mSignsOf GSignsOf (hr.mono (by decide)) T.bSignsOf (fun σ => passAt tk σ) (pa_cons (pv 1) pa_nil))))
      (fun ab oe cls db pn hz hf => pss_cons (ps_if (PW.pt (pw_and (pt_val (pe_callB (call_isX hz hf) (by rfl) T.z_isinstance (by decide +kernel) (pa_cons (pv 3) (pa_cons (pe_glob (v := .ref a.cBadSet) (by rfl) T.xBadSet.gB rfl) pa_nil))))
        (pw_and (pt_val (pe_callB (call_isX hz hf) (by rfl) T.z_isinstance (by decide +kernel) (pa_cons (pv 3) (pa_cons (pe_bltn (v := .ty "ValueError") (by rfl) T.z_VE (by decide +kernel) rfl) pa_nil))))
        (pw_and1 (pt_not (pt_val (pe_callB (call_isX hz hf) (by rfl) T.z_isinstance (by decide +kernel) (pa_cons (pv 3) (pa_cons (pe_tup (pa_cons (pe_glob (v := .ref a.cBadText) (by rfl) T.xBadText.gB rfl) (pa_cons (pe_glob (v := .ref a.cBadAlph) (by rfl) T.gcBadAlph rfl) pa_nil))) pa_nil)))))))))
        (pss_one (ps_ret (pe_tup (pa_cons pe_bl (pa_cons (pe_xf BS.xf BS.np hz hf (pv 3)) pa_nil))))) pss_nil)
        (pss_one (ps_ret (pe_tup (pa_cons pe_bl (pa_cons pe_non pa_nil)))))))
      (pss_cons (ps_if (pt_not (pt_val (pe_callB call_isi (by rfl) T.z_isinstance (by decide +kernel) (pa_cons (pv 2) (pa_cons (pe_bltn (v := .ty "str") (by rfl) T.z_str (by decide +kernel) rfl) pa_nil))))) (pss_one (ps_ret (pe_tup (pa_cons pe_bl (pa_cons pe_non pa_nil))))) pss_nil)
      (pss_one (ps_ret (pe_tup (pa_cons pe_bl (pa_cons (pv 2) pa_nil))))))), ?_⟩
    refine iSeq ?_
    refine iAsg ⟨_, rfl, al, dxa, _, rfl, hal3, hlk, _, rfl, al, l, v, nm, rfl, hal, by omega, fun c hc => by have := hnc c hc; omega, fun ms hms H1 s1 => ?_, fun hn dd H1 h1 h2 s1 => ?_⟩
    · have ht : tell l v nm = (true, ms) := by unfold tell; rw [hms]
      rw [ht] at kq
      walk_at "go"
      rename_i q hq
      exact kq q _ upd_same (Vk.Same.trans s1 (Same.upd_new hq))
    · have ht : tell l v nm = (false, nm) := by unfold tell; rw [hn]
      rw [ht] at kq
      refine ⟨true, BS.e1, fun _ ab hab => ?_, fun q => Bool.noConfusion q⟩
      refine iSeq ?_
      walk_at "go"
      refine iIsX1 BS.ec h2 (.own a.cBadSet) BS.k1 ?_
      walk_at "go"
      refine iIsX1 BS.ec h2 (.ty "ValueError") BS.k2 ?_
      walk_at "go"
      rename_i tp htp
      refine iIsX2 BS.ec ((Same.upd_new htp) _ _ h2) upd_same BS.k3 ?_
      walk_at "go"
      refine ⟨_, rfl, rfl, rfl, dd, _, _, rfl, (Same.upd_new htp) _ _ h2, rfl, by show 2 ≤ sizeLine; decide, fun q hq => ?_⟩
      exact kq q _ upd_same (Vk.Same.trans s1 (Vk.Same.trans (Same.upd_new htp) (Same.upd_new hq)))
def spChecked (a : Ad) : Sp := fun vs H Q _ => ∃ (al : Addr) (l v t : List Nat), vs = [.ref al, .str (S t)] ∧ IsAl a.cAlphabet H al l v ∧ t.length ≤ 70 ∧ (∀ c ∈ t, c < 128) ∧
  ∀ (q : Addr) H', H' q = some (.tup [.bl (decide (∀ c ∈ t, c ∈ 45 :: srtL l)), .str (S (if ∀ c ∈ t, c ∈ 45 :: srtL l then [] else t))]) → Same H H' → Q (.ref q) H'
theorem scChecked : FnScope ["_law_alphabet", "_law_text_here", "_law_told", "e"] ["_law_alphabet", "_law_text_here"] (defScope sChecked) := ⟨rfl, rfl, rfl, by decide +kernel, rfl, by decide +kernel, by decide +kernel⟩
theorem ok_checked (T : Fns K mg a d) (BS : ErrX K a a.cBadText a.cBadSet "text") (GBadText : FnOk P w K mg base CX0 1 a.eBadText d.eBadText ["self", "text"] (spErr a.cBadText "text")) :
    FnOk P w K mg base CX0 4 a.aChecked d.dChecked ["_law_alphabet", "_law_text_here"] (spChecked a) := by
  have GCheck : FnOk P w K mg base (L2.CX P w) 3 a.aCheck d.dCheck ["self", "text"] (spCheck a.cAlphabet a.cBadText) := ok_check T GBadText
  refine T.FChecked.ok scChecked (fun vs H Q E h => ?_) (fun cdv A0 outer s H vs Q E hr h => ?_)
  · obtain ⟨al, l, v, t, rfl, _⟩ := h
    rfl
  · obtain ⟨al, l, v, t, rfl, hal, hnl, hnc, kq⟩ := h
    obtain ⟨dxa, hal2⟩ := id hal
    have hal3 : H al = some (.ins a.cAlphabet dxa (alF l v)) := hal2
    have hlk : (alF l v).lookup ("check" : Str) = none := rfl
    refine ⟨_, (pss_cons (ps_try_as (i := 3) (tb := fun W => tAsg (tMethS a.cAlphabet "check" (spCheck a.cAlphabet a.cBadText) (WE W) (tVar 0) (tCons (tVar 1) tNil)) (gName 2)) (ts := _) (Wout := fun _ _ _ _ => False) rfl rfl scChecked.nd rfl rfl ⟨rfl, by decide, Or.inl T.gcTaleError⟩ takes0
      (fun W pn xe tk _ => pss_one (ps_set (i := 2) scChecked.nd rfl (Or.inl rfl) (pe_methS (pv 0) T.clA T.mCheck GCheck (hr.mono (by decide)) T.bCheck (fun σ => passAt tk σ) (pa_cons (pv 1) pa_nil))))
      (fun ab oe cls db pn hz hf => pss_cons (ps_if (PW.pt (pw_and (pt_val (pe_callB (call_isX hz hf) (by rfl) T.z_isinstance (by decide +kernel) (pa_cons (pv 3) (pa_cons (pe_glob (v := .ref a.cBadText) (by rfl) T.xBadText.gB rfl) pa_nil))))
        (pw_and (pt_val (pe_callB (call_isX hz hf) (by rfl) T.z_isinstance (by decide +kernel) (pa_cons (pv 3) (pa_cons (pe_bltn (v := .ty "ValueError") (by rfl) T.z_VE (by decide +kernel) rfl) pa_nil))))
        (pw_and1 (pt_not (pt_val (pe_callB (call_isX hz hf) (by rfl) T.z_isinstance (by decide +kernel) (pa_cons (pv 3) (pa_cons (pe_tup (pa_cons (pe_glob (v := .ref a.cBadSet) (by rfl) T.xBadSet.gB rfl) (pa_cons (pe_glob (v := .ref a.cBadAlph) (by rfl) T.gcBadAlph rfl) pa_nil))) pa_nil)))))))))
        (pss_one (ps_ret (pe_tup (pa_cons pe_bl (pa_cons (pe_xf BS.xf BS.np hz hf (pv 3)) pa_nil))))) pss_nil)
        (pss_one (ps_ret (pe_tup (pa_cons pe_bl (pa_cons pe_non pa_nil)))))))
      (pss_one (ps_ret (pe_tup (pa_cons (pe_cmpR op_isN (pv 2) pe_non (nomark _)) (pa_cons (pe_strS (l := []) (by decide +kernel)) pa_nil)))))), ?_⟩
    refine iSeq ?_
    refine iAsg ⟨_, rfl, al, dxa, _, rfl, hal3, hlk, _, rfl, al, l, v, t, rfl, hal, ⟨by omega, fun c hc => by have := hnc c hc; omega⟩, fun hy H1 s1 => ?_, fun hn dd H1 h1 h2 s1 => ?_⟩
    · rw [decide_eq_true hy, if_pos hy] at kq
      walk_at "go"
      rename_i q hq
      exact kq q _ (by rw [upd_same]; simp) (Vk.Same.trans s1 (Same.upd_new hq))
    · rw [decide_eq_false hn, if_neg hn] at kq
      refine ⟨true, BS.e1, fun _ ab hab => ?_, fun q => Bool.noConfusion q⟩
      refine iSeq ?_
      walk_at "go"
      refine iIsX1 BS.ec h2 (.own a.cBadText) BS.k1 ?_
      walk_at "go"
      refine iIsX1 BS.ec h2 (.ty "ValueError") BS.k2 ?_
      walk_at "go"
      rename_i tp htp
      refine iIsX2 BS.ec ((Same.upd_new htp) _ _ h2) upd_same BS.k3 ?_
      walk_at "go"
      refine ⟨_, rfl, rfl, rfl, dd, _, _, rfl, (Same.upd_new htp) _ _ h2, rfl, by show 2 ≤ sizeLine; decide, fun q hq => ?_⟩
      exact kq q _ upd_same (Vk.Same.trans s1 (Vk.Same.trans (Same.upd_new htp) (Same.upd_new hq)))
end
end
section
set_option Elab.async false
set_option linter.all false
set_option maxRecDepth 100000
set_option maxHeartbeats 4000000
open PySem PySem.Spec PyProof.Rows L2

local macro_rules | `(tactic| walk_at "side") => `(tactic| exact .inl (by assumption))

section
variable {P : Program} {w : World} {K : PySem.W.Frag} {mg : Str → Option Value} {base : Heap} {a : Ad} {d : Fd}
def spText : Sp := fun vs H Q _ => ∃ (b : Addr) (sg : List Nat) (few many B : Nat), vs = [.ref b, .str (S sg), .int (few : Int), .int (many : Int)] ∧ IsBox H b ∧ 0 < sg.length ∧ sg.length ≤ 6 ∧ few ≤ B ∧ many ≤ B ∧ B ≤ 100 ∧
  ∀ (t : List Nat) (H' : Hp), t.length ≤ B → (∀ c ∈ t, c ∈ sg) → IsBox H' b → Fr [b] H H' → Q (.str (S t)) H'
theorem scText : FnScope ["_law_box_here", "_law_signs", "_law_few", "_law_many", "_law_size", "_law_text_here", "_law_turn"] ["_law_box_here", "_law_signs", "_law_few", "_law_many"] (defScope sText) := ⟨rfl, rfl, rfl, by decide +kernel, rfl, by decide +kernel, by decide +kernel⟩
def tSz : TS := fun D σ H => ∃ (b : Addr) (sg : List Nat) (few many B n : Nat), σ = [some (.ref b), some (.str (S sg)), some (.int (few : Int)), some (.int (many : Int)), some (.int (n : Int)), none, none] ∧ IsBox H b ∧ n ≤ B ∧ many ≤ B ∧
  ∀ (n' : Nat) (H' : Hp), n' ≤ B → IsBox H' b → Fr [b] H H' → D.nx [some (.ref b), some (.str (S sg)), some (.int (few : Int)), some (.int (many : Int)), some (.int (n' : Int)), none, none] H'
theorem ok_text (T : Fns K mg a d) : FnOk P w K mg base CX0 2 a.aText d.dText ["_law_box_here", "_law_signs", "_law_few", "_law_many"] spText := by
  have GTake : FnOk P w K mg base CX0 1 a.aTake d.dTake ["_law_box_here", "_law_size"] spTake := ok_take T
  refine T.FText.ok scText (fun vs H Q E h => ?_) (fun cdv A outer s H vs Q E hr h => ?_)
  · obtain ⟨b, sg, few, many, B, rfl, _⟩ := h
    rfl
  · obtain ⟨b, sg, few, many, B, rfl, hB, hs0, hs1, hf, hm, hb, k⟩ := h
    refine ⟨_, ((pss_cons (ps_set (i := 4) scText.nd rfl (Or.inl rfl) (pe_call GTake (hr.mono (by decide)) (by rfl) T.gTake T.FTake.kp T.bTake .nil pass0 (pa_cons (pv 0) (pa_cons (pe_op op_add (pv 2) pe_int) pa_nil))))
      (pss_cons (PS.imp (t' := tSz) (ps_if (pt_cmpR op_eq (pe_call GTake (hr.mono (by decide)) (by rfl) T.gTake T.FTake.kp T.bTake .nil pass0 (pa_cons (pv 0) (pa_cons pe_int pa_nil))) pe_int (nomark _)) (pss_one (ps_set (i := 4) scText.nd rfl (Or.inl rfl) (pv 3))) pss_nil) ?h1)
      (pss_cons (ps_set (i := 5) scText.nd rfl (Or.inl rfl) (pe_strS (l := []) (by decide +kernel)))
      (pss_cons (ps_for PassesOwn.never rfl (pi_range1 (by rfl) T.z_range (pa_cons (pv 4) pa_nil)) (pg_name (i := 6) scText.nd rfl (Or.inl rfl)) (pss_one (ps_set (i := 5) scText.nd rfl (Or.inl rfl) (pe_op op_addS (pv 5) (pe_ix ix_str (pv 1) (pe_call GTake (hr.mono (by decide)) (by rfl) T.gTake T.FTake.kp T.bTake .nil pass0 (pa_cons (pv 0) (pa_cons (pe_callB call_lenS (by rfl) T.z_len (by decide +kernel) (pa_cons (pv 1) pa_nil)) pa_nil))) (fun _ _ => rfl))))))
      (pss_one (ps_ret (pv 5)))))))), ?_⟩
    case h1 =>
      rintro ⟨D1, D2, D3, D4⟩ σ H ⟨b, sg, few, many, B, n, rfl, hB, hn, hm, k⟩
      walk_at "go"
      refine ⟨b, 8, rfl, hB, by decide, by decide, fun r H1 hr1 hB1 f1 => ?_⟩
      walk_at "go"
      · exact k many H1 hm hB1 f1
      · exact k n H1 hn hB1 f1
    walk_at "go"
    refine ⟨b, few + 1, rfl, hB, by omega, by omega, fun n H1 hn hB1 f1 => ?_⟩
    walk_at "go"
    refine ⟨b, sg, few, many, B, n, rfl, hB1, by omega, hm, fun n' H2 hn2 hB2 f2 => ?_⟩
    walk_at "go"
    refine for_R (fun i σ H' => Stop (∃ (q : List Nat) (v6 : Option V), σ = [some (.ref b), some (.str (S sg)), some (.int (few : Int)), some (.int (many : Int)), some (.int (n' : Int)), some (.str (S q)), v6] ∧ q.length = i ∧ (∀ c ∈ q, c ∈ sg) ∧ IsBox H' b ∧ Fr [b] H H'))
      ⟨[], none, rfl, rfl, (fun c hc => nomatch hc), hB2, Fr.trans f1 f2⟩ ?_ ?_
    · rintro i σ H3 hi ⟨q, v6, rfl, hq, hqs, hB3, f3⟩
      walk_at "go"
      refine ⟨b, sg.length, rfl, hB3, by omega, by omega, fun r H4 hr4 hB4 f4 => ?_⟩
      have hc : sg[r]? = some sg[r] := List.getElem?_eq_getElem hr4
      have hcm := List.getElem_mem hr4
      generalize sg[r] = c at hc hcm
      walk_at "go"
      exact ⟨q ++ [c], _, rfl, by simp [hq], (fun x hx => (List.mem_append.mp hx).elim (hqs x) fun z => by rw [List.mem_singleton.mp z]; exact hcm), hB4, Fr.trans f3 f4⟩
    · rintro σ H3 ⟨q, v6, rfl, hq, hqs, hB3, f3⟩
      walk_at "go"
      exact k q H3 (by omega) hqs hB3 f3
def spTexts : Sp := fun vs H Q _ => ∃ (b : Addr) (sg : List Nat), vs = [.ref b, .str (S sg)] ∧ IsBox H b ∧ 0 < sg.length ∧ sg.length ≤ 6 ∧
  ∀ (p : Addr) (ts : List (List Nat)) (H' : Hp), H p = none → H' p = some (.lst (ts.map fun t => V.str (S t))) → ts.length ≤ 6 → (∀ t ∈ ts, t.length ≤ 24 ∧ ∀ c ∈ t, c ∈ sg) → Fr [b] H H' → Q (.ref p) H'
theorem scTexts : FnScope ["_law_box_here", "_law_signs", "_law_texts_here", "_law_turn"] ["_law_box_here", "_law_signs"] (defScope sTexts) := ⟨rfl, rfl, rfl, by decide +kernel, rfl, by decide +kernel, by decide +kernel⟩
theorem ok_texts (T : Fns K mg a d) : FnOk P w K mg base CX0 3 a.aTexts d.dTexts ["_law_box_here", "_law_signs"] spTexts := by
  have GTake : FnOk P w K mg base CX0 1 a.aTake d.dTake ["_law_box_here", "_law_size"] spTake := ok_take T
  have GText : FnOk P w K mg base CX0 2 a.aText d.dText ["_law_box_here", "_law_signs", "_law_few", "_law_many"] spText := ok_text T
  refine T.FTexts.ok scTexts (fun vs H Q E h => ?_) (fun cdv A outer s H vs Q E hr h => ?_)
  · obtain ⟨b, sg, rfl, _⟩ := h
    rfl
  · obtain ⟨b, sg, rfl, hB, hs0, hs1, k⟩ := h
    refine ⟨_, ((pss_cons (ps_set (i := 2) scTexts.nd rfl (Or.inl rfl) (pe_lst pa_nil))
      (pss_cons (ps_for PassesOwn.never rfl (pi_range1 (by rfl) T.z_range (pa_cons (pe_call GTake (hr.mono (by decide)) (by rfl) T.gTake T.FTake.kp T.bTake .nil pass0 (pa_cons (pv 0) (pa_cons pe_int pa_nil))) pa_nil)) (pg_name (i := 3) scTexts.nd rfl (Or.inl rfl)) (pss_one (ps_if (PW.pt (pw_and (pt_truth (pv 2) (by intro _; rfl)) (pw_and1 (pt_cmpR op_eq (pe_call GTake (hr.mono (by decide)) (by rfl) T.gTake T.FTake.kp T.bTake .nil pass0 (pa_cons (pv 0) (pa_cons pe_int pa_nil))) pe_int (nomark _))))) (pss_one (ps_expr (pe_bm PySem.F.plainAttrs_list PySem.F.slot_list_append PySem.F.type_list_append mt_append (pv 2) (pa_cons (pe_ix (r := rIxL K) ix_list (pv 2) (pe_call GTake (hr.mono (by decide)) (by rfl) T.gTake T.FTake.kp T.bTake .nil pass0 (pa_cons (pv 0) (pa_cons (pe_callB call_len_seq (by rfl) T.z_len (by decide +kernel) (pa_cons (pv 2) pa_nil)) pa_nil))) (fun _ _ => rfl)) pa_nil)))) (pss_one (ps_expr (pe_bm PySem.F.plainAttrs_list PySem.F.slot_list_append PySem.F.type_list_append mt_append (pv 2) (pa_cons (pe_call GText (hr.mono (by decide)) (by rfl) T.gText T.FText.kp T.bText .nil pass0 (pa_cons (pv 0) (pa_cons (pv 1) (pa_cons pe_int (pa_cons pe_int pa_nil))))) pa_nil)))))))
      (pss_one (ps_ret (pv 2)))))), ?_⟩
    walk_at "go"
    rename_i p hp
    have nb := hB.ne hp
    refine ⟨b, 7, rfl, hB.laid hp, by decide, by decide, fun n H1 hn hB1 f1 => ?_⟩
    have hp1 : H1 p = some (.lst []) := f1 p _ (by simp; exact nb.symm) upd_same
    have f1' : Fr [b] H H1 := Fr.trans (Fr.upd_new hp) f1
    walk_at "go"
    refine for_R (fun i σ H' => Stop (∃ (ts : List (List Nat)) (v3 : Option V), σ = [some (.ref b), some (.str (S sg)), some (.ref p), v3] ∧ ts.length = i ∧ (∀ t ∈ ts, t.length ≤ 24 ∧ ∀ c ∈ t, c ∈ sg) ∧ H' p = some (.lst (ts.map fun t => V.str (S t))) ∧ IsBox H' b ∧ Fr [b, p] H H'))
      ⟨[], none, rfl, rfl, (fun c hc => nomatch hc), hp1, hB1, f1'.mono (fun x hx => List.mem_cons.mpr (.inl (List.mem_singleton.mp hx)))⟩ ?_ ?_
    · rintro i σ H2 hi ⟨ts, v3, rfl, hts, hq, hp2, hB2, f2⟩
      have np : p ≠ b := fun z => nb z.symm
      have fr2 : ∀ {H3 H4 : Hp}, Fr [b] H3 H4 → Fr [b, p] H3 H4 := fun f => f.mono (fun x hx => List.mem_cons.mpr (.inl (List.mem_singleton.mp hx)))
      have add : ∀ (t : List Nat) (H4 : Hp), t.length ≤ 24 → (∀ c ∈ t, c ∈ sg) → (∀ u ∈ ts ++ [t], u.length ≤ 24 ∧ ∀ c ∈ u, c ∈ sg) := fun t H4 h1 h2 u hu => (List.mem_append.mp hu).elim (hq u) fun z => by rw [List.mem_singleton.mp z]; exact ⟨h1, h2⟩
      have plain : ∀ (H3 : Hp), IsBox H3 b → Fr [b] H2 H3 → ∀ (Z : V → Hp → Prop), (∀ (t : List Nat) (H4 : Hp), t.length ≤ 24 → (∀ c ∈ t, c ∈ sg) → IsBox H4 b → H4 p = some (.lst (ts.map fun t => V.str (S t))) → Fr [b, p] H H4 → Z (.str (S t)) H4) → spText [.ref b, .str (S sg), .int 4, .int 24] H3 Z E0 := fun H3 hB3 f3 Z z =>
        ⟨b, sg, 4, 24, 24, rfl, hB3, hs0, hs1, by decide, by decide, by decide, fun t H4 h1 h2 h3 h4 => z t H4 h1 h2 h3 (h4 _ _ (by simpa using np) (f3 _ _ (by simpa using np) hp2)) (Fr.trans f2 (fr2 (Fr.trans f3 h4)))⟩
      walk_at "go"
      · rename_i hne
        have hpos : 0 < ts.length := by
          rcases ts with _ | ⟨x, r⟩
          · simp at hne
          · simp
        refine ⟨b, 3, rfl, hB2, by decide, by decide, fun r H3 hr3 hB3 f3 => ?_⟩
        have hp3 := f3 _ _ (by simpa using np) hp2
        walk_at "go"
        · refine ⟨b, ts.length, by rw [List.length_map], hB3, by omega, by omega, fun r2 H4 hr4 hB4 f4 => ?_⟩
          have hp4 := f4 _ _ (by simpa using np) hp3
          have ht := List.getElem?_eq_getElem hr4
          have htm := hq _ (List.getElem_mem hr4)
          generalize ts[r2] = t at ht htm
          refine iIxL (SqL.of hp4) (atI_nat (by rw [List.getElem?_map, ht]; rfl)) ?_
          walk_at "go"
          refine iAppend hp4 (by rw [List.length_map, sizeLine_eq]; omega) ?_
          walk_at "go"
          exact ⟨ts ++ [t], _, rfl, by simp [hts], add t H4 htm.1 htm.2, by rw [upd_same, List.map_append]; rfl, hB4.upd nb, Fr.trans f2 (Fr.trans (fr2 (Fr.trans f3 f4)) Fr.in1)⟩
        · refine plain H3 hB3 f3 _ fun t H4 h1 h2 h3 h4 h5 => ?_
          walk_at "go"
          refine iAppend h4 (by rw [List.length_map, sizeLine_eq]; omega) ?_
          walk_at "go"
          exact ⟨ts ++ [t], _, rfl, by simp [hts], add t H4 h1 h2, by rw [upd_same, List.map_append]; rfl, h3.upd nb, Fr.trans h5 Fr.in1⟩
      · refine plain H2 hB2 (Fr.refl _ _) _ fun t H4 h1 h2 h3 h4 h5 => ?_
        walk_at "go"
        refine iAppend h4 (by rw [List.length_map, sizeLine_eq]; omega) ?_
        walk_at "go"
        exact ⟨ts ++ [t], _, rfl, by simp [hts], add t H4 h1 h2, by rw [upd_same, List.map_append]; rfl, h3.upd nb, Fr.trans h5 Fr.in1⟩
    · rintro σ H3 ⟨ts, v3, rfl, hts, hq, hp3, hB3, f3⟩
      walk_at "go"
      refine k p ts H3 hp hp3 (by omega) hq fun x u hx e => ?_
      exact f3 x u (fun z => (List.mem_cons.mp z).elim (fun z => hx (by simp [z])) fun z => ne_of_none e hp (List.mem_singleton.mp z)) e
end
end
section
set_option Elab.async false
set_option linter.all false
set_option maxRecDepth 100000
set_option maxHeartbeats 4000000
open PySem PySem.Spec PyProof.Rows L2 NSet

local macro_rules | `(tactic| walk_at "side") => `(tactic| exact .inl (by assumption))
/-! shortlex -/
/-- the key of a text -/
def keyT (t : List Nat) : List Cell := [.inl (t.length : Int), .inr (S t)]
theorem keyT_inj {t u : List Nat} (h : keyT t = keyT u) : t = u := by
  unfold keyT at h
  simp only [List.cons.injEq, Sum.inr.injEq, and_true] at h
  exact S_inj.mp h.2
/-- the sort key of a text -/
def ordT (t : List Nat) : List (Int ⊕ List Nat) := [.inl (t.length : Int), .inr t]
theorem key_ord (t : List Nat) : (keyT t).map kc = ordT t := by
  show [Sum.inl (t.length : Int), Sum.inr (S t).cps.toList] = _
  rw [S_cps]
  rfl
def Before (a b : List Nat) : Prop := lexLt itemOrd (ordT a) (ordT b) = true
theorem texts_of : ∀ (L : List (Addr × List Cell)), (∀ p ∈ L, ∃ t, p.2 = keyT t) → ∃ us : List (List Nat), L.map (·.2) = us.map keyT ∧ us.length = L.length
  | [], _ => ⟨[], rfl, rfl⟩
  | p :: L, h => by
    obtain ⟨t, e⟩ := h p List.mem_cons_self
    obtain ⟨us, e2, e3⟩ := texts_of L fun q hq => h q (List.mem_cons_of_mem _ hq)
    exact ⟨t :: us, by rw [List.map_cons, List.map_cons, e, e2], by simp [e3]⟩
theorem before_of {L : List (Addr × List Cell)} {us : List (List Nat)} (e : L.map (·.2) = us.map keyT) (nd : (L.map (·.2)).Nodup) (o : InOrder L) : us.Pairwise Before := by
  have o2 : (L.map (·.2)).Pairwise fun q r => lexLt itemOrd (r.map kc) (q.map kc) = false := List.pairwise_map.mpr o
  rw [e] at o2 nd
  have o3 := List.pairwise_map.mp o2
  have n3 := List.pairwise_map.mp nd
  refine (List.Pairwise.and o3 n3).imp fun {a b} ⟨h1, h2⟩ => ?_
  unfold Before
  rw [key_ord, key_ord] at h1
  cases h : lexLt itemOrd (ordT a) (ordT b) with
  | true => rfl
  | false =>
    have e := lex_total _ _ h h1
    unfold ordT at e
    simp only [List.cons.injEq, Sum.inr.injEq, and_true] at e
    exact absurd (congrArg keyT e.2) h2
theorem sqT_same {K : PySem.W.Frag} {H H' : Hp} {a : Addr} {xs : List V} (h : SqT K H a xs) (s : Same H H') : SqT K H' a xs := by
  rcases h with (h | ⟨o, h⟩) | h
  · exact .inl (.inl (s _ _ h))
  · exact .inl (.inr ⟨o, s _ _ h⟩)
  · exact .inr h
theorem sqT_set {K : PySem.W.Frag} {w : World} {H : Hp} {a D : Addr} {xs : List V} {L : List (Addr × List Cell)} {o : HO} (h : SqT K H a xs) (hD : H D = some (SetN w D L)) : SqT K (upd H D o) a xs := by
  have ne : ∀ u, H a = some u → u ≠ SetN w D L → a ≠ D := fun u e n z => by
    rw [z, hD] at e
    exact n (Option.some.inj e).symm
  rcases h with (h | ⟨o, h⟩) | h
  · exact .inl (.inl (by rw [upd_ne (ne _ h (fun z => by unfold SetN at z; cases z))]; exact h))
  · exact .inl (.inr ⟨o, by rw [upd_ne (ne _ h (fun z => by unfold SetN at z; cases z))]; exact h⟩)
  · exact .inr h
section
variable {P : Program} {w : World} {K : PySem.W.Frag} {mg : Str → Option Value} {base : Heap} {a : Ad} {d : Fd}
def spShortlex (K : PySem.W.Frag) : Sp := fun vs H Q _ => ∃ (x : Addr) (ts : List (List Nat)), vs = [.ref x] ∧ SqL K H x (ts.map fun t => V.str (S t)) ∧ ts.length < 60 ∧ (∀ t ∈ ts, t.length ≤ 1000) ∧
  ∀ (p : Addr) (us : List (List Nat)) H', H p = none → H' p = some (.lst (us.map fun t => V.str (S t))) → Same H H' → (∀ u ∈ us, u ∈ ts) → (∀ t ∈ ts, t ∈ us) → us.Pairwise Before → us.length < 64 → Q (.ref p) H'
theorem scPShortlex : FnScope ["texts", "_", "text", "word"] ["texts"] (defScope sPShortlex) := ⟨rfl, rfl, rfl, by decide +kernel, rfl, by decide +kernel, by decide +kernel⟩
theorem ok_shortlex (T : Fns K mg a d) : FnOk P w K mg base CX0 2 a.aPShortlex d.dPShortlex ["texts"] (spShortlex K) := by
  refine T.FPShortlex.ok scPShortlex (fun vs H Q E h => ?_) (fun cdv A outer s H vs Q E hr h => ?_)
  · obtain ⟨x, ts, rfl, _⟩ := h
    rfl
  · obtain ⟨x, ts, rfl, hx, hl, htl, k⟩ := h
    refine ⟨_, (pss_one (ps_ret (pe_lc (own := [("_", 1), ("text", 2)]) (g := gTup K 2 (gCons (gName 1) (gCons (gName 2) gNil))) (by rfl) scPShortlex.nd
      (pi_list (pe_callB (cr_sortN rfl) (by rfl) T.z_sorted (by decide +kernel) (pa_cons
        (pe_scN (own := [("word", 3)]) (g := gName 3) (te := tTup (tCons (tCB rLenS1 (tCons (tVar 3) tNil)) (tCons (tVar 3) tNil))) (by rfl) (Nat.lt_of_succ_lt hr.units1) scPShortlex.nd (pi_list (pv 0)) (blkOk_by (own := [("word", 3)]) (N := ["texts", "_", "text", "word"]) (sc := defScope sPShortlex) (by decide +kernel))
          (fun _ _ _ _ _ => pg_name (i := 3) scPShortlex.nd rfl (Or.inl rfl)) (fun _ _ _ _ _ => pts_nil)
          (fun _ _ _ _ _ => pe_tup (pa_cons (pe_callB (id := "len") (r := rLenS1) call_lenS (by rfl) T.z_len (by decide +kernel) (pa_cons (pv 3) pa_nil)) (pa_cons (pv 3) pa_nil)))) pa_nil)))
      (blkOk_by (own := [("_", 1), ("text", 2)]) (N := ["texts", "_", "text", "word"]) (sc := defScope sPShortlex) (by decide +kernel))
      (fun _ _ _ _ _ => pg_tup rfl (pgs_cons (pg_name (i := 1) scPShortlex.nd rfl (Or.inl rfl)) (pgs_cons (pg_name (i := 2) scPShortlex.nd rfl (Or.inl rfl)) pgs_nil)))
      (fun _ _ _ _ _ => pts_nil) (fun _ _ _ _ _ => (pv 2))))), ?_⟩
    refine ⟨_, rfl, x, rfl, ⟨_, hx⟩, fun D hD => ?_⟩
    refine scN_list (K := K) (w := w) (xs := ts.map fun t => V.str (S t)) (fun i H' => ∃ L, H' D = some (SetN w D L) ∧ (∀ p ∈ L, SqT K H' p.1 (p.2.map vc) ∧ ∃ t ∈ ts.take i, p.2 = keyT t) ∧ (∀ t ∈ ts.take i, keyT t ∈ L.map (·.2)) ∧ L.length ≤ i ∧ Same H H') ?_ ?_ ?_ ?_
    · exact ⟨[], upd_same, (fun p hp => nomatch hp), (fun t ht => by rw [List.take_zero] at ht; cases ht), Nat.le_refl _, Same.upd_new hD⟩
    · rintro i H' _ ⟨L, _, _, _, _, s⟩
      exact s.seq hx
    · rintro i xv H' hi ⟨L, hD', hL, hc, hn, s⟩
      obtain ⟨t, ht, rfl⟩ : ∃ t, ts[i]? = some t ∧ xv = V.str (S t) := by
        rw [List.getElem?_map] at hi
        cases e : ts[i]? with
        | none => rw [e] at hi; cases hi
        | some z => rw [e] at hi; exact ⟨z, rfl, (Option.some.inj hi).symm⟩
      have e1 : ts.take (i + 1) = ts.take i ++ [t] := by
        rw [List.take_add_one, ht]
        rfl
      have hit := (List.getElem?_eq_some_iff.mp ht).1
      have htt := htl t (List.mem_of_getElem? ht)
      refine ⟨rfl, ?_⟩
      walk_at "go"
      rename_i q hq
      have s2 : Same H' (upd H' q (.tup [.int (t.length : Int), .str (S t)])) := Same.upd_new hq
      refine ⟨q, keyT t, L, rfl, SqT.of upd_same, s2 _ _ hD', fun p hp => sqT_same (hL p hp).1 s2, by omega, fun L' c1 c2 => ?_⟩
      have hD2 := s2 _ _ hD'
      have hqt : SqT K (upd H' q (.tup [.int (t.length : Int), .str (S t)])) q ((keyT t).map vc) := SqT.of upd_same
      generalize upd H' q (.tup [.int (t.length : Int), .str (S t)]) = H4 at s2 hD2 hqt ⊢
      have old : ∀ p ∈ L, SqT K (upd H4 D (SetN w D L')) p.1 (p.2.map vc) ∧ ∃ t ∈ ts.take (i + 1), p.2 = keyT t := fun p hp => by
        obtain ⟨g1, t2, g2, g3⟩ := hL p hp
        exact ⟨sqT_set (sqT_same g1 s2) hD2, t2, by rw [e1]; exact List.mem_append_left _ g2, g3⟩
      have s3 : Same H (upd H4 D (SetN w D L')) := fun b u e => by
        have nb : b ≠ D := fun z => by rw [z, hD] at e; cases e
        rw [upd_ne nb]
        exact s2 _ _ (s _ _ e)
      by_cases hm : keyT t ∈ L.map (·.2)
      · have eL := c1 hm
        subst eL
        refine ⟨L', upd_same, old, fun u hu => ?_, by omega, s3⟩
        rw [e1] at hu
        rcases List.mem_append.mp hu with z | z
        · exact hc u z
        · rw [List.mem_singleton.mp z]; exact hm
      · have pm := c2 hm
        refine ⟨L', upd_same, fun p hp => ?_, fun u hu => ?_, by rw [pm.length_eq, List.length_cons]; omega, s3⟩
        · rcases List.mem_cons.mp (pm.mem_iff.mp hp) with z | z
          · rw [z]
            exact ⟨sqT_set hqt hD2, t, by rw [e1]; exact List.mem_append_right _ (List.mem_singleton.mpr rfl), rfl⟩
          · exact old p z
        · rw [(pm.map (·.2)).mem_iff, List.map_cons]
          rw [e1] at hu
          rcases List.mem_append.mp hu with z | z
          · exact List.mem_cons_of_mem _ (hc u z)
          · rw [List.mem_singleton.mp z]; exact List.mem_cons_self
    · rintro H' ⟨L, hD', hL, hc, hn, s⟩
      rw [List.length_map, List.take_length] at hL hc
      refine ⟨D, L, (fun i => decide (i = 1)), rfl, hD', fun p hp => ⟨(hL p hp).1, ?_⟩, fun L' p pm nd lt od hp => ?_⟩
      · obtain ⟨t, _, e⟩ := (hL p hp).2
        rw [e]
        exact ⟨⟨rfl, rfl, trivial⟩, by unfold keyT; simp⟩
      obtain ⟨us, eu, lu⟩ := texts_of L' fun q hq => by
        obtain ⟨t, _, e⟩ := (hL q (pm.mem_iff.mp hq)).2
        exact ⟨t, e⟩
      have hb := before_of eu nd od
      have hin : ∀ u ∈ us, u ∈ ts := fun u hu => by
        have : keyT u ∈ L'.map (·.2) := by rw [eu]; exact List.mem_map.mpr ⟨u, hu, rfl⟩
        obtain ⟨q, hq, e⟩ := List.mem_map.mp this
        obtain ⟨t, ht, e2⟩ := (hL q (pm.mem_iff.mp hq)).2
        rw [e2] at e
        rwa [← keyT_inj e]
      have hcov : ∀ t ∈ ts, t ∈ us := fun t ht => by
        have : keyT t ∈ L'.map (·.2) := ((pm.map (·.2)).mem_iff).mpr (hc t ht)
        rw [eu] at this
        obtain ⟨u, hu, e⟩ := List.mem_map.mp this
        rwa [← keyT_inj e]
      have s2 : Same H' (upd H' p (.lst (L'.map fun q => V.ref q.1))) := Same.upd_new hp
      have hp1 : (upd H' p (.lst (L'.map fun q => V.ref q.1))) p = some (.lst (L'.map fun q => V.ref q.1)) := upd_same
      have hL2 : ∀ q ∈ L', SqT K (upd H' p (.lst (L'.map fun q => V.ref q.1))) q.1 (q.2.map vc) := fun q hq => sqT_same (hL q (pm.mem_iff.mp hq)).1 s2
      refine ⟨p, rfl, ⟨_, SqL.of upd_same⟩, fun D2 hD2 => ?_⟩
      generalize upd H' p (.lst (L'.map fun q => V.ref q.1)) = H2 at s2 hp1 hL2 hD2 ⊢
      refine lc_list (K := K) (a := p) (xs := L'.map fun q => V.ref q.1) (fun i H3 => H3 = upd H2 D2 (.lst ((us.take i).map fun t => V.str (S t)))) rfl (fun i H3 _ e => ?_) ?_ ?_
      · rw [e]
        exact (Same.upd_new hD2).seq (SqL.of hp1)
      · rintro i xv H3 hi rfl
        obtain ⟨q, hq, rfl⟩ : ∃ q, L'[i]? = some q ∧ xv = V.ref q.1 := by
          rw [List.getElem?_map] at hi
          cases e : L'[i]? with
          | none => rw [e] at hi; cases hi
          | some z => rw [e] at hi; exact ⟨z, rfl, (Option.some.inj hi).symm⟩
        obtain ⟨t, ht, ek⟩ : ∃ t, us[i]? = some t ∧ keyT t = q.2 := by
          have : (L'.map (·.2))[i]? = some q.2 := by rw [List.getElem?_map, hq]; rfl
          rw [eu, List.getElem?_map] at this
          cases e : us[i]? with
          | none => rw [e] at this; cases this
          | some z => rw [e] at this; exact ⟨z, rfl, Option.some.inj this⟩
        have e1 : us.take (i + 1) = us.take i ++ [t] := by
          rw [List.take_add_one, ht]
          rfl
        have sq := sqT_same (hL2 q (List.mem_of_getElem? hq)) (Same.upd_new (o := .lst ((us.take i).map fun t => V.str (S t))) hD2)
        rw [← ek] at sq
        have hi2 := (List.getElem?_eq_some_iff.mp ht).1
        refine ⟨q.1, _, rfl, sq, rfl, .int (t.length : Int), [.str (S t)], rfl, .str (S t), [], rfl, rfl, rfl, ?_⟩
        refine iYes ?_
        refine ⟨_, rfl, _, upd_same, ?_, ?_⟩
        · rw [List.length_map, List.length_take, sizeLine_eq]
          omega
        · rw [upd_upd, e1, List.map_append]
          rfl
      · rintro H3 rfl
        rw [List.length_map, ← lu, List.take_length]
        exact k D2 us _ (Vk.Same.trans s s2 |>.free hD2) upd_same (Vk.Same.trans (Vk.Same.trans s s2) (Same.upd_new hD2)) hin hcov hb (by omega)
end
end
section
set_option Elab.async false
set_option linter.all false
set_option maxRecDepth 100000
set_option maxHeartbeats 4000000
open PySem PySem.Spec PyProof.Rows L2

local macro_rules | `(tactic| walk_at "side") => `(tactic| exact .inl (by assumption))
def kStrA11_0 : List Nat := [115, 116, 97, 114, 116]
theorem kStrA11_0_eq : PySem.Str.ofString "start" = S kStrA11_0 := by decide +kernel
def kStrA11_1 : List Nat := [106, 111, 105, 110, 116]
theorem kStrA11_1_eq : PySem.Str.ofString "joint" = S kStrA11_1 := by decide +kernel
def kStrA11_2 : List Nat := [108, 101, 116, 116, 101, 114]
theorem kStrA11_2_eq : PySem.Str.ofString "letter" = S kStrA11_2 := by decide +kernel
/-! the order of texts -/
def difL (sg : List Nat) : List Nat → List Nat → Bool
  | x :: a, y :: b => if x = y then difL sg a b else decide (n1 sg x < n1 sg y)
  | _, _ => false
def befB (sg a b : List Nat) : Bool := if a.length = b.length then difL sg a b else decide (a.length < b.length)
theorem n1_mono {sg : List Nat} (h : sg.Pairwise (· < ·)) {c d : Nat} (hc : c ∈ sg) (hd : d ∈ sg) (k : c < d) : n1 sg c < n1 sg d := by
  have h1 := n1_at hc
  have h2 := n1_at hd
  have l1 := n1_mem.mp hc
  have l2 := n1_mem.mp hd
  have pw := List.pairwise_iff_getElem.mp h
  have e1 : sg[n1 sg c] = c := (List.getElem?_eq_some_iff.mp h1).2
  have e2 : sg[n1 sg d] = d := (List.getElem?_eq_some_iff.mp h2).2
  rcases Nat.lt_trichotomy (n1 sg c) (n1 sg d) with q | q | q
  · exact q
  · have : c = d := by rw [← e1, ← e2]; simp only [q]
    omega
  · have := pw _ _ l2 l1 q
    rw [e1, e2] at this
    omega
theorem difL_of {sg : List Nat} (h : sg.Pairwise (· < ·)) : ∀ {a b : List Nat}, a.length = b.length → (∀ c ∈ a, c ∈ sg) → (∀ c ∈ b, c ∈ sg) → a < b → difL sg a b = true
  | [], [], _, _, _, k => absurd k (List.lt_irrefl [])
  | x :: a, y :: b, e, ha, hb, k => by
    unfold difL
    rcases List.cons_lt_cons_iff.mp k with q | ⟨q, q2⟩
    · rw [if_neg (by omega)]
      exact decide_eq_true (n1_mono h (ha x List.mem_cons_self) (hb y List.mem_cons_self) q)
    · rw [if_pos q]
      exact difL_of h (by simpa using e) (fun c hc => ha c (List.mem_cons_of_mem _ hc)) (fun c hc => hb c (List.mem_cons_of_mem _ hc)) q2
theorem befB_of {sg a b : List Nat} (h : sg.Pairwise (· < ·)) (ha : ∀ c ∈ a, c ∈ sg) (hb : ∀ c ∈ b, c ∈ sg) (k : Before a b) : befB sg a b = true := by
  unfold Before ordT at k
  unfold befB
  have k2 : a.length < b.length ∨ (¬ b.length < a.length ∧ a < b) := by
    simp only [PyProof.Rows.lexLt, PyProof.Rows.itemLt, Bool.or_eq_true, Bool.and_eq_true, Bool.not_eq_true', decide_eq_true_eq, decide_eq_false_iff_not, Bool.or_false, Bool.and_false, PyProof.Rows.strKind] at k
    rcases k with q | ⟨q1, q2⟩
    · exact .inl (by omega)
    · exact .inr ⟨by omega, q2⟩
  rcases k2 with q | ⟨q1, q2⟩
  · rw [if_neg (by omega)]
    exact decide_eq_true q
  · by_cases e : a.length = b.length
    · rw [if_pos e]
      exact difL_of h e ha hb q2
    · rw [if_neg e]
      exact decide_eq_true (by omega)
theorem difL_drop {sg a b : List Nat} {i x y : Nat} (hx : a[i]? = some x) (hy : b[i]? = some y) : difL sg (a.drop i) (b.drop i) = if x = y then difL sg (a.drop (i + 1)) (b.drop (i + 1)) else decide (n1 sg x < n1 sg y) := by
  obtain ⟨h1, e1⟩ := List.getElem?_eq_some_iff.mp hx
  obtain ⟨h2, e2⟩ := List.getElem?_eq_some_iff.mp hy
  rw [List.drop_eq_getElem_cons h1, List.drop_eq_getElem_cons h2, e1, e2]
  rfl
theorem atI_last {t : List Nat} {y : Nat} (h : t.getLast? = some y) : atI t (-1) = some y := by
  obtain ⟨m, rfl⟩ : ∃ m, t = m ++ [y] := by
    rcases List.eq_nil_or_concat t with e | ⟨m, z, e⟩
    · subst e
      cases h
    · rw [List.concat_eq_append] at e
      subst e
      simp at h
      exact ⟨m, by rw [h]⟩
  unfold atI
  have e : ixN (m ++ [y]).length (-1) = some m.length := by
    unfold ixN
    simp
    omega
  rw [e]
  simp
section
variable {P : Program} {w : World} {K : PySem.W.Frag} {mg : Str → Option Value} {base : Heap} {a : Ad} {d : Fd}
def spBefore : Sp := fun vs H Q _ => ∃ (sg t u : List Nat), vs = [.str (S sg), .str (S t), .str (S u)] ∧ t.length ≤ 1000 ∧ u.length ≤ 1000 ∧ (∀ c ∈ t, c ∈ sg) ∧ (∀ c ∈ u, c ∈ sg) ∧ Q (.bl (befB sg t u)) H
theorem scBefore : FnScope ["_law_signs", "_law_one", "_law_other", "_law_k"] ["_law_signs", "_law_one", "_law_other"] (defScope sBefore) := ⟨rfl, rfl, rfl, by decide +kernel, rfl, by decide +kernel, by decide +kernel⟩
theorem ok_before (T : Fns K mg a d) : FnOk P w K mg base CX0 1 a.aBefore d.dBefore ["_law_signs", "_law_one", "_law_other"] spBefore := by
  refine T.FBefore.ok scBefore (fun vs H Q E h => ?_) (fun cdv A outer s H vs Q E hr h => ?_)
  · obtain ⟨sg, t, u, rfl, _⟩ := h
    rfl
  · obtain ⟨sg, t, u, rfl, ht, hu, hts, hus, k⟩ := h
    refine ⟨_, ((pss_cons (ps_if (pt_cmpR op_ne (pe_callB call_lenS (by rfl) T.z_len (by decide +kernel) (pa_cons (pv 1) pa_nil)) (pe_callB call_lenS (by rfl) T.z_len (by decide +kernel) (pa_cons (pv 2) pa_nil)) (nomark _)) (pss_one (ps_ret (pe_cmpR op_lt (pe_callB call_lenS (by rfl) T.z_len (by decide +kernel) (pa_cons (pv 1) pa_nil)) (pe_callB call_lenS (by rfl) T.z_len (by decide +kernel) (pa_cons (pv 2) pa_nil)) (nomark _)))) pss_nil)
      (pss_cons (ps_for PassesOwn.never rfl (pi_range1 (by rfl) T.z_range (pa_cons (pe_callB call_lenS (by rfl) T.z_len (by decide +kernel) (pa_cons (pv 1) pa_nil)) pa_nil)) (pg_name (i := 3) scBefore.nd rfl (Or.inl rfl)) (pss_one (ps_if (pt_cmpR op_ne (pe_ix ix_str (pv 1) (pv 3) (fun _ _ => rfl)) (pe_ix ix_str (pv 2) (pv 3) (fun _ _ => rfl)) (nomark _)) (pss_one (ps_ret (pe_cmpR op_lt (pe_m1 F.slot_str_find F.type_str_find mt_findS (pv 0) (pe_ix ix_str (pv 1) (pv 3) (fun _ _ => rfl))) (pe_m1 F.slot_str_find F.type_str_find mt_findS (pv 0) (pe_ix ix_str (pv 2) (pv 3) (fun _ _ => rfl))) (nomark _)))) pss_nil)))
      (pss_one (ps_ret pe_bl))))), ?_⟩
    unfold befB at k
    by_cases e : t.length = u.length
    · rw [if_pos e] at k
      walk_at "go"
      refine for_range (lo := 0) (n := t.length) (fun i σ H' => Stop (∃ v3 : Option V, σ = [some (.str (S sg)), some (.str (S t)), some (.str (S u)), v3] ∧ difL sg t u = difL sg (t.drop i) (u.drop i) ∧ H' = H))
        ⟨none, rfl, rfl, rfl⟩ ?_ ?_
      · rintro i σ H1 hi ⟨v3, rfl, hd, rfl⟩
        have hx : t[i]? = some t[i] := List.getElem?_eq_getElem hi
        have hxm := hts _ (List.getElem_mem hi)
        have hi2 : i < u.length := by omega
        have hy : u[i]? = some u[i] := List.getElem?_eq_getElem hi2
        have hym := hus _ (List.getElem_mem hi2)
        generalize t[i] = x at hx hxm
        generalize u[i] = y at hy hym
        have dd := difL_drop (sg := sg) hx hy
        have it : (0 : Int) + (i : Int) = (i : Int) := Int.zero_add _
        walk_at "go"
        rw [it]
        refine iIxS (by omega) (atI_nat hx) ?_
        walk_at "go"
        · rename_i hne
          rw [if_neg hne] at dd
          rw [hd, dd] at k
          rwa [show decide ((n1 sg x : Int) < (n1 sg y : Int)) = decide (n1 sg x < n1 sg y) by simp]
        · rename_i he
          rw [if_pos he] at dd
          exact ⟨_, rfl, hd.trans dd, rfl⟩
      · rintro σ H1 ⟨v3, rfl, hd, rfl⟩
        rw [List.drop_eq_nil_of_le (Nat.le_refl _)] at hd
        rw [hd] at k
        walk_at "go"
        exact k
    · rw [if_neg e] at k
      walk_at "go"
      rw [show decide ((t.length : Int) < (u.length : Int)) = decide (t.length < u.length) by simp]
      exact k
def spEachOnce (K : PySem.W.Frag) : Sp := fun vs H Q _ => ∃ (sg : List Nat) (x p : Addr) (ts us : List (List Nat)), vs = [.str (S sg), .ref x, .ref p] ∧ SqL K H x (ts.map fun t => V.str (S t)) ∧ H p = some (.lst (us.map fun t => V.str (S t))) ∧ ts.length ≤ 1000 ∧ us.length ≤ 1000 ∧
  (∀ u ∈ us, u ∈ ts) ∧ (∀ t ∈ ts, t ∈ us) ∧ us.Pairwise Before ∧ sg.Pairwise (· < ·) ∧ (∀ t ∈ ts, t.length ≤ 1000 ∧ ∀ c ∈ t, c ∈ sg) ∧ ∀ H', Same H H' → Q (.bl true) H'
theorem scEachOnce : FnScope ["_law_signs", "_law_texts_here", "_law_told", "_law_k", "_law_text_here"] ["_law_signs", "_law_texts_here", "_law_told"] (defScope sEachOnce) := ⟨rfl, rfl, rfl, by decide +kernel, rfl, by decide +kernel, by decide +kernel⟩
theorem ok_eachOnce (T : Fns K mg a d) : FnOk P w K mg base CX0 2 a.aEachOnce d.dEachOnce ["_law_signs", "_law_texts_here", "_law_told"] (spEachOnce K) := by
  have GBefore : FnOk P w K mg base CX0 1 a.aBefore d.dBefore ["_law_signs", "_law_one", "_law_other"] spBefore := ok_before T
  refine T.FEachOnce.ok scEachOnce (fun vs H Q E h => ?_) (fun cdv A outer s H vs Q E hr h => ?_)
  · obtain ⟨sg, x, p, ts, us, rfl, _⟩ := h
    rfl
  · obtain ⟨sg, x, p, ts, us, rfl, hx, hp, tl, ul, h1, h2, h3, h4, h5, k⟩ := h
    refine ⟨_, ((pss_cons (ps_if (pt_not (pt_val (pe_callB call_isi (by rfl) T.z_isinstance (by decide +kernel) (pa_cons (pv 2) (pa_cons (pe_bltn (v := .ty "list") (by rfl) T.z_list (by decide +kernel) rfl) pa_nil))))) (pss_one (ps_ret pe_bl)) pss_nil)
      (pss_cons (ps_for PassesOwn.never rfl (pi_range1 (by rfl) T.z_range (pa_cons (pe_callB call_len_seq (by rfl) T.z_len (by decide +kernel) (pa_cons (pv 2) pa_nil)) pa_nil)) (pg_name (i := 3) scEachOnce.nd rfl (Or.inl rfl)) (pss_cons (ps_if (PW.pt (pw_or (pt_not (pt_val (pe_callB call_isi (by rfl) T.z_isinstance (by decide +kernel) (pa_cons (pe_ix (r := rIxL K) ix_list (pv 2) (pv 3) (fun _ _ => rfl)) (pa_cons (pe_bltn (v := .ty "str") (by rfl) T.z_str (by decide +kernel) rfl) pa_nil))))) (pw_or1 (pt_cmpR op_notIn_seq (pe_ix (r := rIxL K) ix_list (pv 2) (pv 3) (fun _ _ => rfl)) (pv 1) rfl)))) (pss_one (ps_ret pe_bl)) pss_nil)
      (pss_one (ps_if (PW.pt (pw_and (pt_cmpR op_gt (pv 3) pe_int (nomark _)) (pw_and1 (pt_not (pt_val (pe_call GBefore (hr.mono (by decide)) (by rfl) T.gBefore T.FBefore.kp T.bBefore .nil pass0 (pa_cons (pv 0) (pa_cons (pe_ix (r := rIxL K) ix_list (pv 2) (pe_op op_sub (pv 3) pe_int) (fun _ _ => rfl)) (pa_cons (pe_ix (r := rIxL K) ix_list (pv 2) (pv 3) (fun _ _ => rfl)) pa_nil))))))))) (pss_one (ps_ret pe_bl)) pss_nil))))
      (pss_one (ps_ret (pe_callB (cr_all rfl) (by rfl) T.z_all (by decide +kernel) (pa_cons (pe_lc (own := [("_law_text_here", 4)]) (g := gName 4) (by rfl) scEachOnce.nd (pi_list (pv 1)) (blkOk_by (own := [("_law_text_here", 4)]) (N := ["_law_signs", "_law_texts_here", "_law_told", "_law_k", "_law_text_here"]) (sc := defScope sEachOnce) (by decide +kernel)) (fun _ _ _ _ _ => pg_name (i := 4) scEachOnce.nd rfl (Or.inl rfl)) (fun _ _ _ _ _ => pts_nil) (fun _ _ _ _ _ => (pe_cmpR (r := rIn K false) op_in_seq (pv 4) (pv 2) rfl))) pa_nil))))))), ?_⟩
    have hpq : SqL K H p (us.map fun t => V.str (S t)) := SqL.of hp
    walk_at "go"
    refine ⟨_, _, _, _, true, rfl, .ty "list", .base (.lst hp), rfl, _, rfl, iteF ?_⟩
    walk_at "go"
    rw [List.length_map]
    refine ⟨by omega, ?_⟩
    rw [Int.toNat_natCast]
    refine for_range (lo := 0) (n := us.length) (fun i σ H' => Stop (∃ v3 : Option V, σ = [some (.str (S sg)), some (.ref x), some (.ref p), v3, none] ∧ H' = H)) ⟨none, rfl, rfl⟩ ?_ ?_
    · rintro i σ H1 hi ⟨v3, rfl, rfl⟩
      have hc : us[i]? = some us[i] := List.getElem?_eq_getElem hi
      have hcm := List.getElem_mem hi
      have hb : 0 < i → Before (us[i - 1]'(by omega)) us[i] := fun z => List.pairwise_iff_getElem.mp h3 (i - 1) i (by omega) hi (by omega)
      generalize us[i] = u at hc hcm hb
      have hv : (us.map fun t => V.str (S t))[i]? = some (V.str (S u)) := by rw [List.getElem?_map, hc]; rfl
      have it : (0 : Int) + (i : Int) = (i : Int) := Int.zero_add _
      obtain ⟨hu1, hu2⟩ := h5 u (h1 u hcm)
      walk_at "go"
      refine iIxL hpq (by rw [it]; exact atI_nat hv) ?_
      walk_at "go"
      refine iIxL hpq (by rw [it]; exact atI_nat hv) ?_
      walk_at "go"
      · rename_i hno
        exact absurd (h1 u hcm) hno
      · rename_i _ hpos
        have hi1 : i - 1 < us.length := by omega
        have hb2 := hb (by omega)
        have hc2 : us[i - 1]? = some us[i - 1] := List.getElem?_eq_getElem hi1
        have hcm2 := List.getElem_mem hi1
        generalize us[i - 1] = u2 at hb2 hc2 hcm2
        obtain ⟨hw1, hw2⟩ := h5 u2 (h1 u2 hcm2)
        have hv2 : (us.map fun t => V.str (S t))[i - 1]? = some (V.str (S u2)) := by rw [List.getElem?_map, hc2]; rfl
        refine iIxL hpq (by rw [show (0 : Int) + (i : Int) - 1 = ((i - 1 : Nat) : Int) by omega]; exact atI_nat hv2) ?_
        walk_at "go"
        refine iIxL hpq (by rw [it]; exact atI_nat hv) ?_
        refine ⟨sg, u2, u, rfl, hw1, hu1, hw2, hu2, ?_⟩
        rw [befB_of h4 hw2 hu2 hb2]
        walk_at "go"
        exact ⟨_, rfl, rfl⟩
      · exact ⟨_, rfl, rfl⟩
    · rintro σ H1 ⟨v3, rfl, rfl⟩
      walk_at "go"
      rename_i D hD
      have hpD := ne_of_none hp hD
      refine lcg_list (p := fun _ => true) (v := fun _ => V.bl true) (by rw [List.length_map]; omega) hx hD (fun _ => rfl) (fun y hy H2 Q2 off q => ?_) (fun y hy _ H2 Q2 off q => ?_) ?_
      · walk_at "go"
        exact q
      · obtain ⟨t, ht, rfl⟩ := List.mem_map.mp hy
        walk_at "go"
        refine iInL (.inl (Vk.SqL.off hpq hD off)) rfl ?_
        rw [decide_eq_true (h2 t ht)]
        exact q
      · walk_at "go"
        refine ⟨D, ts.map (fun _ => true), rfl, SqL.of (by rw [upd_same, List.filter_eq_self.mpr (fun _ _ => rfl), List.map_map, List.map_map]; rfl), ?_⟩
        rw [show (ts.map fun _ => true).all id = true by simp]
        exact k _ (Same.upd_new hD)
def spKind : Sp := fun vs H Q _ => ∃ t : List Nat, vs = [.str (S t)] ∧ t.length ≤ 1000 ∧ Q (.str (S (if t = [] then kStrA11_0 else if t.getLast? = some 45 then kStrA11_1 else kStrA11_2))) H
theorem scKind : FnScope ["_law_text_here"] ["_law_text_here"] (defScope sKind) := ⟨rfl, rfl, rfl, by decide +kernel, rfl, by decide +kernel, by decide +kernel⟩
theorem ok_kind (T : Fns K mg a d) : FnOk P w K mg base CX0 1 a.aKind d.dKind ["_law_text_here"] spKind := by
  refine T.FKind.ok scKind (fun vs H Q E h => ?_) (fun cdv A outer s H vs Q E hr h => ?_)
  · obtain ⟨t, rfl, _⟩ := h
    rfl
  · obtain ⟨t, rfl, hl, k⟩ := h
    refine ⟨_, ((pss_cons (ps_if (pt_cmpR op_eq (pv 0) (pe_strS (l := []) (by decide +kernel)) (nomark _)) (pss_one (ps_ret (pe_strS (l := kStrA11_0) kStrA11_0_eq))) pss_nil)
      (pss_cons (ps_if (pt_cmpR op_eq (pe_ix ix_str (pv 0) (pe_un un_neg pe_int) (fun _ _ => rfl)) (pe_strS (l := [45]) (by decide +kernel)) (nomark _)) (pss_one (ps_ret (pe_strS (l := kStrA11_1) kStrA11_1_eq))) pss_nil)
      (pss_one (ps_ret (pe_strS (l := kStrA11_2) kStrA11_2_eq)))))), ?_⟩
    walk_at "go"
    · rename_i h
      rwa [if_pos h] at k
    · rename_i h
      rw [if_neg h] at k
      obtain ⟨y, hy⟩ : ∃ y, t.getLast? = some y := ⟨_, List.getLast?_eq_some_getLast h⟩
      refine iIxS (by omega) (atI_last hy) ?_
      rw [hy] at k
      walk_at "go"
      · rename_i e
        rwa [if_pos (by rw [e])] at k
      · rename_i e
        rwa [if_neg (fun z => e (Option.some.inj z))] at k
theorem scPKindAfter : FnScope ["text"] ["text"] (defScope sPKindAfter) := ⟨rfl, rfl, rfl, by decide +kernel, rfl, by decide +kernel, by decide +kernel⟩
theorem ok_kindAfter {mc : Value} {tm tj tl : Tok} (T : Fns K mg a d) (AV : AlV K mg a.cAlphabet mc tm tj tl) : FnOk P w K mg base CX0 1 a.aPKindAfter d.dPKindAfter ["text"] spKind := by
  refine T.FPKindAfter.ok scPKindAfter (fun vs H Q E h => ?_) (fun cdv A outer s H vs Q E hr h => ?_)
  · obtain ⟨t, rfl, _⟩ := h
    rfl
  · obtain ⟨t, rfl, hl, k⟩ := h
    refine ⟨_, ((pss_cons (ps_if (pt_cmpR op_eq (pv 0) (pe_strS (l := []) (by decide +kernel)) (nomark _)) (pss_one (ps_ret (pe_strS (l := kStrA11_0) kStrA11_0_eq))) pss_nil)
      (pss_one (ps_ret (pe_ifExp (pt_cmpR op_eq (pe_ix ix_str (pv 0) (pe_un un_neg pe_int) (fun _ _ => rfl)) (ClX.pe_cval (pe_glob (v := .ref a.cAlphabet) (by rfl) AV.gC rfl)) (nomark _)) (pe_strS (l := kStrA11_1) kStrA11_1_eq) (pe_strS (l := kStrA11_2) kStrA11_2_eq)))))), ?_⟩
    walk_at "go"
    · rename_i h
      rwa [if_pos h] at k
    · rename_i h
      rw [if_neg h] at k
      obtain ⟨y, hy⟩ : ∃ y, t.getLast? = some y := ⟨_, List.getLast?_eq_some_getLast h⟩
      refine iIxS (by omega) (atI_last hy) ?_
      refine ⟨a.cAlphabet, mc, _, _, rfl, AV.rd, AV.joint, ?_⟩
      rw [show PySem.Str.ofString "-" = S [45] by decide +kernel]
      rw [hy] at k
      walk_at "go"
      · rename_i e
        rwa [if_pos (by rw [e])] at k
      · rename_i e
        rwa [if_neg (fun z => e (Option.some.inj z))] at k
end
end
section
set_option Elab.async false
set_option linter.all false
set_option maxRecDepth 100000
set_option maxHeartbeats 8000000
open PySem PySem.Spec PyProof.Rows L2

local macro_rules | `(tactic| walk_at "side") => `(tactic| exact .inl (by assumption))

theorem shaped_bs {b : Bool} {z : Str} (h : PyData.strOk z = true) : SeqAt.shaped (.tuple [.bool b, .str z]) = true := by
  simp [SeqAt.shaped, PyData.canLay0, PyData.canLayAll0, PyData.depth, PyData.depthAll, h]
theorem eqv_bs (b : Bool) (z : Str) : PyData.eqv (.tuple [.bool b, .str z]) (.tuple [.bool b, .str z]) = true := by
  simp [PyData.eqv, PyData.eqvAll]
theorem iNeBS {K : PySem.W.Frag} {H : Hp} {Q : VK} {t q : Addr} {b : Bool} {z : List Nat} (h1 : H t = some (.tup [.bl b, .str (S z)])) (h2 : H q = some (.tup [.bl b, .str (S z)])) (hz : PyData.strOk (S z) = true) (h : Q (.bl false) H) : rNeD K (.ref t) (.ref q) H Q := by
  refine ⟨.tuple [.bool b, .str (S z)], .tuple [.bool b, .str (S z)], .tup (SqT.of h1) (.cons (.bl _) (.cons (.str _) .nil)), .tup (SqT.of h2) (.cons (.bl _) (.cons (.str _) .nil)), shaped_bs hz, shaped_bs hz, ?_⟩
  rw [eqv_bs]
  exact h
/-- a pair of strings and its alphabet -/
structure Alp where
  t : Addr
  al : Addr
  l : List Nat
  v : List Nat
structure Std (C : Addr) (H : Hp) (pp aa : Addr) (ps : List Alp) : Prop where
  hp : H pp = some (.lst (ps.map fun q => V.ref q.t))
  ha : H aa = some (.lst (ps.map fun q => V.ref q.al))
  ht : ∀ q ∈ ps, H q.t = some (.tup [.str (S q.l), .str (S q.v)])
  hal : ∀ q ∈ ps, IsAl C H q.al q.l q.v
  ok : ∀ q ∈ ps, AlOk q.l q.v
theorem Std.same {C : Addr} {H H' : Hp} {pp aa : Addr} {ps : List Alp} (h : Std C H pp aa ps) (s : Same H H') : Std C H' pp aa ps :=
  ⟨s _ _ h.hp, s _ _ h.ha, fun q hq => s _ _ (h.ht q hq), fun q hq => (h.hal q hq).same s, h.ok⟩
theorem all_sg {l t : List Nat} : (t.map fun c => decide (c = 45) || decide (c ∈ l)).all id = decide (∀ c ∈ t, c ∈ 45 :: srtL l) := by
  rw [Bool.eq_iff_iff]
  simp [srtL_mem]
def stS (sc pp aa : Addr) (sg : List Nat) (v4 v5 v6 v7 v8 v9 v10 v11 v12 : Option V) : L2.St := [some (.ref sc), some (.ref pp), some (.ref aa), some (.str (S sg)), v4, v5, v6, v7, v8, v9, v10, v11, v12]
def tTx : TS := fun D σ H => ∃ (sc pp aa b : Addr) (sg t : List Nat) (v4 v7 v8 v9 v10 v11 v12 : Option V), σ = stS sc pp aa sg v4 (some (.ref b)) (some (.str (S t))) v7 v8 v9 v10 v11 v12 ∧ IsBox H b ∧ t.length ≤ 59 ∧ (∀ c ∈ t, c < 128) ∧
  ∀ (t' : List Nat) (v7' : Option V) (H' : Hp), t'.length ≤ 60 → (∀ c ∈ t', c < 128) → Fr [b] H H' → D.nx (stS sc pp aa sg v4 (some (.ref b)) (some (.str (S t'))) v7' v8 v9 v10 v11 v12) H'
section
variable {P : Program} {w : World} {K : PySem.W.Frag} {mg : Str → Option Value} {base : Heap} {a : Ad} {d : Fd}
def spStrings (K : PySem.W.Frag) (a : Ad) : Sp := fun vs H Q _ => ∃ (sc pp aa : Addr) (ns : List Int) (ps : List Alp) (sg : List Nat), vs = [.ref sc, .ref pp, .ref aa, .str (S sg)] ∧ SqL K H sc (ns.map V.int) ∧ ns.length ≤ 63 ∧ Std a.cAlphabet H pp aa ps ∧ ps.length = 2 ∧ 0 < sg.length ∧ sg.length ≤ 6 ∧ (∀ c ∈ sg, c < 128) ∧
  ∀ H', Same H H' → Q (.bl true) H'
theorem scStrings : FnScope ["_law_script", "_law_pairs", "_law_alphabets", "_law_signs", "_law_turn", "_law_box_here", "_law_text_here", "_law_at", "_law_k", "_law_right", "_law_sign", "_law_told", "_law_due"] ["_law_script", "_law_pairs", "_law_alphabets", "_law_signs"] (defScope sStrings) := ⟨rfl, rfl, rfl, by decide +kernel, rfl, by decide +kernel, by decide +kernel⟩
theorem ok_strings {mc : Value} {tm tj tl : Tok} (T : Fns K mg a d) (AV : AlV K mg a.cAlphabet mc tm tj tl) (BT : ErrX K a a.cBadText a.cBadSet "text") (GBadText : FnOk P w K mg base CX0 1 a.eBadText d.eBadText ["self", "text"] (spErr a.cBadText "text")) :
    FnOk P w K mg base CX0 5 a.aStrings d.dStrings ["_law_script", "_law_pairs", "_law_alphabets", "_law_signs"] (spStrings K a) := by
  have GBox : FnOk P w K mg base CX0 1 a.aBox d.dBox ["_law_script", "_law_k"] (spBox K) := ok_box T
  have GTake : FnOk P w K mg base CX0 1 a.aTake d.dTake ["_law_box_here", "_law_size"] spTake := ok_take T
  have GChar : FnOk P w K mg base CX0 2 a.aChar d.dChar ["_law_box_here"] spChar := ok_char T
  have GText : FnOk P w K mg base CX0 2 a.aText d.dText ["_law_box_here", "_law_signs", "_law_few", "_law_many"] spText := ok_text T
  have GIsText : FnOk P w K mg base CX0 1 a.aIsText d.dIsText ["self", "text"] (spIsText a.cAlphabet) := ok_isText T
  have GChecked : FnOk P w K mg base CX0 4 a.aChecked d.dChecked ["_law_alphabet", "_law_text_here"] (spChecked a) := ok_checked T BT GBadText
  have GKind : FnOk P w K mg base CX0 1 a.aKind d.dKind ["_law_text_here"] spKind := ok_kind T
  have GPKindAfter : FnOk P w K mg base CX0 1 a.aPKindAfter d.dPKindAfter ["text"] spKind := ok_kindAfter T AV
  refine T.FStrings.ok scStrings (fun vs H Q E h => ?_) (fun cdv A outer s H vs Q E hr h => ?_)
  · obtain ⟨sc, pp, aa, ns, ps, sg, rfl, _⟩ := h
    rfl
  · obtain ⟨sc, pp, aa, ns, ps, sg, rfl, hsc, hns, st, hp2, hs0, hs1, hlow, k⟩ := h
    refine ⟨_, ((pss_cons (ps_for PassesOwn.never rfl (pi_range1 (by rfl) T.z_range (pa_cons pe_int pa_nil)) (pg_name (i := 4) scStrings.nd rfl (Or.inl rfl)) (pss_cons (ps_set (i := 5) scStrings.nd rfl (Or.inl rfl) (pe_call GBox (hr.mono (by decide)) (by rfl) T.gBox T.FBox.kp T.bBox .nil pass0 (pa_cons (pv 0) (pa_cons (pe_op op_add pe_int (pv 4)) pa_nil))))
      (pss_cons (ps_set (i := 6) scStrings.nd rfl (Or.inl rfl) (pe_call GText (hr.mono (by decide)) (by rfl) T.gText T.FText.kp T.bText .nil pass0 (pa_cons (pv 5) (pa_cons (pv 3) (pa_cons pe_int (pa_cons pe_int pa_nil))))))
      (pss_cons (PS.imp (t' := tTx) (ps_if (pt_cmpR op_eq (pe_call GTake (hr.mono (by decide)) (by rfl) T.gTake T.FTake.kp T.bTake .nil pass0 (pa_cons (pv 5) (pa_cons pe_int pa_nil))) pe_int (nomark _)) (pss_cons (ps_set (i := 7) scStrings.nd rfl (Or.inl rfl) (pe_call GTake (hr.mono (by decide)) (by rfl) T.gTake T.FTake.kp T.bTake .nil pass0 (pa_cons (pv 5) (pa_cons (pe_op op_add (pe_callB call_lenS (by rfl) T.z_len (by decide +kernel) (pa_cons (pv 6) pa_nil)) pe_int) pa_nil))))
      (pss_one (ps_set (i := 6) scStrings.nd rfl (Or.inl rfl) (pe_op op_addS (pe_op op_addS (pe_slice sl_str (pv 6) po_none (po_some (pv 7))) (pe_call GChar (hr.mono (by decide)) (by rfl) T.gChar T.FChar.kp T.bChar .nil pass0 (pa_cons (pv 5) pa_nil))) (pe_slice sl_str (pv 6) (po_some (pe_op op_add (pv 7) (pe_call GTake (hr.mono (by decide)) (by rfl) T.gTake T.FTake.kp T.bTake .nil pass0 (pa_cons (pv 5) (pa_cons pe_int pa_nil))))) po_none))))) pss_nil) ?h1)
      (pss_one (ps_for PassesOwn.never rfl (pi_range1 (by rfl) T.z_range (pa_cons pe_int pa_nil)) (pg_name (i := 8) scStrings.nd rfl (Or.inr rfl)) (pss_cons (ps_set (i := 9) scStrings.nd rfl (Or.inl rfl) (pe_callB (cr_all rfl) (by rfl) T.z_all (by decide +kernel) (pa_cons (pe_lc (own := [("_law_sign", 10)]) (g := gName 10) (by rfl) scStrings.nd (pi_str (pv 6)) (blkOk_by (own := [("_law_sign", 10)]) (N := ["_law_script", "_law_pairs", "_law_alphabets", "_law_signs", "_law_turn", "_law_box_here", "_law_text_here", "_law_at", "_law_k", "_law_right", "_law_sign", "_law_told", "_law_due"]) (sc := defScope sStrings) (by decide +kernel)) (fun _ _ _ _ _ => pg_name (i := 10) scStrings.nd rfl (Or.inl rfl)) (fun _ _ _ _ _ => pts_nil) (fun _ _ _ _ _ => (pe_or (pe_cmpR op_eq (pv 10) (pe_strS (l := [45]) (by decide +kernel)) (nomark _)) (pe_one (pe_cmpR op_inS (pv 10) (pe_ix (r := rIxT K) ix_tup (pe_ix (r := rIxL K) ix_list (pv 1) (pv 8) (fun _ _ => rfl)) pe_int (fun _ _ => rfl)) rfl))))) pa_nil)))
      (pss_cons (ps_set (i := 11) scStrings.nd rfl (Or.inl rfl) (pe_meth (pe_ix (r := rIxL K) ix_list (pv 2) (pv 8) (fun _ _ => rfl)) T.clA T.mIsText GIsText (hr.mono (by decide)) T.bIsText .nil pass0 (pa_cons (pv 6) pa_nil)))
      (pss_cons (ps_if (PW.pt (pw_or (pt_not (pt_val (pe_callB call_isi (by rfl) T.z_isinstance (by decide +kernel) (pa_cons (pv 11) (pa_cons (pe_bltn (v := .ty "bool") (by rfl) T.z_bool (by decide +kernel) rfl) pa_nil))))) (pw_or1 (pt_cmpR op_ne (pv 11) (pv 9) (nomark _))))) (pss_one (ps_ret pe_bl)) pss_nil)
      (pss_cons (ps_set (i := 12) scStrings.nd rfl (Or.inl rfl) (pe_tup (pa_cons pe_bl (pa_cons (pv 6) pa_nil))))
      (pss_cons (ps_if (pt_val (pv 9)) (pss_one (ps_set (i := 12) scStrings.nd rfl (Or.inl rfl) (pe_tup (pa_cons pe_bl (pa_cons (pe_strS (l := []) (by decide +kernel)) pa_nil))))) pss_nil)
      (pss_cons (ps_if (pt_cmpR (op_neD hr.units) (pe_call GChecked (hr.mono (by decide)) (by rfl) T.gChecked T.FChecked.kp T.bChecked .nil pass0 (pa_cons (pe_ix (r := rIxL K) ix_list (pv 2) (pv 8) (fun _ _ => rfl)) (pa_cons (pv 6) pa_nil))) (pv 12) (nomark _)) (pss_one (ps_ret pe_bl)) pss_nil)
      (pss_one (ps_if (PW.pt (pw_and (pt_val (pv 9)) (pw_and1 (pt_cmpR op_ne (pe_call GPKindAfter (hr.mono (by decide)) (by rfl) T.gPKindAfter T.FPKindAfter.kp T.bPKindAfter .nil pass0 (pa_cons (pv 6) pa_nil)) (pe_call GKind (hr.mono (by decide)) (by rfl) T.gKind T.FKind.kp T.bKind .nil pass0 (pa_cons (pv 6) pa_nil)) (nomark _))))) (pss_one (ps_ret pe_bl)) pss_nil))))))))))))))
      (pss_one (ps_ret pe_bl)))), ?_⟩
    case h1 =>
      rintro ⟨D1, D2, D3, D4⟩ σ H ⟨sc, pp, aa, b, sg, t, v4, v7, v8, v9, v10, v11, v12, rfl, hB, ht, htl, k⟩
      unfold stS at *
      walk_at "go"
      refine ⟨b, 2, rfl, hB, by decide, by decide, fun r H1 hr1 hB1 f1 => ?_⟩
      walk_at "go"
      · refine ⟨b, t.length + 1, rfl, hB1, by omega, by omega, fun i H2 hi hB2 f2 => ?_⟩
        walk_at "go"
        refine ⟨b, rfl, hB2, fun c H3 hc hB3 f3 => ?_⟩
        walk_at "go"
        refine ⟨b, 2, rfl, hB3, by decide, by decide, fun r2 H4 hr4 hB4 f4 => ?_⟩
        walk_at "go"
        exact k _ _ H4 (by simp; omega) (low_app (low_app (low_take htl i) (low_one hc)) (low_drop htl _)) (Fr.trans (Fr.trans f1 f2) (Fr.trans f3 f4))
      · exact k t v7 H1 (by omega) htl f1
    walk_at "go"
    refine for_range (lo := 0) (n := 4) (fun i σ H' => Stop (∃ v4 v5 v6 v7 v8 v9 v10 v11 v12 : Option V, σ = stS sc pp aa sg v4 v5 v6 v7 v8 v9 v10 v11 v12 ∧ Same H H'))
      ⟨none, none, none, none, none, none, none, none, none, rfl, Same.refl _⟩ ?_ ?_
    · rintro i σ H1 hi ⟨v4, v5, v6, v7, v8, v9, v10, v11, v12, rfl, s1⟩
      unfold stS
      walk_at "go"
      have it : (6 : Int) + (0 + (i : Int)) = ((6 + i : Nat) : Int) := by omega
      refine ⟨sc, ns, 6 + i, congrArg (fun z => [V.ref sc, V.int z]) it, s1.seq hsc, hns, by omega, fun b H2 hb hB2 s2 => ?_⟩
      walk_at "go"
      refine ⟨b, sg, 6, 59, 59, rfl, hB2, hs0, hs1, by decide, by decide, by decide, fun t0 H3 ht0 hts hB3 f3 => ?_⟩
      walk_at "go"
      refine ⟨sc, pp, aa, b, sg, t0, _, _, _, _, _, _, _, rfl, hB3, ht0, fun c hc => hlow c (hts c hc), fun t v7' H4 ht htl f4 => ?_⟩
      have s4 : Same H H4 := Vk.Same.trans s1 (Fr.forget1 (D := b) (Fr.trans (Fr.of_same s2) (Fr.trans f3 f4)) hb)
      clear f3 f4 hB3 hB2 s2 hb hts ht0
      unfold stS
      walk_at "go"
      refine for_range (lo := 0) (n := 2) (fun j σ H' => Stop (∃ v8 v9 v10 v11 v12 : Option V, σ = stS sc pp aa sg (some (.int (0 + (i : Int)))) (some (.ref b)) (some (.str (S t))) v7' v8 v9 v10 v11 v12 ∧ Same H H'))
        ⟨_, _, _, _, _, rfl, s4⟩ ?_ ?_
      · rintro j σ H5 hj ⟨v8, v9, v10, v11, v12, rfl, s5⟩
        have st5 := st.same s5
        unfold stS
        obtain ⟨q, hq⟩ : ∃ q, ps[j]? = some q := ⟨_, List.getElem?_eq_getElem (by omega : j < ps.length)⟩
        have hqm := List.mem_of_getElem? hq
        have hqt : (ps.map fun q => V.ref q.t)[j]? = some (V.ref q.t) := by rw [List.getElem?_map, hq]; rfl
        have hqa : (ps.map fun q => V.ref q.al)[j]? = some (V.ref q.al) := by rw [List.getElem?_map, hq]; rfl
        have hok := st5.ok q hqm
        have ij : (0 : Int) + (j : Int) = (j : Int) := Int.zero_add _
        walk_at "go"
        rename_i D hD
        refine lc_text (l := t) (fun _ => true) (fun c => V.bl (decide (c = 45) || decide (c ∈ q.l))) (by omega) (fun _ => rfl) (fun c hc H6 Q6 off r => ?_) (fun c hc _ H6 Q6 off r => ?_) ?_
        · walk_at "go"
          exact r
        · have hp6 := (off pp (ne_of_none st5.hp hD)).trans st5.hp
          have ht6 := (off q.t (ne_of_none (st5.ht q hqm) hD)).trans (st5.ht q hqm)
          walk_at "go"
          · rename_i e
            subst e
            simpa using r
          · rename_i e
            refine iIxL (SqL.of hp6) (by rw [ij]; exact atI_nat hqt) ?_
            walk_at "go"
            simpa [e] using r
        · refine ⟨D, t.map (fun c => decide (c = 45) || decide (c ∈ q.l)), rfl, SqL.of (by rw [upd_same, List.filter_eq_self.mpr (fun _ _ => rfl), List.map_map]; rfl), ?_⟩
          rw [all_sg]
          have s6 : Same H5 (upd H5 D (.lst ((t.filter fun _ => true).map fun c => V.bl (decide (c = 45) || decide (c ∈ q.l))))) := Same.upd_new hD
          generalize upd H5 D (.lst ((t.filter fun _ => true).map fun c => V.bl (decide (c = 45) || decide (c ∈ q.l)))) = H6 at s6 ⊢
          have st6 := st5.same s6
          obtain ⟨dxa, hal6⟩ := id (st6.hal q hqm)
          walk_at "go"
          refine iIxL (SqL.of st6.ha) (by rw [ij]; exact atI_nat hqa) ?_
          walk_at "go"
          refine ⟨q.al, q.l, q.v, t, rfl, st6.hal q hqm, by omega, fun H7 s7 => ?_⟩
          have st7 := st6.same s7
          have s57 := Vk.Same.trans s5 (Vk.Same.trans s6 s7)
          have okt : PyData.strOk (S t) = true := ok_S fun c hc => by have := htl c hc; omega
          have ok0 : PyData.strOk (S []) = true := ok_S (fun c hc => nomatch hc)
          by_cases hR : ∀ c ∈ t, c ∈ 45 :: srtL q.l
          · rw [decide_eq_true hR]
            walk_at "go"
            rename_i d1 hd1 d2 hd2
            have s8 : Same H7 (upd (upd H7 d1 (.tup [.bl false, .str (S t)])) d2 (.tup [.bl true, .str (S [])])) := Vk.Same.trans (Same.upd_new hd1) (Same.upd_new hd2)
            have hd3 : (upd (upd H7 d1 (.tup [.bl false, .str (S t)])) d2 (.tup [.bl true, .str (S [])])) d2 = some (.tup [.bl true, .str (S [])]) := upd_same
            generalize upd (upd H7 d1 (.tup [.bl false, .str (S t)])) d2 (.tup [.bl true, .str (S [])]) = H8 at s8 hd3 ⊢
            have st8 := st7.same s8
            refine iIxL (SqL.of st8.ha) (by rw [ij]; exact atI_nat hqa) ?_
            walk_at "go"
            refine ⟨q.al, q.l, q.v, t, rfl, st8.hal q hqm, by omega, htl, fun z H9 hz s9 => ?_⟩
            rw [decide_eq_true hR, if_pos hR] at hz
            have hd4 := s9 _ _ hd3
            walk_at "go"
            refine iNeBS hz hd4 ok0 ?_
            walk_at "go"
            refine ⟨t, rfl, by omega, ?_⟩
            walk_at "go"
            refine ⟨t, rfl, by omega, ?_⟩
            walk_at "go"
            exact ⟨_, _, _, _, _, rfl, Vk.Same.trans s57 (Vk.Same.trans s8 s9)⟩
          · rw [decide_eq_false hR]
            walk_at "go"
            rename_i d1 hd1
            have s8 : Same H7 (upd H7 d1 (.tup [.bl false, .str (S t)])) := Same.upd_new hd1
            have hd3 : (upd H7 d1 (.tup [.bl false, .str (S t)])) d1 = some (.tup [.bl false, .str (S t)]) := upd_same
            generalize upd H7 d1 (.tup [.bl false, .str (S t)]) = H8 at s8 hd3 ⊢
            have st8 := st7.same s8
            refine iIxL (SqL.of st8.ha) (by rw [ij]; exact atI_nat hqa) ?_
            walk_at "go"
            refine ⟨q.al, q.l, q.v, t, rfl, st8.hal q hqm, by omega, htl, fun z H9 hz s9 => ?_⟩
            rw [decide_eq_false hR, if_neg hR] at hz
            have hd4 := s9 _ _ hd3
            walk_at "go"
            refine iNeBS hz hd4 okt ?_
            walk_at "go"
            exact ⟨_, _, _, _, _, rfl, Vk.Same.trans s57 (Vk.Same.trans s8 s9)⟩
      · rintro σ H5 ⟨v8, v9, v10, v11, v12, rfl, s5⟩
        exact ⟨_, _, _, _, _, _, _, _, _, rfl, s5⟩
    · rintro σ H1 ⟨v4, v5, v6, v7, v8, v9, v10, v11, v12, rfl, s1⟩
      unfold stS
      walk_at "go"
      exact k H1 s1
end
end
section
set_option Elab.async false
set_option linter.all false
set_option maxRecDepth 100000
set_option maxHeartbeats 8000000
open PySem PySem.Spec PyProof.Rows L2

local macro_rules | `(tactic| walk_at "side") => `(tactic| exact .inl (by assumption))

theorem dp_txt {K : PySem.W.Frag} {H : Hp} : ∀ ts : List (List Nat), DpAll K H (ts.map fun t => V.str (S t)) (ts.map fun t => PyData.str (S t))
  | [] => .nil
  | t :: ts => .cons (.str (S t)) (dp_txt ts)
theorem iNeTx {K : PySem.W.Frag} {H : Hp} {Q : VK} {x y : Addr} {ts : List (List Nat)} (h1 : H x = some (.lst (ts.map fun t => V.str (S t)))) (h2 : H y = some (.lst (ts.map fun t => V.str (S t)))) (hz : ∀ t ∈ ts, ∀ c ∈ t, c < 128) (h : Q (.bl false) H) : rNeD K (.ref x) (.ref y) H Q := by
  have e : (ts.map fun t => PyData.str (S t)) = (ts.map S).map PyData.str := by rw [List.map_map]; rfl
  have sh : SeqAt.shaped (.list (ts.map fun t => PyData.str (S t))) = true := by
    rw [e]
    refine shaped_strs fun y hy => ?_
    obtain ⟨t, ht, rfl⟩ := List.mem_map.mp hy
    exact ok_S fun c hc => by have := hz t ht c hc; omega
  refine ⟨.list (ts.map fun t => PyData.str (S t)), .list (ts.map fun t => PyData.str (S t)), .lst (SqL.of h1) (dp_txt ts), .lst (SqL.of h2) (dp_txt ts), sh, sh, ?_⟩
  rw [e, eqv_strs, decide_eq_true rfl]
  exact h
theorem none_or {b y : Addr} {H H1 : Hp} (f : Fr [b] H H1) (h : H1 y = none) : y ∈ [b] ∨ H y = none := by
  by_cases e : y = b
  · exact .inl (List.mem_singleton.mpr e)
  · refine .inr ?_
    cases hh : H y with
    | none => rfl
    | some u =>
      have := f y u (by simpa using e) hh
      rw [h] at this
      cases this
section
variable {P : Program} {w : World} {K : PySem.W.Frag} {mg : Str → Option Value} {base : Heap} {a : Ad} {d : Fd}
def spLists : Sp := fun vs H Q _ => ∃ (b : Addr) (sg : List Nat), vs = [.ref b, .str (S sg)] ∧ IsBox H b ∧ 0 < sg.length ∧ sg.length ≤ 6 ∧ (∀ c ∈ sg, c < 128) ∧ sg.Pairwise (· < ·) ∧ ∀ H', Fr [b] H H' → Q (.bl true) H'
theorem scLists : FnScope ["_law_box_here", "_law_signs", "_law_texts_here", "_law_handed", "_law_told", "_law_again"] ["_law_box_here", "_law_signs"] (defScope sLists) := ⟨rfl, rfl, rfl, by decide +kernel, rfl, by decide +kernel, by decide +kernel⟩
theorem ok_lists (T : Fns K mg a d) : FnOk P w K mg base CX0 4 a.aLists d.dLists ["_law_box_here", "_law_signs"] spLists := by
  have GTexts : FnOk P w K mg base CX0 3 a.aTexts d.dTexts ["_law_box_here", "_law_signs"] spTexts := ok_texts T
  have GPShortlex : FnOk P w K mg base CX0 2 a.aPShortlex d.dPShortlex ["texts"] (spShortlex K) := ok_shortlex T
  have GEachOnce : FnOk P w K mg base CX0 2 a.aEachOnce d.dEachOnce ["_law_signs", "_law_texts_here", "_law_told"] (spEachOnce K) := ok_eachOnce T
  refine T.FLists.ok scLists (fun vs H Q E h => ?_) (fun cdv A outer s H vs Q E hr h => ?_)
  · obtain ⟨b, sg, rfl, _⟩ := h
    rfl
  · obtain ⟨b, sg, rfl, hB, hs0, hs1, hlow, hpw, k⟩ := h
    refine ⟨_, ((pss_cons (ps_set (i := 2) scLists.nd rfl (Or.inl rfl) (pe_call GTexts (hr.mono (by decide)) (by rfl) T.gTexts T.FTexts.kp T.bTexts .nil pass0 (pa_cons (pv 0) (pa_cons (pv 1) pa_nil))))
      (pss_cons (ps_set (i := 3) scLists.nd rfl (Or.inl rfl) (pe_callTy call_list_of (by rfl) T.z_list (by decide +kernel) (pa_cons (pv 2) pa_nil)))
      (pss_cons (ps_set (i := 4) scLists.nd rfl (Or.inl rfl) (pe_call GPShortlex (hr.mono (by decide)) (by rfl) T.gPShortlex T.FPShortlex.kp T.bPShortlex .nil pass0 (pa_cons (pv 3) pa_nil)))
      (pss_cons (ps_if (PW.pt (pw_or (pt_cmpR (op_neD hr.units) (pv 3) (pv 2) (nomark _)) (pw_or1 (pt_not (pt_val (pe_call GEachOnce (hr.mono (by decide)) (by rfl) T.gEachOnce T.FEachOnce.kp T.bEachOnce .nil pass0 (pa_cons (pv 1) (pa_cons (pv 2) (pa_cons (pv 4) pa_nil))))))))) (pss_one (ps_ret pe_bl)) pss_nil)
      (pss_cons (ps_expr (pe_bm PySem.F.plainAttrs_list PySem.F.slot_list_append PySem.F.type_list_append mt_append (pv 4) (pa_cons (pe_strS (l := [45]) (by decide +kernel)) pa_nil)))
      (pss_cons (ps_expr (pe_bm0 PySem.F.plainAttrs_list PySem.F.slot_list_reverse PySem.F.type_list_reverse mt_reverse (pv 4)))
      (pss_cons (ps_if (pt_cmpR (op_neD hr.units) (pv 3) (pv 2) (nomark _)) (pss_one (ps_ret pe_bl)) pss_nil)
      (pss_cons (ps_set (i := 5) scLists.nd rfl (Or.inl rfl) (pe_call GPShortlex (hr.mono (by decide)) (by rfl) T.gPShortlex T.FPShortlex.kp T.bPShortlex .nil pass0 (pa_cons (pv 3) pa_nil)))
      (pss_cons (ps_if (pt_not (pt_val (pe_call GEachOnce (hr.mono (by decide)) (by rfl) T.gEachOnce T.FEachOnce.kp T.bEachOnce .nil pass0 (pa_cons (pv 1) (pa_cons (pv 2) (pa_cons (pv 5) pa_nil)))))) (pss_one (ps_ret pe_bl)) pss_nil)
      (pss_cons (ps_expr (pe_bm0 PySem.F.plainAttrs_list PySem.F.slot_list_reverse PySem.F.type_list_reverse mt_reverse (pv 3)))
      (pss_one (ps_ret (pe_and (pe_call GEachOnce (hr.mono (by decide)) (by rfl) T.gEachOnce T.FEachOnce.kp T.bEachOnce .nil pass0 (pa_cons (pv 1) (pa_cons (pv 2) (pa_cons (pv 5) pa_nil)))) (pe_one (pe_call GEachOnce (hr.mono (by decide)) (by rfl) T.gEachOnce T.FEachOnce.kp T.bEachOnce .nil pass0 (pa_cons (pv 1) (pa_cons (pv 2) (pa_cons (pe_call GPShortlex (hr.mono (by decide)) (by rfl) T.gPShortlex T.FPShortlex.kp T.bPShortlex .nil pass0 (pa_cons (pv 3) pa_nil)) pa_nil))))))))))))))))))), ?_⟩
    walk_at "go"
    refine ⟨b, sg, rfl, hB, hs0, hs1, fun x ts H1 hx hx1 htl hts f1 => ?_⟩
    have low : ∀ t ∈ ts, ∀ c ∈ t, c < 128 := fun t ht c hc => hlow c ((hts t ht).2 c hc)
    have big : ∀ t ∈ ts, t.length ≤ 1000 ∧ ∀ c ∈ t, c ∈ sg := fun t ht => ⟨by have := (hts t ht).1; omega, (hts t ht).2⟩
    walk_at "go"
    rename_i y hy
    have nxy : x ≠ y := ne_of_none hx1 hy
    have hx2 := (Same.upd_new (o := .lst (ts.map fun t => V.str (S t))) hy) _ _ hx1
    have hy2 : (upd H1 y (.lst (ts.map fun t => V.str (S t)))) y = some (.lst (ts.map fun t => V.str (S t))) := upd_same
    have f2 : Fr [b] H (upd H1 y (.lst (ts.map fun t => V.str (S t)))) := Fr.trans f1 (Fr.upd_new hy)
    generalize upd H1 y (.lst (ts.map fun t => V.str (S t))) = H2 at hx2 hy2 f2 ⊢
    refine ⟨y, ts, rfl, SqL.of hy2, by omega, fun t ht => (big t ht).1, fun z us H3 hz hz3 s3 u1 u2 u3 u4 => ?_⟩
    have hx3 := s3 _ _ hx2
    have hy3 := s3 _ _ hy2
    have nxz : x ≠ z := ne_of_none hx2 hz
    have nyz : y ≠ z := ne_of_none hy2 hz
    have f3 := Fr.trans f2 (Fr.of_same s3)
    walk_at "go"
    refine iNeTx hy3 hx3 low ?_
    walk_at "go"
    refine ⟨sg, x, z, ts, us, rfl, SqL.of hx3, hz3, by omega, by omega, u1, u2, u3, hpw, big, fun H4 s4 => ?_⟩
    have hx4 := s4 _ _ hx3
    have hy4 := s4 _ _ hy3
    have hz4 := s4 _ _ hz3
    have f4 := Fr.trans f3 (Fr.of_same s4)
    walk_at "go"
    refine iAppend hz4 (by rw [List.length_map, sizeLine_eq]; omega) ?_
    walk_at "go"
    refine ⟨_, rfl, .inl ⟨rfl, _, SqL.of upd_same⟩, z, _, rfl, rfl, upd_same, ?_⟩
    rw [upd_upd]
    have oz := none_or f2 hz
    have oy := none_or f1 hy
    have W : ∀ {H6 : Hp}, Fr [b, z, y] H H6 → Fr [b] H H6 := fun f => f.forget fun c hc => by
      simp only [List.mem_cons, List.not_mem_nil, or_false] at hc
      rcases hc with rfl | rfl | rfl
      · exact .inl (List.mem_singleton.mpr rfl)
      · exact oz
      · exact oy
    have hx5 : (upd H4 z (.lst (us.map (fun t => V.str (S t)) ++ [V.str (S [45])]).reverse)) x = some (.lst (ts.map fun t => V.str (S t))) := upd_oth nxz hx4
    have hy5 : (upd H4 z (.lst (us.map (fun t => V.str (S t)) ++ [V.str (S [45])]).reverse)) y = some (.lst (ts.map fun t => V.str (S t))) := upd_oth nyz hy4
    have f5 : Fr [b, z, y] H (upd H4 z (.lst (us.map (fun t => V.str (S t)) ++ [V.str (S [45])]).reverse)) := Fr.trans (f4.mono (fun c hc => by simp at hc; simp [hc])) Fr.in1
    generalize upd H4 z (.lst (us.map (fun t => V.str (S t)) ++ [V.str (S [45])]).reverse) = H5 at hx5 hy5 f5 ⊢
    clear hz4 hx4 hy4 f4 hz3 hx3 hy3 f3 s4 s3 u1 u2 u3 u4
    walk_at "go"
    refine iNeTx hy5 hx5 low ?_
    walk_at "go"
    refine ⟨y, ts, rfl, SqL.of hy5, by omega, fun t ht => (big t ht).1, fun z2 us2 H6 hz2 hz6 s6 u1 u2 u3 u4 => ?_⟩
    have hx6 := s6 _ _ hx5
    have hy6 := s6 _ _ hy5
    have nyz2 : y ≠ z2 := ne_of_none hy5 hz2
    have f6 := Fr.trans f5 (Fr.of_same s6)
    walk_at "go"
    refine ⟨sg, x, z2, ts, us2, rfl, SqL.of hx6, hz6, by omega, by omega, u1, u2, u3, hpw, big, fun H7 s7 => ?_⟩
    have hx7 := s7 _ _ hx6
    have hy7 := s7 _ _ hy6
    have hz7 := s7 _ _ hz6
    have f7 := Fr.trans f6 (Fr.of_same s7)
    walk_at "go"
    refine ⟨_, rfl, .inl ⟨rfl, _, SqL.of hy7⟩, y, _, rfl, rfl, hy7, ?_⟩
    have hx8 : (upd H7 y (.lst (ts.map fun t => V.str (S t)).reverse)) x = some (.lst (ts.map fun t => V.str (S t))) := upd_oth nxy hx7
    have hz8 : (upd H7 y (.lst (ts.map fun t => V.str (S t)).reverse)) z2 = some (.lst (us2.map fun t => V.str (S t))) := upd_oth nyz2.symm hz7
    have hy8 : (upd H7 y (.lst (ts.map fun t => V.str (S t)).reverse)) y = some (.lst (ts.reverse.map fun t => V.str (S t))) := by rw [upd_same, List.map_reverse]
    have f8 : Fr [b, z, y] H (upd H7 y (.lst (ts.map fun t => V.str (S t)).reverse)) := Fr.trans f7 Fr.in2
    generalize upd H7 y (.lst (ts.map fun t => V.str (S t)).reverse) = H8 at hx8 hy8 hz8 f8 ⊢
    walk_at "go"
    refine ⟨sg, x, z2, ts, us2, rfl, SqL.of hx8, hz8, by omega, by omega, u1, u2, u3, hpw, big, fun H9 s9 => ?_⟩
    have hx9 := s9 _ _ hx8
    have hy9 := s9 _ _ hy8
    have f9 := Fr.trans f8 (Fr.of_same s9)
    walk_at "go"
    refine ⟨y, ts.reverse, rfl, SqL.of hy9, by rw [List.length_reverse]; omega, fun t ht => (big t (List.mem_reverse.mp ht)).1, fun z3 us3 H10 hz3 hz10 s10 w1 w2 w3 w4 => ?_⟩
    have hx10 := s10 _ _ hx9
    walk_at "go"
    refine ⟨sg, x, z3, ts, us3, rfl, SqL.of hx10, hz10, by omega, by omega, fun u hu => List.mem_reverse.mp (w1 u hu), fun t ht => w2 t (List.mem_reverse.mpr ht), w3, hpw, big, fun H11 s11 => ?_⟩
    exact k H11 (W (Fr.trans f9 (Fr.of_same (Vk.Same.trans s10 s11))))
end
end
section
set_option Elab.async false
set_option linter.all false
set_option maxRecDepth 100000
set_option maxHeartbeats 8000000
open PySem PySem.Spec PyProof.Rows L2

local macro_rules | `(tactic| walk_at "side") => `(tactic| exact .inl (by assumption))
def kStrA15_0 : List Nat := [97, 98, 99, 100, 101, 102, 103, 104, 105, 106, 107, 108, 109, 110, 111, 112, 113, 114, 115, 116, 117, 118, 119, 120, 121, 122]
theorem kStrA15_0_eq : PySem.Str.ofString "abcdefghijklmnopqrstuvwxyz" = S kStrA15_0 := by decide +kernel
theorem iMakeD {C : Addr} {sp : Sp} {dvs : List V} {E : XK} {t : TA} {σ : L2.St} {H : Hp} {Q : VK} (h : t σ H fun vs H1 => ∀ x dx, H1 x = none → H1 dx = none → dx ≠ x → sp (.ref x :: (vs ++ dvs)) (upd (upd H1 dx (.own x)) x (.ins C dx [])) (fun v H2 => v = .non ∧ Q (.ref x) H2) E) : tMake C sp dvs E t σ H Q := h
theorem AlOk.due {l v : List Nat} (h : AlOk l v) : dueT l v = "" := by
  unfold dueT
  rw [if_neg (by
    rintro (q | q | q)
    · have := h.h1; omega
    · have := h.h4; omega
    · exact q h.dl), if_neg (fun q => q ⟨h.vn, h.vl⟩)]
theorem alok_of {l v : List Nat} (h1 : 1 ≤ l.length) (h4 : l.length ≤ 4) (hl : ∃ q, (l ++ q).Perm azL) (hv : ∃ q, (v ++ q).Perm l) : AlOk l v := by
  obtain ⟨q, hq⟩ := hl
  obtain ⟨q2, hq2⟩ := hv
  have n1 := List.nodup_append.mp (hq.nodup_iff.mpr az_nodup)
  have n2 := List.nodup_append.mp (hq2.nodup_iff.mpr n1.1)
  exact ⟨⟨n1.1, fun c hc => hq.mem_iff.mp (List.mem_append_left _ hc)⟩, h1, h4, n2.1, fun c hc => hq2.mem_iff.mp (List.mem_append_left _ hc)⟩
theorem tell_low {l v nm : List Nat} (h : AlOk l v) (k : ∀ c ∈ nm, c < 128) : ∀ c ∈ (tell l v nm).2, c < 128 := by
  have ls : ∀ c ∈ srtL l, c < 128 := fun c hc => by have := h.ge c (srtL_mem.mp hc); omega
  have lm : ∀ c ∈ mid nm, c < 128 := fun c hc => k c (List.mem_of_mem_take (List.mem_of_mem_drop hc))
  unfold tell setOf
  split
  · rename_i ms e
    split at e
    · cases e
      intro c hc
      rcases List.mem_cons.mp hc with e | e
      · rw [e]; decide
      · exact ls c e
    split at e
    · cases e; exact ls
    split at e
    · cases e
      intro c hc
      have := h.ge c (h.vl c (srtL_mem.mp hc))
      omega
    split at e
    · cases e
      intro c hc
      exact ls c (List.mem_filter.mp hc).1
    split at e
    · cases e
      intro c hc
      rw [List.mem_singleton] at hc
      rw [hc]; decide
    split at e
    · cases e
    · cases e; exact lm
  · exact k
/-- a drawn pair of strings -/
structure Pr where
  t : Addr
  l : List Nat
  v : List Nat
def PrOk (H : Hp) (qs : List Pr) : Prop := ∀ q ∈ qs, H q.t = some (.tup [.str (S q.l), .str (S q.v)]) ∧ AlOk q.l q.v
theorem PrOk.same {H H' : Hp} {qs : List Pr} (h : PrOk H qs) (s : Same H H') : PrOk H' qs := fun q hq => ⟨s _ _ (h q hq).1, (h q hq).2⟩
def sL (sc : Addr) (v1 v2 v3 v4 v5 v6 v7 v8 v9 v10 : Option V) : L2.St := [some (.ref sc), v1, v2, v3, v4, v5, v6, v7, v8, v9, v10]
section
variable {P : Program} {w : World} {K : PySem.W.Frag} {mg : Str → Option Value} {base : Heap} {a : Ad} {d : Fd}
def spLaw (K : PySem.W.Frag) : Sp := fun vs H Q _ => ∃ (x : Addr) (ns : List Int), vs = [.ref x] ∧ SqL K H x (ns.map V.int) ∧ ns.length ≤ 63 ∧ ∀ H', Q (.bl true) H'
theorem scLaw : FnScope ["_law_script", "_law_pairs", "_law_k", "_law_box_here", "_law_letters", "_law_alphabets", "_law_pair", "_law_signs", "_law_names", "_law_turn", "_law_name_here"] ["_law_script"] (defScope sLaw) := ⟨rfl, rfl, rfl, by decide +kernel, rfl, by decide +kernel, by decide +kernel⟩
theorem ok_law {fA B : Addr} {fdA : FuncData} {mc : Value} {tm tj tl : Tok} (T : Fns K mg a d) (A : AlF K a.cAlphabet) (AV : AlV K mg a.cAlphabet mc tm tj tl) (MA : Mk K a.cAlphabet fA)
    (GA : FnOk P w K mg base (L2.CX P w) 3 fA fdA ["self", "letters", "vowels"] (spAl a.cAlphabet B)) (bA : Binds K fdA ["self", "letters", "vowels"] [])
    (BS : ErrX K a a.cBadSet a.cBadText "name") (BT : ErrX K a a.cBadText a.cBadSet "text") (GBadText : FnOk P w K mg base CX0 1 a.eBadText d.eBadText ["self", "text"] (spErr a.cBadText "text"))
    (GBadSet : FnOk P w K mg base CX0 1 a.eBadSet d.eBadSet ["self", "name"] (spErr a.cBadSet "name")) :
    FnOk P w K mg base CX0 7 a.aLaw d.dLaw ["_law_script"] (spLaw K) := by
  have GTake : FnOk P w K mg base CX0 1 a.aTake d.dTake ["_law_box_here", "_law_size"] spTake := ok_take T
  have GBox : FnOk P w K mg base CX0 1 a.aBox d.dBox ["_law_script", "_law_k"] (spBox K) := ok_box T
  have GPick : FnOk P w K mg base CX0 2 a.aPick d.dPick ["_law_box_here", "_law_string", "_law_many"] spPick := ok_pick T
  have GName : FnOk P w K mg base CX0 4 a.aName d.dName ["_law_box_here", "_law_signs"] spName := ok_name T
  have GToldSet : FnOk P w K mg base CX0 5 a.aToldSet d.dToldSet ["_law_alphabet", "_law_name_here"] (spToldSet a) := ok_toldSet T BS AV GBadSet
  have GSet : FnOk P w K mg base CX0 1 a.aSet d.dSet ["_law_name_here", "_law_letters", "_law_vowels"] spSet := ok_set T
  have GStrings : FnOk P w K mg base CX0 5 a.aStrings d.dStrings ["_law_script", "_law_pairs", "_law_alphabets", "_law_signs"] (spStrings K a) := ok_strings T AV BT GBadText
  have GLists : FnOk P w K mg base CX0 4 a.aLists d.dLists ["_law_box_here", "_law_signs"] spLists := ok_lists T
  refine T.FLaw.ok scLaw (fun vs H Q E h => ?_) (fun cdv A0 outer s H vs Q E hr h => ?_)
  · obtain ⟨x, ns, rfl, _⟩ := h
    rfl
  · obtain ⟨x, ns, rfl, hS, hl, k⟩ := h
    refine ⟨_, ((pss_cons (ps_set (i := 1) scLaw.nd rfl (Or.inl rfl) (pe_lst pa_nil))
      (pss_cons (ps_for PassesOwn.never rfl (pi_range1 (by rfl) T.z_range (pa_cons pe_int pa_nil)) (pg_name (i := 2) scLaw.nd rfl (Or.inl rfl)) (pss_cons (ps_set (i := 3) scLaw.nd rfl (Or.inl rfl) (pe_call GBox (hr.mono (by decide)) (by rfl) T.gBox T.FBox.kp T.bBox .nil pass0 (pa_cons (pv 0) (pa_cons (pv 2) pa_nil))))
      (pss_cons (ps_set (i := 4) scLaw.nd rfl (Or.inl rfl) (pe_call GPick (hr.mono (by decide)) (by rfl) T.gPick T.FPick.kp T.bPick .nil pass0 (pa_cons (pv 3) (pa_cons (pe_strS (l := kStrA15_0) kStrA15_0_eq) (pa_cons (pe_op op_add pe_int (pe_call GTake (hr.mono (by decide)) (by rfl) T.gTake T.FTake.kp T.bTake .nil pass0 (pa_cons (pv 3) (pa_cons pe_int pa_nil)))) pa_nil)))))
      (pss_one (ps_expr (pe_bm PySem.F.plainAttrs_list PySem.F.slot_list_append PySem.F.type_list_append mt_append (pv 1) (pa_cons (pe_tup (pa_cons (pv 4) (pa_cons (pe_call GPick (hr.mono (by decide)) (by rfl) T.gPick T.FPick.kp T.bPick .nil pass0 (pa_cons (pv 3) (pa_cons (pv 4) (pa_cons (pe_call GTake (hr.mono (by decide)) (by rfl) T.gTake T.FTake.kp T.bTake .nil pass0 (pa_cons (pv 3) (pa_cons (pe_op op_add (pe_callB call_lenS (by rfl) T.z_len (by decide +kernel) (pa_cons (pv 4) pa_nil)) pe_int) pa_nil))) pa_nil)))) pa_nil))) pa_nil)))))))
      (pss_cons (ps_setLc (i := 5) (own := [("_law_pair", 6)]) (g := gName 6) (by rfl) scLaw.nd rfl rfl (by rfl) (pi_list (pv 1)) (blkOk_by (own := [("_law_pair", 6)]) (N := ["_law_script", "_law_pairs", "_law_k", "_law_box_here", "_law_letters", "_law_alphabets", "_law_pair", "_law_signs", "_law_names", "_law_turn", "_law_name_here"]) (sc := defScope sLaw) (by decide +kernel)) (fun _ _ _ _ _ => pg_name (i := 6) scLaw.nd rfl (Or.inl rfl)) (fun _ _ _ _ _ => pts_nil) (fun _ _ _ _ _ => (pe_make MA GA (hr.mono (by decide)) (by rfl) AV.gC bA .nil passE (pa_cons (pe_ix (r := rIxT K) ix_tup (pv 6) pe_int (fun _ _ => rfl)) (pa_cons (pe_ix (r := rIxT K) ix_tup (pv 6) pe_int (fun _ _ => rfl)) pa_nil)))))
      (pss_cons (ps_set (i := 7) scLaw.nd rfl (Or.inr rfl) (pe_op op_addS (pe_strS (l := [45]) (by decide +kernel)) (pe_join (pe_strS (l := []) (by decide +kernel)) (pe_callB (cr_sortT rfl) (by rfl) T.z_sorted (by decide +kernel) (pa_cons (pe_ix (r := rIxT K) ix_tup (pe_ix (r := rIxL K) ix_list (pv 1) pe_int (fun _ _ => rfl)) pe_int (fun _ _ => rfl)) pa_nil)))))
      (pss_cons (ps_set (i := 8) scLaw.nd rfl (Or.inl rfl) (pe_op op_cat (pe_lc (own := [("_law_k", 2)]) (g := gName 2) (by rfl) scLaw.nd (pi_range1 (by rfl) T.z_range (pa_cons pe_int pa_nil)) (blkOk_by (own := [("_law_k", 2)]) (N := ["_law_script", "_law_pairs", "_law_k", "_law_box_here", "_law_letters", "_law_alphabets", "_law_pair", "_law_signs", "_law_names", "_law_turn", "_law_name_here"]) (sc := defScope sLaw) (by decide +kernel)) (fun _ _ _ _ _ => pg_name (i := 2) scLaw.nd rfl (Or.inl rfl)) (fun _ _ _ _ _ => pts_nil) (fun _ _ _ _ _ => (pe_call GName (hr.mono (by decide)) (by rfl) T.gName T.FName.kp T.bName .nil pass0 (pa_cons (pe_call GBox (hr.mono (by decide)) (by rfl) T.gBox T.FBox.kp T.bBox .nil pass0 (pa_cons (pv 0) (pa_cons (pe_op op_add pe_int (pv 2)) pa_nil))) (pa_cons (pv 7) pa_nil))))) (pe_lst (pa_cons (pe_strS (l := []) (by decide +kernel)) pa_nil))))
      (pss_cons (ps_for PassesOwn.never rfl (pi_range1 (by rfl) T.z_range (pa_cons pe_int pa_nil)) (pg_name (i := 9) scLaw.nd rfl (Or.inl rfl)) (pss_one (ps_for PassesOwn.never rfl (pi_list (pv 8)) (pg_name (i := 10) scLaw.nd rfl (Or.inl rfl)) (pss_one (ps_for PassesOwn.never rfl (pi_range1 (by rfl) T.z_range (pa_cons pe_int pa_nil)) (pg_name (i := 2) scLaw.nd rfl (Or.inl rfl)) (pss_one (ps_if (pt_cmpR (op_neD hr.units) (pe_call GToldSet (hr.mono (by decide)) (by rfl) T.gToldSet T.FToldSet.kp T.bToldSet .nil pass0 (pa_cons (pe_ix (r := rIxL K) ix_list (pv 5) (pv 2) (fun _ _ => rfl)) (pa_cons (pv 10) pa_nil))) (pe_call GSet (hr.mono (by decide)) (by rfl) T.gSet T.FSet.kp T.bSet .nil pass0 (pa_cons (pv 10) (pa_cons (pe_ix (r := rIxT K) ix_tup (pe_ix (r := rIxL K) ix_list (pv 1) (pv 2) (fun _ _ => rfl)) pe_int (fun _ _ => rfl)) (pa_cons (pe_ix (r := rIxT K) ix_tup (pe_ix (r := rIxL K) ix_list (pv 1) (pv 2) (fun _ _ => rfl)) pe_int (fun _ _ => rfl)) pa_nil)))) (nomark _)) (pss_one (ps_ret pe_bl)) pss_nil)))))))
      (pss_one (ps_ret (pe_and (pe_call GStrings (hr.mono (by decide)) (by rfl) T.gStrings T.FStrings.kp T.bStrings .nil pass0 (pa_cons (pv 0) (pa_cons (pv 1) (pa_cons (pv 5) (pa_cons (pv 7) pa_nil))))) (pe_one (pe_call GLists (hr.mono (by decide)) (by rfl) T.gLists T.FLists.kp T.bLists .nil pass0 (pa_cons (pe_call GBox (hr.mono (by decide)) (by rfl) T.gBox T.FBox.kp T.bBox .nil pass0 (pa_cons (pv 0) (pa_cons pe_int pa_nil))) (pa_cons (pv 7) pa_nil)))))))))))))), ?_⟩
    rw [show kStrA15_0 = azL from by decide +kernel]
    walk_at "go"
    rename_i pp hpp
    have s0 : Same H (upd H pp (.lst [])) := Same.upd_new hpp
    have hp0 : (upd H pp (.lst [])) pp = some (.lst []) := upd_same
    generalize upd H pp (.lst []) = H0 at s0 hp0 ⊢
    refine for_range (lo := 0) (n := 2) (fun i σ H' => Stop (∃ (qs : List Pr) (v2 v3 v4 : Option V), σ = sL x (some (.ref pp)) v2 v3 v4 none none none none none none ∧ qs.length = i ∧ H' pp = some (.lst (qs.map fun q => V.ref q.t)) ∧ PrOk H' qs ∧ Same H H'))
      ⟨[], none, none, none, rfl, rfl, hp0, (fun q hq => nomatch hq), s0⟩ ?_ ?_
    · rintro i σ H1 hi ⟨qs, v2, v3, v4, rfl, hqs, hp1, hok, s1⟩
      have it : (0 : Int) + (i : Int) = (i : Int) := Int.zero_add _
      unfold sL
      walk_at "go"
      refine ⟨x, ns, i, congrArg (fun z => [V.ref x, V.int z]) it, s1.seq hS, hl, by omega, fun b H2 hb hB2 s2 => ?_⟩
      walk_at "go"
      refine ⟨b, 4, rfl, hB2, by decide, by decide, fun r H3 hr3 hB3 f3 => ?_⟩
      walk_at "go"
      refine ⟨b, azL, 1 + r, by rw [show ((1 + r : Nat) : Int) = 1 + (r : Int) by omega], hB3, by rw [az_len]; omega, by rw [az_len]; decide, fun l H4 hll hl4 hB4 f4 => ?_⟩
      have s4 : Same H1 H4 := Fr.forget1 (D := b) (Fr.trans (Fr.of_same s2) (Fr.trans f3 f4)) hb
      have hp4 := s4 _ _ hp1
      walk_at "go"
      refine ⟨b, l.length + 1, rfl, hB4, by omega, by omega, fun m H5 hm hB5 f5 => ?_⟩
      walk_at "go"
      refine ⟨b, l, m, rfl, hB5, by omega, by omega, fun v H6 hvl hv hB6 f6 => ?_⟩
      have ho := alok_of (by omega) (by omega) hl4 hv
      have s6 : Same H1 H6 := Fr.forget1 (D := b) (Fr.trans (Fr.of_same s2) (Fr.trans (Fr.trans f3 f4) (Fr.trans f5 f6))) hb
      walk_at "go"
      rename_i t ht
      have s7 : Same H1 (upd H6 t (.tup [.str (S l), .str (S v)])) := Vk.Same.trans s6 (Same.upd_new ht)
      have ht7 : (upd H6 t (.tup [.str (S l), .str (S v)])) t = some (.tup [.str (S l), .str (S v)]) := upd_same
      have nt : t ≠ pp := fun z => by rw [z, s6 _ _ hp1] at ht; cases ht
      generalize upd H6 t (.tup [.str (S l), .str (S v)]) = H7 at s7 ht7 ⊢
      have hp7 := s7 _ _ hp1
      refine iAppend hp7 (by rw [List.length_map, sizeLine_eq]; omega) ?_
      walk_at "go"
      have np : ∀ c u, H c = some u → c ≠ pp := fun c u e z => by rw [z, hpp] at e; cases e
      refine ⟨qs ++ [⟨t, l, v⟩], _, _, _, rfl, by simp [hqs], by rw [upd_same, List.map_append]; rfl, fun q hq => ?_, fun c u e => by rw [upd_ne (np c u e)]; exact s7 _ _ (s1 _ _ e)⟩
      rcases List.mem_append.mp hq with z | z
      · have nq : q.t ≠ pp := fun e => by
          have := (hok q z).1
          rw [e, hp1] at this
          cases this
        exact ⟨by rw [upd_ne nq]; exact s7 _ _ (hok q z).1, (hok q z).2⟩
      · rw [List.mem_singleton.mp z]
        exact ⟨by rw [upd_ne nt]; exact ht7, ho⟩
    · rintro σ H1 ⟨qs, v2, v3, v4, rfl, hqs, hp1, hok, s1⟩
      unfold sL
      walk_at "go"
      rename_i D hD
      refine lc_list (K := K) (a := pp) (xs := qs.map fun q => V.ref q.t) (fun i H' => ∃ ps : List Alp, ps.length = i ∧ H' D = some (.lst (ps.map fun q => V.ref q.al)) ∧ (ps.map fun q => (⟨q.t, q.l, q.v⟩ : Pr)) = qs.take i ∧ (∀ q ∈ ps, IsAl a.cAlphabet H' q.al q.l q.v ∧ q.al ≠ D) ∧ Fr [D] H1 H') ?_ ?_ ?_ ?_
      · exact ⟨[], rfl, upd_same, rfl, (fun q hq => nomatch hq), Fr.in0⟩
      · rintro i H' _ ⟨ps, _, _, _, _, f⟩
        exact SqL.of (f _ _ (by simpa using ne_of_none hp1 hD) hp1)
      · rintro i xv H' hi ⟨ps, hps, hD', hmap, hal, f⟩
        obtain ⟨q, hq, rfl⟩ : ∃ q, qs[i]? = some q ∧ xv = V.ref q.t := by
          rw [List.getElem?_map] at hi
          cases e : qs[i]? with
          | none => rw [e] at hi; cases hi
          | some z => rw [e] at hi; exact ⟨z, rfl, (Option.some.inj hi).symm⟩
        have hqm := List.mem_of_getElem? hq
        obtain ⟨ht1, ho⟩ := hok q hqm
        have ht' := f _ _ (by simpa using ne_of_none ht1 hD) ht1
        refine ⟨rfl, ?_⟩
        have h4 := ho.h4
        have hvl := len_of_sub ho.vn ho.vl
        refine iYes (iteT (iMakeD ?_))
        walk_at "go"
        intro al dxa hal2 hdxa hnea
        refine ⟨al, dxa, q.l, q.v, rfl, upd_same, by omega, by omega, fun _ H3 hA3 hk3 => ⟨rfl, ?_⟩, fun hne => absurd ho.due hne⟩
        have s3 : Same H' H3 := fun c u e => by
          have n1 : c ≠ al := ne_of_none e hal2
          have n2 : c ≠ dxa := ne_of_none e hdxa
          exact hk3 c u n1 (by rw [upd_ne n1, upd_ne n2]; exact e)
        have nal : al ≠ D := (ne_of_none hD' hal2).symm
        have hi2 := (List.getElem?_eq_some_iff.mp hq).1
        have up : ∀ {c : Addr} {l v : List Nat}, IsAl a.cAlphabet H3 c l v → c ≠ D → ∀ o, IsAl a.cAlphabet (upd H3 D o) c l v := fun {c l v} ⟨dx, e⟩ n o => ⟨dx, by rw [upd_ne n]; exact e⟩
        refine ⟨_, s3 _ _ hD', by rw [List.length_map, sizeLine_eq]; omega, ps ++ [⟨q.t, al, q.l, q.v⟩], by simp [hps], by rw [upd_same, List.map_append]; rfl, ?_, fun z hz => ?_, Fr.trans f (Fr.trans (Fr.of_same s3) Fr.in0)⟩
        · rw [List.map_append, hmap, List.take_add_one, hq]
          rfl
        · rcases List.mem_append.mp hz with z1 | z1
          · exact ⟨up ((hal z z1).1.same s3) (hal z z1).2 _, (hal z z1).2⟩
          · rw [List.mem_singleton.mp z1]
            exact ⟨up hA3 nal _, nal⟩
      · rintro H' ⟨ps, hps, hD', hmap, hal, f⟩
        rw [List.length_map] at hps hmap
        rw [List.take_length] at hmap
        have s1' : Same H1 H' := Fr.forget1 f hD
        have s2' := Vk.Same.trans s1 s1'
        have hps2 : ps.length = 2 := by rw [hps, hqs]
        have st : Std a.cAlphabet H' pp D ps := by
          refine ⟨?_, hD', fun q hq => ?_, fun q hq => (hal q hq).1, fun q hq => ?_⟩
          · rw [s1' _ _ hp1, ← hmap, List.map_map]
            rfl
          · exact s1' _ _ (hok ⟨q.t, q.l, q.v⟩ (by rw [← hmap]; exact List.mem_map.mpr ⟨q, hq, rfl⟩)).1
          · exact (hok ⟨q.t, q.l, q.v⟩ (by rw [← hmap]; exact List.mem_map.mpr ⟨q, hq, rfl⟩)).2
        obtain ⟨q0, hq0⟩ : ∃ q, ps[0]? = some q := ⟨_, List.getElem?_eq_getElem (by omega : 0 < ps.length)⟩
        have hq0m := List.mem_of_getElem? hq0
        have hq0t : (ps.map fun q => V.ref q.t)[0]? = some (V.ref q0.t) := by rw [List.getElem?_map, hq0]; rfl
        clear hD' f hal hmap hp1 hok s1 hD hps hqs s1' qs
        have ho := st.ok q0 hq0m
        have hpq := st.hp
        have htq := st.ht q0 hq0m
        have h4 := ho.h4
        have h1 := ho.h1
        walk_at "go"
        refine iSortT (by omega) fun p1 hp1 => ?_
        refine ⟨_, p1, _, rfl, rfl, .inl (joinQ upd_same), (joinS (by rw [srtL_len]; omega)).1, ?_⟩
        rw [(joinS (l := srtL q0.l) (by rw [srtL_len]; omega)).2]
        have s3 : Same H' (upd H' p1 (.lst ((srtL q0.l).map fun c => V.str (S [c])))) := Same.upd_new hp1
        generalize upd H' p1 (.lst ((srtL q0.l).map fun c => V.str (S [c]))) = H2 at s3 ⊢
        have st2 := st.same s3
        have s4 := Vk.Same.trans s2' s3
        clear hp1 s3 st s2' hpq htq
        have hsl : (srtL q0.l).length = q0.l.length := srtL_len _
        have hsg : ([45] ++ srtL q0.l) = 45 :: srtL q0.l := rfl
        have hlow : ∀ c ∈ 45 :: srtL q0.l, c < 128 := fun c hc => by
          rcases ho.sg c hc with e | e <;> omega
        have hlt := ho.lt
        have hlen : (45 :: srtL q0.l).length ≤ 6 := by rw [List.length_cons]; omega
        walk_at "go"
        rw [hsg]
        have hpos : 0 < (45 :: srtL q0.l).length := by simp
        generalize 45 :: srtL q0.l = sg at hlow hlt hlen hpos ⊢
        rename_i D2 hD2
        refine lcg_R (Pv := fun i H' => ∃ nl : List (List Nat), nl.length = i ∧ H' D2 = some (.lst (nl.map fun t => V.str (S t))) ∧ (∀ t ∈ nl, t.length ≤ 20 ∧ ∀ c ∈ t, c < 128) ∧ Fr [D2] H2 H') ⟨[], rfl, upd_same, (fun q hq => nomatch hq), Fr.in0⟩ (fun _ => rfl) ?_ ?_
        · rintro i H' hi ⟨nl, hnl, hD', hok, f⟩
          have s5 : Same H2 H' := Fr.forget1 f hD2
          refine iYes (iteT ?_)
          walk_at "go"
          have it : (2 : Int) + (0 + (i : Int)) = ((2 + i : Nat) : Int) := by omega
          refine ⟨x, ns, 2 + i, congrArg (fun z => [V.ref x, V.int z]) it, (Vk.Same.trans s4 s5).seq hS, hl, by omega, fun b H3 hb hB3 s3 => ?_⟩
          walk_at "go"
          refine ⟨b, sg, rfl, hB3, hpos, hlen, hlow, fun nm H4 h1 h2 hB4 f4 => ?_⟩
          have s6 : Same H' H4 := Fr.forget1 (Fr.trans (Fr.of_same s3) f4) hb
          exact ⟨_, s6 _ _ hD', by rw [List.length_map, sizeLine_eq]; omega, nl ++ [nm], by simp [hnl], by rw [upd_same, List.map_append]; rfl, (fun t ht => (List.mem_append.mp ht).elim (hok t) fun z => by rw [List.mem_singleton.mp z]; exact ⟨h1, h2⟩), Fr.trans f (Fr.trans (Fr.of_same s6) Fr.in0)⟩
        · rintro H' ⟨nl, hnl, hD', hok, f⟩
          have s5 : Same H2 H' := Fr.forget1 f hD2
          have st3 := st2.same s5
          have s6 := Vk.Same.trans s4 s5
          clear f s5 st2 s4 hD2
          walk_at "go"
          rename_i p5 hp5
          have s7 : Same H' (upd H' p5 (.lst [.str (S [])])) := Same.upd_new hp5
          refine iCat (s7 _ _ hD') upd_same (by rw [List.length_map]; simp only [List.length_cons, List.length_nil, sizeLine_eq]; omega) fun p6 hp6 => ?_
          have en : (nl.map fun t => V.str (S t)) ++ [V.str (S [])] = (nl ++ [[]]).map fun t => V.str (S t) := by rw [List.map_append]; rfl
          rw [en]
          have hok2 : ∀ t ∈ nl ++ [[]], t.length ≤ 20 ∧ ∀ c ∈ t, c < 128 := fun t ht => (List.mem_append.mp ht).elim (hok t) fun z => by
            rw [List.mem_singleton.mp z]
            exact ⟨by decide, fun c hc => nomatch hc⟩
          have s8 : Same H' (upd (upd H' p5 (.lst [.str (S [])])) p6 (.lst ((nl ++ [[]]).map fun t => V.str (S t)))) := Vk.Same.trans s7 (Same.upd_new hp6)
          have hn6 : (upd (upd H' p5 (.lst [.str (S [])])) p6 (.lst ((nl ++ [[]]).map fun t => V.str (S t)))) p6 = some (.lst ((nl ++ [[]]).map fun t => V.str (S t))) := upd_same
          generalize upd (upd H' p5 (.lst [.str (S [])])) p6 (.lst ((nl ++ [[]]).map fun t => V.str (S t))) = H6 at s8 hn6 ⊢
          have st6 := st3.same s8
          have s9 := Vk.Same.trans s6 s8
          clear s8 s7 en hp5 hp6 st3 s6 hD' hok
          generalize nl ++ [[]] = ml at hn6 hok2 ⊢
          walk_at "go"
          refine for_range (lo := 0) (n := 2) (fun i σ H' => Stop (∃ u2 u9 u10 : Option V, σ = sL x (some (.ref pp)) u2 v3 v4 (some (.ref D)) none (some (.str (S sg))) (some (.ref p6)) u9 u10 ∧ Same H6 H'))
            ⟨v2, none, none, rfl, Same.refl _⟩ ?_ ?_
          · rintro i σ H7 hi ⟨u2, u9, u10, rfl, s7⟩
            unfold sL
            walk_at "go"
            refine for_L (xs := ml.map fun t => V.str (S t)) (fun j σ H' => Stop (∃ u2 u9 u10 : Option V, σ = sL x (some (.ref pp)) u2 v3 v4 (some (.ref D)) none (some (.str (S sg))) (some (.ref p6)) u9 u10 ∧ Same H6 H')) ⟨u2, _, u10, rfl, s7⟩ ?_ ?_ ?_
            · rintro j σ H8 _ ⟨w2, w9, w10, rfl, s8⟩
              exact SqL.of (s8 _ _ hn6)
            · rintro j xv σ H8 hj ⟨w2, w9, w10, rfl, s8⟩
              obtain ⟨nm, hnm, rfl⟩ : ∃ nm, ml[j]? = some nm ∧ xv = V.str (S nm) := by
                rw [List.getElem?_map] at hj
                cases e : ml[j]? with
                | none => rw [e] at hj; cases hj
                | some z => rw [e] at hj; exact ⟨z, rfl, (Option.some.inj hj).symm⟩
              obtain ⟨hnl, hnlow⟩ := hok2 nm (List.mem_of_getElem? hnm)
              unfold sL
              walk_at "go"
              refine for_range (lo := 0) (n := 2) (fun i σ H' => Stop (∃ u2 u9 : Option V, σ = sL x (some (.ref pp)) u2 v3 v4 (some (.ref D)) none (some (.str (S sg))) (some (.ref p6)) u9 (some (.str (S nm))) ∧ Same H6 H'))
                ⟨w2, _, rfl, s8⟩ ?_ ?_
              · rintro m σ H9 hm ⟨y2, y9, rfl, s9'⟩
                have st9 := st6.same s9'
                obtain ⟨q, hq⟩ : ∃ q, ps[m]? = some q := ⟨_, List.getElem?_eq_getElem (by omega : m < ps.length)⟩
                have hqm := List.mem_of_getElem? hq
                have hqt : (ps.map fun q => V.ref q.t)[m]? = some (V.ref q.t) := by rw [List.getElem?_map, hq]; rfl
                have hqa : (ps.map fun q => V.ref q.al)[m]? = some (V.ref q.al) := by rw [List.getElem?_map, hq]; rfl
                have im : (0 : Int) + (m : Int) = (m : Int) := Int.zero_add _
                have hoq := st9.ok q hqm
                unfold sL
                walk_at "go"
                refine iIxL (SqL.of st9.ha) (by rw [im]; exact atI_nat hqa) ?_
                walk_at "go"
                refine ⟨q.al, q.l, q.v, nm, rfl, st9.hal q hqm, by omega, hnlow, fun z H10 hz s10 => ?_⟩
                have st10 := st9.same s10
                have ht10 := st10.ht q hqm
                walk_at "go"
                refine iIxL (SqL.of st10.hp) (by rw [im]; exact atI_nat hqt) ?_
                walk_at "go"
                refine iIxL (SqL.of st10.hp) (by rw [im]; exact atI_nat hqt) ?_
                walk_at "go"
                refine ⟨q.l, q.v, nm, rfl, hoq, by omega, fun z2 H11 hz2 s11 => ?_⟩
                refine iNeBS (s11 _ _ hz) hz2 (ok_S fun c hc => by have := tell_low hoq hnlow c hc; omega) ?_
                walk_at "go"
                exact ⟨_, _, rfl, Vk.Same.trans s9' (Vk.Same.trans s10 s11)⟩
              · rintro σ H9 ⟨y2, y9, rfl, s9'⟩
                exact ⟨_, _, _, rfl, s9'⟩
            · rintro σ H8 ⟨w2, w9, w10, rfl, s8⟩
              exact ⟨_, _, _, rfl, s8⟩
          · rintro σ H7 ⟨u2, u9, u10, rfl, s7⟩
            have st7 := st6.same s7
            have s10 := Vk.Same.trans s9 s7
            unfold sL
            walk_at "go"
            refine ⟨x, pp, D, ns, ps, sg, rfl, s10.seq hS, hl, st7, hps2, hpos, hlen, hlow, fun H8 s8 => ?_⟩
            have s11 := Vk.Same.trans s10 s8
            walk_at "go"
            refine ⟨x, ns, 10, rfl, s11.seq hS, hl, by decide, fun b H9 hb hB9 s12 => ?_⟩
            walk_at "go"
            exact ⟨b, sg, rfl, hB9, hpos, hlen, hlow, hlt, fun H10 _ => k H10⟩
end
end
section
set_option Elab.async false
set_option linter.all false
set_option maxRecDepth 100000
set_option maxHeartbeats 8000000
open PySem PySem.Spec PyProof.Rows L2
theorem find_of_cls {K : PySem.W.Frag} {C : Addr} {cd : ClassData} {name : Str} (h : PySem.W.clsIn K C = some cd) : PySem.W.findIn K (.ref C) name = PySem.W.alongIn K name cd.mro := by
  unfold PySem.W.clsIn at h
  split at h
  · rename_i ho
    cases h
    unfold PySem.W.findIn
    simp only [ho]
  · cases h
theorem kit_of {K : PySem.W.Frag} {t c : Addr} {b : Bool} (hc : PySem.W.isClsIn K c = true) (ht : PySem.W.typeIn K (.ref c) = some (.type "type")) (hs : PySem.W.subIn K (.ref t) (.ref c) = some b) (hcc : PySem.W.subIn K (.ref c) (.ref c) = some true) : PySem.W.kitOne K (.ref t) (.ref c) = some b := by
  have h1 : (PySem.W.clsIn K c).isSome = true := hc
  unfold PySem.W.kitOne
  by_cases e : (Value.ref t == Value.ref c) = true
  · rw [if_pos e]
    have e2 : Value.ref t = Value.ref c := eq_of_beq e
    rw [e2, hcc] at hs
    exact hs
  · rw [if_neg e]
    show (if ((PySem.W.clsIn K c).isSome && PySem.W.typeIn K (.ref c) == some (.type "type")) = true then PySem.W.subIn K (.ref t) (.ref c) else none) = _
    rw [h1, ht, if_pos (by rfl), hs]
theorem kit_own {K : PySem.W.Frag} {C : Addr} : PySem.W.kitOne K (.ref C) (.ref C) = some true := by
  unfold PySem.W.kitOne
  rw [if_pos (beq_self_eq_true _)]
theorem kit_any2 {K : PySem.W.Frag} {t c1 c2 : Addr} (h1 : PySem.W.kitOne K (.ref t) (.ref c1) = some false) (h2 : PySem.W.kitOne K (.ref t) (.ref c2) = some false) : PySem.W.kitAny K (.ref t) [.ref c1, .ref c2] = some false := by
  simp [PySem.W.kitAny, h1, h2]
theorem all_mk {l : PySem.W.OpenLaw} {w : World} {K : PySem.W.Frag} {h : Heap} {mg : Str → Option Value} {fa : Addr} (X : K.In h) (G : h.Ns mainGlobals mg) (hfa : mg "law" = some (.ref fa))
    {fDiff fPShortlex fPKindAfter fBox fTake fPick fChar fChanged fName fSet fToldSet fChecked fText fTexts fBefore fEachOnce fKind fStrings fLists fLaw C fAsc fSignsOf fIsText fCheck TDA fA TE BA fBA ccBA cdaBA BT fBT ccBT cdaBT BN fBN ccBN cdaBN : Addr} {odDiff anDiff odPShortlex anPShortlex odPKindAfter anPKindAfter odBox anBox odTake anTake odPick anPick odChar anChar odChanged anChanged odName anName odSet anSet odToldSet anToldSet odChecked anChecked odText anText odTexts anTexts odBefore anBefore odEachOnce anEachOnce odKind anKind odStrings anStrings odLists anLists odLaw anLaw odAsc anAsc odSignsOf anSignsOf odIsText anIsText odCheck anCheck odA anA odBA anBA ddccBA ddcdBA odBT anBT ddccBT ddcdBT odBN anBN ddccBN ddcdBN : Option Addr} {slDiff slPShortlex slPKindAfter slBox slTake slPick slChar slChanged slName slSet slToldSet slChecked slText slTexts slBefore slEachOnce slKind slStrings slLists slLaw slAsc slSignsOf slIsText slCheck slA slBA slccBA slcdBA slBT slccBT slcdBT slBN slccBN slcdBN : Array (Option Value)} {ocDiff kVDiff dcDiff pmDiff cdDiff ctDiff ocPShortlex kVPShortlex dcPShortlex pmPShortlex cdPShortlex ctPShortlex ocPKindAfter kVPKindAfter dcPKindAfter pmPKindAfter cdPKindAfter ctPKindAfter ocBox kVBox dcBox pmBox cdBox ctBox ocTake kVTake dcTake pmTake cdTake ctTake ocPick kVPick dcPick pmPick cdPick ctPick ocChar kVChar dcChar pmChar cdChar ctChar ocChanged kVChanged dcChanged pmChanged cdChanged ctChanged ocName kVName dcName pmName cdName ctName ocSet kVSet dcSet pmSet cdSet ctSet ocToldSet kVToldSet dcToldSet pmToldSet cdToldSet ctToldSet ocChecked kVChecked dcChecked pmChecked cdChecked ctChecked ocText kVText dcText pmText cdText ctText ocTexts kVTexts dcTexts pmTexts cdTexts ctTexts ocBefore kVBefore dcBefore pmBefore cdBefore ctBefore ocEachOnce kVEachOnce dcEachOnce pmEachOnce cdEachOnce ctEachOnce ocKind kVKind dcKind pmKind cdKind ctKind ocStrings kVStrings dcStrings pmStrings cdStrings ctStrings ocLists kVLists dcLists pmLists cdLists ctLists ocLaw kVLaw dcLaw pmLaw cdLaw ctLaw ocAsc kVAsc dcAsc pmAsc cdAsc ctAsc ocSignsOf kVSignsOf dcSignsOf pmSignsOf cdSignsOf ctSignsOf ocIsText kVIsText dcIsText pmIsText cdIsText ctIsText ocCheck kVCheck dcCheck pmCheck cdCheck ctCheck ocA kVA dcA pmA cdA ctA ocBA kVBA dcBA pmBA ctBA clccBA clcdBA ocBT kVBT dcBT pmBT ctBT clccBT clcdBT ocBN kVBN dcBN pmBN ctBN clccBN clcdBN : Value} {tM tJ tl tj2 : Tok} {nDA : Nat} {odDA : Option Addr} {slDA : Array (Option Value)} {ocDA : Value} {tDA : Tok} {vsCBA : Array Value} {flBA : Str} {tfBA : Tok} {vsCBT : Array Value} {flBT : Str} {tfBT : Tok} {vsCBN : Array Value} {flBN : Str} {tfBN : Tok}
    {nmTE qTE : Str} {NTE : Addr} {bsTE : List Value} {snTE : List Str} {subTE : List Value} {abTE : Bool} {colTE : Option Bool} {ddTE : Option Addr} {m0TE m1TE m2TE m3TE m5TE : Option Value}
    {nmBA qBA : Str} {NBA : Addr} {bsBA : List Value} {snBA : List Str} {subBA : List Value} {abBA : Bool} {colBA : Option Bool} {ddBA : Option Addr} {m0BA m1BA m2BA m3BA m5BA : Option Value}
    {nmBT qBT : Str} {NBT : Addr} {bsBT : List Value} {snBT : List Str} {subBT : List Value} {abBT : Bool} {colBT : Option Bool} {ddBT : Option Addr} {m0BT m1BT m2BT m3BT m5BT : Option Value}
    {nmBN qBN : Str} {NBN : Addr} {bsBN : List Value} {snBN : List Str} {subBN : List Value} {abBN : Bool} {colBN : Option Bool} {ddBN : Option Addr} {m0BN m1BN m2BN m3BN m5BN : Option Value}
    (lDiff : K.lookup fDiff = some ⟨ocDiff, odDiff, .func (PySem.W.fnOf "differ_within" "differ_within" (defArgs sDiff) (defBody sDiff) (defScope sDiff) .none kVDiff dcDiff pmDiff anDiff cdDiff ctDiff), slDiff⟩)
    (cDiff : PySem.W.codeIn K cdDiff "differ_within" = true)
    (aDiff : PySem.W.nsIn K mainGlobals "differ_within" = some (some (.ref fDiff)))
    (kDiff : PySem.W.keepIn K (.ref fDiff) = true)
    (lPShortlex : K.lookup fPShortlex = some ⟨ocPShortlex, odPShortlex, .func (PySem.W.fnOf "shortlex" "shortlex" (defArgs sPShortlex) (defBody sPShortlex) (defScope sPShortlex) .none kVPShortlex dcPShortlex pmPShortlex anPShortlex cdPShortlex ctPShortlex), slPShortlex⟩)
    (cPShortlex : PySem.W.codeIn K cdPShortlex "shortlex" = true)
    (aPShortlex : PySem.W.nsIn K mainGlobals "shortlex" = some (some (.ref fPShortlex)))
    (kPShortlex : PySem.W.keepIn K (.ref fPShortlex) = true)
    (lPKindAfter : K.lookup fPKindAfter = some ⟨ocPKindAfter, odPKindAfter, .func (PySem.W.fnOf "kind_after" "kind_after" (defArgs sPKindAfter) (defBody sPKindAfter) (defScope sPKindAfter) .none kVPKindAfter dcPKindAfter pmPKindAfter anPKindAfter cdPKindAfter ctPKindAfter), slPKindAfter⟩)
    (cPKindAfter : PySem.W.codeIn K cdPKindAfter "kind_after" = true)
    (aPKindAfter : PySem.W.nsIn K mainGlobals "kind_after" = some (some (.ref fPKindAfter)))
    (kPKindAfter : PySem.W.keepIn K (.ref fPKindAfter) = true)
    (lBox : K.lookup fBox = some ⟨ocBox, odBox, .func (PySem.W.fnOf "_law_box" "_law_box" (defArgs sBox) (defBody sBox) (defScope sBox) .none kVBox dcBox pmBox anBox cdBox ctBox), slBox⟩)
    (cBox : PySem.W.codeIn K cdBox "_law_box" = true)
    (aBox : PySem.W.nsIn K mainGlobals "_law_box" = some (some (.ref fBox)))
    (kBox : PySem.W.keepIn K (.ref fBox) = true)
    (lTake : K.lookup fTake = some ⟨ocTake, odTake, .func (PySem.W.fnOf "_law_take" "_law_take" (defArgs sTake) (defBody sTake) (defScope sTake) .none kVTake dcTake pmTake anTake cdTake ctTake), slTake⟩)
    (cTake : PySem.W.codeIn K cdTake "_law_take" = true)
    (aTake : PySem.W.nsIn K mainGlobals "_law_take" = some (some (.ref fTake)))
    (kTake : PySem.W.keepIn K (.ref fTake) = true)
    (lPick : K.lookup fPick = some ⟨ocPick, odPick, .func (PySem.W.fnOf "_law_pick" "_law_pick" (defArgs sPick) (defBody sPick) (defScope sPick) .none kVPick dcPick pmPick anPick cdPick ctPick), slPick⟩)
    (cPick : PySem.W.codeIn K cdPick "_law_pick" = true)
    (aPick : PySem.W.nsIn K mainGlobals "_law_pick" = some (some (.ref fPick)))
    (kPick : PySem.W.keepIn K (.ref fPick) = true)
    (lChar : K.lookup fChar = some ⟨ocChar, odChar, .func (PySem.W.fnOf "_law_char" "_law_char" (defArgs sChar) (defBody sChar) (defScope sChar) .none kVChar dcChar pmChar anChar cdChar ctChar), slChar⟩)
    (cChar : PySem.W.codeIn K cdChar "_law_char" = true)
    (aChar : PySem.W.nsIn K mainGlobals "_law_char" = some (some (.ref fChar)))
    (kChar : PySem.W.keepIn K (.ref fChar) = true)
    (lChanged : K.lookup fChanged = some ⟨ocChanged, odChanged, .func (PySem.W.fnOf "_law_changed" "_law_changed" (defArgs sChanged) (defBody sChanged) (defScope sChanged) .none kVChanged dcChanged pmChanged anChanged cdChanged ctChanged), slChanged⟩)
    (cChanged : PySem.W.codeIn K cdChanged "_law_changed" = true)
    (aChanged : PySem.W.nsIn K mainGlobals "_law_changed" = some (some (.ref fChanged)))
    (kChanged : PySem.W.keepIn K (.ref fChanged) = true)
    (lName : K.lookup fName = some ⟨ocName, odName, .func (PySem.W.fnOf "_law_name" "_law_name" (defArgs sName) (defBody sName) (defScope sName) .none kVName dcName pmName anName cdName ctName), slName⟩)
    (cName : PySem.W.codeIn K cdName "_law_name" = true)
    (aName : PySem.W.nsIn K mainGlobals "_law_name" = some (some (.ref fName)))
    (kName : PySem.W.keepIn K (.ref fName) = true)
    (lSet : K.lookup fSet = some ⟨ocSet, odSet, .func (PySem.W.fnOf "_law_set" "_law_set" (defArgs sSet) (defBody sSet) (defScope sSet) .none kVSet dcSet pmSet anSet cdSet ctSet), slSet⟩)
    (cSet : PySem.W.codeIn K cdSet "_law_set" = true)
    (aSet : PySem.W.nsIn K mainGlobals "_law_set" = some (some (.ref fSet)))
    (kSet : PySem.W.keepIn K (.ref fSet) = true)
    (lToldSet : K.lookup fToldSet = some ⟨ocToldSet, odToldSet, .func (PySem.W.fnOf "_law_told_set" "_law_told_set" (defArgs sToldSet) (defBody sToldSet) (defScope sToldSet) .none kVToldSet dcToldSet pmToldSet anToldSet cdToldSet ctToldSet), slToldSet⟩)
    (cToldSet : PySem.W.codeIn K cdToldSet "_law_told_set" = true)
    (aToldSet : PySem.W.nsIn K mainGlobals "_law_told_set" = some (some (.ref fToldSet)))
    (kToldSet : PySem.W.keepIn K (.ref fToldSet) = true)
    (lChecked : K.lookup fChecked = some ⟨ocChecked, odChecked, .func (PySem.W.fnOf "_law_checked" "_law_checked" (defArgs sChecked) (defBody sChecked) (defScope sChecked) .none kVChecked dcChecked pmChecked anChecked cdChecked ctChecked), slChecked⟩)
    (cChecked : PySem.W.codeIn K cdChecked "_law_checked" = true)
    (aChecked : PySem.W.nsIn K mainGlobals "_law_checked" = some (some (.ref fChecked)))
    (kChecked : PySem.W.keepIn K (.ref fChecked) = true)
    (lText : K.lookup fText = some ⟨ocText, odText, .func (PySem.W.fnOf "_law_text" "_law_text" (defArgs sText) (defBody sText) (defScope sText) .none kVText dcText pmText anText cdText ctText), slText⟩)
    (cText : PySem.W.codeIn K cdText "_law_text" = true)
    (aText : PySem.W.nsIn K mainGlobals "_law_text" = some (some (.ref fText)))
    (kText : PySem.W.keepIn K (.ref fText) = true)
    (lTexts : K.lookup fTexts = some ⟨ocTexts, odTexts, .func (PySem.W.fnOf "_law_texts" "_law_texts" (defArgs sTexts) (defBody sTexts) (defScope sTexts) .none kVTexts dcTexts pmTexts anTexts cdTexts ctTexts), slTexts⟩)
    (cTexts : PySem.W.codeIn K cdTexts "_law_texts" = true)
    (aTexts : PySem.W.nsIn K mainGlobals "_law_texts" = some (some (.ref fTexts)))
    (kTexts : PySem.W.keepIn K (.ref fTexts) = true)
    (lBefore : K.lookup fBefore = some ⟨ocBefore, odBefore, .func (PySem.W.fnOf "_law_before" "_law_before" (defArgs sBefore) (defBody sBefore) (defScope sBefore) .none kVBefore dcBefore pmBefore anBefore cdBefore ctBefore), slBefore⟩)
    (cBefore : PySem.W.codeIn K cdBefore "_law_before" = true)
    (aBefore : PySem.W.nsIn K mainGlobals "_law_before" = some (some (.ref fBefore)))
    (kBefore : PySem.W.keepIn K (.ref fBefore) = true)
    (lEachOnce : K.lookup fEachOnce = some ⟨ocEachOnce, odEachOnce, .func (PySem.W.fnOf "_law_each_once" "_law_each_once" (defArgs sEachOnce) (defBody sEachOnce) (defScope sEachOnce) .none kVEachOnce dcEachOnce pmEachOnce anEachOnce cdEachOnce ctEachOnce), slEachOnce⟩)
    (cEachOnce : PySem.W.codeIn K cdEachOnce "_law_each_once" = true)
    (aEachOnce : PySem.W.nsIn K mainGlobals "_law_each_once" = some (some (.ref fEachOnce)))
    (kEachOnce : PySem.W.keepIn K (.ref fEachOnce) = true)
    (lKind : K.lookup fKind = some ⟨ocKind, odKind, .func (PySem.W.fnOf "_law_kind" "_law_kind" (defArgs sKind) (defBody sKind) (defScope sKind) .none kVKind dcKind pmKind anKind cdKind ctKind), slKind⟩)
    (cKind : PySem.W.codeIn K cdKind "_law_kind" = true)
    (aKind : PySem.W.nsIn K mainGlobals "_law_kind" = some (some (.ref fKind)))
    (kKind : PySem.W.keepIn K (.ref fKind) = true)
    (lStrings : K.lookup fStrings = some ⟨ocStrings, odStrings, .func (PySem.W.fnOf "_law_strings" "_law_strings" (defArgs sStrings) (defBody sStrings) (defScope sStrings) .none kVStrings dcStrings pmStrings anStrings cdStrings ctStrings), slStrings⟩)
    (cStrings : PySem.W.codeIn K cdStrings "_law_strings" = true)
    (aStrings : PySem.W.nsIn K mainGlobals "_law_strings" = some (some (.ref fStrings)))
    (kStrings : PySem.W.keepIn K (.ref fStrings) = true)
    (lLists : K.lookup fLists = some ⟨ocLists, odLists, .func (PySem.W.fnOf "_law_lists" "_law_lists" (defArgs sLists) (defBody sLists) (defScope sLists) .none kVLists dcLists pmLists anLists cdLists ctLists), slLists⟩)
    (cLists : PySem.W.codeIn K cdLists "_law_lists" = true)
    (aLists : PySem.W.nsIn K mainGlobals "_law_lists" = some (some (.ref fLists)))
    (kLists : PySem.W.keepIn K (.ref fLists) = true)
    (lLaw : K.lookup fLaw = some ⟨ocLaw, odLaw, .func (PySem.W.fnOf "law" "law" (defArgs sLaw) (defBody sLaw) (defScope sLaw) .none kVLaw dcLaw pmLaw anLaw cdLaw ctLaw), slLaw⟩)
    (cLaw : PySem.W.codeIn K cdLaw "law" = true)
    (aLaw : PySem.W.nsIn K mainGlobals "law" = some (some (.ref fLaw)))
    (kLaw : PySem.W.keepIn K (.ref fLaw) = true)
    (z_len : PySem.W.nsIn K mainGlobals "len" = some none)
    (z_set : PySem.W.nsIn K mainGlobals "set" = some none)
    (z_all : PySem.W.nsIn K mainGlobals "all" = some none)
    (z_abs : PySem.W.nsIn K mainGlobals "abs" = some none)
    (z_int : PySem.W.nsIn K mainGlobals "int" = some none)
    (z_range : PySem.W.nsIn K mainGlobals "range" = some none)
    (z_sorted : PySem.W.nsIn K mainGlobals "sorted" = some none)
    (z_isinstance : PySem.W.nsIn K mainGlobals "isinstance" = some none)
    (z_str : PySem.W.nsIn K mainGlobals "str" = some none)
    (z_bool : PySem.W.nsIn K mainGlobals "bool" = some none)
    (z_list : PySem.W.nsIn K mainGlobals "list" = some none)
    (z_tuple : PySem.W.nsIn K mainGlobals "tuple" = some none)
    (z_any : PySem.W.nsIn K mainGlobals "any" = some none)
    (z_enumerate : PySem.W.nsIn K mainGlobals "enumerate" = some none)
    (z_min : PySem.W.nsIn K mainGlobals "min" = some none)
    (z_max : PySem.W.nsIn K mainGlobals "max" = some none)
    (z_ValueError : PySem.W.nsIn K mainGlobals "ValueError" = some none)
    (aC : PySem.W.nsIn K mainGlobals "Alphabet" = some (some (.ref C)))
    (pgC : PySem.W.plainGet K C Str.empty = true)
    (hdC : PySem.W.hasDictIn K C = true)
    (poC : PySem.W.plainOver K C = true)
    (saC : PySem.W.findIn K (.ref C) "__setattr__" = some (some (.builtin "object.__setattr__")))
    (mkC : PySem.W.makesIn K C = true)
    (kC : PySem.W.keepIn K (.ref C) = true)
    (nC_letters : PySem.W.findIn K (.ref C) "letters" = some none)
    (nC_vowels : PySem.W.findIn K (.ref C) "vowels" = some none)
    (nC_consonants : PySem.W.findIn K (.ref C) "consonants" = some none)
    (nC_signs : PySem.W.findIn K (.ref C) "signs" = some none)
    (ig : PySem.W.specialIn K (.builtin "object.__class__") "__get__" = some (some (.builtin "getset_descriptor.__get__")))
    (it : PySem.W.takesIn K (.builtin "object.__class__") = some true)
    (icC : PySem.W.findIn K (.ref C) "__class__" = some (some (.builtin "object.__class__")))
    (imC : PySem.W.mroIn K C (.type "object") = some true)
    (rdC : PySem.W.readsIn K C (.type "type") = true)
    (gaC : PySem.W.specialIn K (.ref C) "__getattribute__" = some (some (.builtin "type.__getattribute__")))
    (vM : PySem.W.findCls K (.ref C) (.type "type") "MOST" = some (.val (.int 4 tM)))
    (vJ : PySem.W.findCls K (.ref C) (.type "type") "JOINT" = some (.val (.str "-" tJ)))
    (aJ : PySem.W.findIn K (.ref C) "JOINT" = some (some (.str "-" tj2)))
    (gJ : PySem.W.specialIn K (.str "-" tj2) "__get__" = some none)
    (aSL : PySem.W.nsIn K mainGlobals "SMALL_LETTERS" = some (some (.str "abcdefghijklmnopqrstuvwxyz" tl)))
    (lAsc : K.lookup fAsc = some ⟨ocAsc, odAsc, .func (PySem.W.fnOf "are_ascending" "Alphabet.are_ascending" (defArgs sAsc) (defBody sAsc) (defScope sAsc) .none kVAsc dcAsc pmAsc anAsc cdAsc ctAsc), slAsc⟩)
    (cAsc : PySem.W.codeIn K cdAsc "Alphabet.are_ascending" = true)
    (aAsc : PySem.W.findIn K (.ref C) "are_ascending" = some (some (.ref fAsc)))
    (kAsc : PySem.W.keepIn K (.ref fAsc) = true)
    (iAsc : PySem.W.isFn K (.ref fAsc) = true)
    (lSignsOf : K.lookup fSignsOf = some ⟨ocSignsOf, odSignsOf, .func (PySem.W.fnOf "signs_of" "Alphabet.signs_of" (defArgs sSignsOf) (defBody sSignsOf) (defScope sSignsOf) .none kVSignsOf dcSignsOf pmSignsOf anSignsOf cdSignsOf ctSignsOf), slSignsOf⟩)
    (cSignsOf : PySem.W.codeIn K cdSignsOf "Alphabet.signs_of" = true)
    (aSignsOf : PySem.W.findIn K (.ref C) "signs_of" = some (some (.ref fSignsOf)))
    (kSignsOf : PySem.W.keepIn K (.ref fSignsOf) = true)
    (iSignsOf : PySem.W.isFn K (.ref fSignsOf) = true)
    (lIsText : K.lookup fIsText = some ⟨ocIsText, odIsText, .func (PySem.W.fnOf "is_text" "Alphabet.is_text" (defArgs sIsText) (defBody sIsText) (defScope sIsText) .none kVIsText dcIsText pmIsText anIsText cdIsText ctIsText), slIsText⟩)
    (cIsText : PySem.W.codeIn K cdIsText "Alphabet.is_text" = true)
    (aIsText : PySem.W.findIn K (.ref C) "is_text" = some (some (.ref fIsText)))
    (kIsText : PySem.W.keepIn K (.ref fIsText) = true)
    (iIsText : PySem.W.isFn K (.ref fIsText) = true)
    (lCheck : K.lookup fCheck = some ⟨ocCheck, odCheck, .func (PySem.W.fnOf "check" "Alphabet.check" (defArgs sCheck) (defBody sCheck) (defScope sCheck) .none kVCheck dcCheck pmCheck anCheck cdCheck ctCheck), slCheck⟩)
    (cCheck : PySem.W.codeIn K cdCheck "Alphabet.check" = true)
    (aCheck : PySem.W.findIn K (.ref C) "check" = some (some (.ref fCheck)))
    (kCheck : PySem.W.keepIn K (.ref fCheck) = true)
    (iCheck : PySem.W.isFn K (.ref fCheck) = true)
    (lA : K.lookup fA = some ⟨ocA, odA, .func (PySem.W.fnOf "__init__" "Alphabet.__init__" (defArgs sAI) (defBody sAI) (defScope sAI) (.ref TDA) kVA dcA pmA anA cdA ctA), slA⟩)
    (cA : PySem.W.codeIn K cdA "Alphabet.__init__" = true)
    (aA : PySem.W.findIn K (.ref C) "__init__" = some (some (.ref fA)))
    (lDA : K.lookup TDA = some ⟨ocDA, odDA, .seq [Value.str "" tDA].toArray nDA, slDA⟩)
    (kA : PySem.W.keepIn K (.ref fA) = true)
    (iA : PySem.W.isFn K (.ref fA) = true)
    (xTE : K.lookup TE = some (excClassObj nmTE qTE TE NTE bsTE [.type "ValueError", .type "Exception", .type "BaseException", .type "object"] true snTE subTE abTE colTE ddTE m0TE m1TE m2TE m3TE m5TE "ValueError.__new__"))
    (aTE : PySem.W.nsIn K mainGlobals "TaleError" = some (some (.ref TE)))
    (eTE : PySem.W.subIn K (.ref TE) (.type "BaseException") = some true)
    (tTE : PySem.W.typeIn K (.ref TE) = some (.type "type"))
    (hTE : PySem.W.hasDictIn K TE = true)
    (iTE : PySem.W.findIn K (.ref TE) "__init__" = some (some (.builtin "ValueError.__init__")))
    (noT : (l.prog.main.scope.names.lookup ("super" : Str)).isSome = false)
    (noM : PySem.W.nsIn K mainGlobals "super" = some none)
    (anyS : PySem.W.nsIn K cStatics "thirdparty.any" = some none)
    (xBA : K.lookup BA = some (excClassObj nmBA qBA BA NBA bsBA [.ref TE, .type "ValueError", .type "Exception", .type "BaseException", .type "object"] true snBA subBA abBA colBA ddBA m0BA m1BA m2BA m3BA m5BA "ValueError.__new__"))
    (aBA : PySem.W.nsIn K mainGlobals "BadAlphabet" = some (some (.ref BA)))
    (eBA : PySem.W.subIn K (.ref BA) (.type "BaseException") = some true)
    (tBA : PySem.W.typeIn K (.ref BA) = some (.type "type"))
    (hBA : PySem.W.hasDictIn K BA = true)
    (nBA_part : PySem.W.findIn K (.ref BA) "part" = some none)
    (saBA : PySem.W.findIn K (.ref BA) "__setattr__" = some (some (.builtin "object.__setattr__")))
    (gaBA : PySem.W.findIn K (.ref BA) "__getattribute__" = some (some (.builtin "BaseException.__getattribute__")))
    (ggBA : PySem.W.findIn K (.ref BA) "__getattr__" = some none)
    (aFBA : PySem.W.findIn K (.ref BA) "__init__" = some (some (.ref fBA)))
    (tFBA : PySem.W.typeIn K (.ref fBA) = some (.type "function"))
    (lBA : K.lookup fBA = some ⟨ocBA, odBA, .func (PySem.W.ksFn "__init__" "BadAlphabet.__init__" (defArgs sBA) (defBody sBA) (defScope sBA) .none kVBA dcBA pmBA anBA (.ref cdaBA) ctBA ccBA), slBA⟩)
    (cBA : PySem.W.codeIn K (.ref cdaBA) "BadAlphabet.__init__" = true)
    (kBA : PySem.W.keepIn K (.ref BA) = true)
    (lccBA : K.lookup ccBA = some ⟨clccBA, ddccBA, .cell (some (.ref BA)), slccBA⟩)
    (lcdBA : K.lookup cdaBA = some ⟨clcdBA, ddcdBA, .fields vsCBA, slcdBA⟩)
    (hvBA : vsCBA[2]? = some (.str flBA tfBA))
    (hflBA : ((l.prog.main.file : Str) == flBA) = true)
    (mmBA : PySem.W.mroIn K BA (.ref BA) = some true)
    (vBA : PySem.W.subIn K (.ref BA) (.type "ValueError") = some true)
    (xBT : K.lookup BT = some (excClassObj nmBT qBT BT NBT bsBT [.ref TE, .type "ValueError", .type "Exception", .type "BaseException", .type "object"] true snBT subBT abBT colBT ddBT m0BT m1BT m2BT m3BT m5BT "ValueError.__new__"))
    (aBT : PySem.W.nsIn K mainGlobals "BadText" = some (some (.ref BT)))
    (eBT : PySem.W.subIn K (.ref BT) (.type "BaseException") = some true)
    (tBT : PySem.W.typeIn K (.ref BT) = some (.type "type"))
    (hBT : PySem.W.hasDictIn K BT = true)
    (nBT_text : PySem.W.findIn K (.ref BT) "text" = some none)
    (saBT : PySem.W.findIn K (.ref BT) "__setattr__" = some (some (.builtin "object.__setattr__")))
    (gaBT : PySem.W.findIn K (.ref BT) "__getattribute__" = some (some (.builtin "BaseException.__getattribute__")))
    (ggBT : PySem.W.findIn K (.ref BT) "__getattr__" = some none)
    (aFBT : PySem.W.findIn K (.ref BT) "__init__" = some (some (.ref fBT)))
    (tFBT : PySem.W.typeIn K (.ref fBT) = some (.type "function"))
    (lBT : K.lookup fBT = some ⟨ocBT, odBT, .func (PySem.W.ksFn "__init__" "BadText.__init__" (defArgs sBadText) (defBody sBadText) (defScope sBadText) .none kVBT dcBT pmBT anBT (.ref cdaBT) ctBT ccBT), slBT⟩)
    (cBT : PySem.W.codeIn K (.ref cdaBT) "BadText.__init__" = true)
    (kBT : PySem.W.keepIn K (.ref BT) = true)
    (lccBT : K.lookup ccBT = some ⟨clccBT, ddccBT, .cell (some (.ref BT)), slccBT⟩)
    (lcdBT : K.lookup cdaBT = some ⟨clcdBT, ddcdBT, .fields vsCBT, slcdBT⟩)
    (hvBT : vsCBT[2]? = some (.str flBT tfBT))
    (hflBT : ((l.prog.main.file : Str) == flBT) = true)
    (mmBT : PySem.W.mroIn K BT (.ref BT) = some true)
    (vBT : PySem.W.subIn K (.ref BT) (.type "ValueError") = some true)
    (xBN : K.lookup BN = some (excClassObj nmBN qBN BN NBN bsBN [.ref TE, .type "ValueError", .type "Exception", .type "BaseException", .type "object"] true snBN subBN abBN colBN ddBN m0BN m1BN m2BN m3BN m5BN "ValueError.__new__"))
    (aBN : PySem.W.nsIn K mainGlobals "BadSet" = some (some (.ref BN)))
    (eBN : PySem.W.subIn K (.ref BN) (.type "BaseException") = some true)
    (tBN : PySem.W.typeIn K (.ref BN) = some (.type "type"))
    (hBN : PySem.W.hasDictIn K BN = true)
    (nBN_name : PySem.W.findIn K (.ref BN) "name" = some none)
    (saBN : PySem.W.findIn K (.ref BN) "__setattr__" = some (some (.builtin "object.__setattr__")))
    (gaBN : PySem.W.findIn K (.ref BN) "__getattribute__" = some (some (.builtin "BaseException.__getattribute__")))
    (ggBN : PySem.W.findIn K (.ref BN) "__getattr__" = some none)
    (aFBN : PySem.W.findIn K (.ref BN) "__init__" = some (some (.ref fBN)))
    (tFBN : PySem.W.typeIn K (.ref fBN) = some (.type "function"))
    (lBN : K.lookup fBN = some ⟨ocBN, odBN, .func (PySem.W.ksFn "__init__" "BadSet.__init__" (defArgs sBadSet) (defBody sBadSet) (defScope sBadSet) .none kVBN dcBN pmBN anBN (.ref cdaBN) ctBN ccBN), slBN⟩)
    (cBN : PySem.W.codeIn K (.ref cdaBN) "BadSet.__init__" = true)
    (kBN : PySem.W.keepIn K (.ref BN) = true)
    (lccBN : K.lookup ccBN = some ⟨clccBN, ddccBN, .cell (some (.ref BN)), slccBN⟩)
    (lcdBN : K.lookup cdaBN = some ⟨clcdBN, ddcdBN, .fields vsCBN, slcdBN⟩)
    (hvBN : vsCBN[2]? = some (.str flBN tfBN))
    (hflBN : ((l.prog.main.file : Str) == flBN) = true)
    (mmBN : PySem.W.mroIn K BN (.ref BN) = some true)
    (vBN : PySem.W.subIn K (.ref BN) (.type "ValueError") = some true)
    (sBT_TE : PySem.W.subIn K (.ref BT) (.ref TE) = some true)
    (sBN_TE : PySem.W.subIn K (.ref BN) (.ref TE) = some true)
    (sBT_BT : PySem.W.subIn K (.ref BT) (.ref BT) = some true)
    (clBT : PySem.W.isClsIn K BT = true)
    (sBN_BN : PySem.W.subIn K (.ref BN) (.ref BN) = some true)
    (clBN : PySem.W.isClsIn K BN = true)
    (sBA_BA : PySem.W.subIn K (.ref BA) (.ref BA) = some true)
    (clBA : PySem.W.isClsIn K BA = true)
    (sBT_BN : PySem.W.subIn K (.ref BT) (.ref BN) = some false)
    (sBN_BT : PySem.W.subIn K (.ref BN) (.ref BT) = some false)
    (sBT_BA : PySem.W.subIn K (.ref BT) (.ref BA) = some false)
    (sBN_BA : PySem.W.subIn K (.ref BN) (.ref BA) = some false)
    (icBT : PySem.W.findIn K (.ref BT) "__class__" = some (some (.builtin "object.__class__")))
    (imBT : PySem.W.mroIn K BT (.type "object") = some true)
    (icBN : PySem.W.findIn K (.ref BN) "__class__" = some (some (.builtin "object.__class__")))
    (imBN : PySem.W.mroIn K BN (.type "object") = some true) :
    ∃ fd : FuncData, (∀ (s : Shared) (v : Value), BindsTo s fd ⟨[v], []⟩ [("_law_script", v)]) ∧ ∀ base : Heap, K.In base → base.Ns mainGlobals mg → FnOk l.prog w K mg base CX0 7 fa fd ["_law_script"] (spLaw K) := by
  have e := hfa.symm.trans (PySem.W.mg_of X G aLaw)
  cases e
  have gm : ∀ {n : Str} {v : Value}, PySem.W.nsIn K mainGlobals n = some (some v) → mg n = some v := fun e => PySem.W.mg_of X G e
  have gn : ∀ {n : Str}, PySem.W.nsIn K mainGlobals n = some none → mg n = none := fun e => PySem.W.mg_none_of X G e
  have FDiff := fun_mk (st := sDiff) lDiff cDiff kDiff
  have bDiff := FDiff.binds (ps := ["text", "allowed"]) fun _ _ _ _ _ _ us hl => match us, hl with | [_, _], _ => rfl
  have FPShortlex := fun_mk (st := sPShortlex) lPShortlex cPShortlex kPShortlex
  have bPShortlex := FPShortlex.binds (ps := ["texts"]) fun _ _ _ _ _ _ us hl => match us, hl with | [_], _ => rfl
  have FPKindAfter := fun_mk (st := sPKindAfter) lPKindAfter cPKindAfter kPKindAfter
  have bPKindAfter := FPKindAfter.binds (ps := ["text"]) fun _ _ _ _ _ _ us hl => match us, hl with | [_], _ => rfl
  have FBox := fun_mk (st := sBox) lBox cBox kBox
  have bBox := FBox.binds (ps := ["_law_script", "_law_k"]) fun _ _ _ _ _ _ us hl => match us, hl with | [_, _], _ => rfl
  have FTake := fun_mk (st := sTake) lTake cTake kTake
  have bTake := FTake.binds (ps := ["_law_box_here", "_law_size"]) fun _ _ _ _ _ _ us hl => match us, hl with | [_, _], _ => rfl
  have FPick := fun_mk (st := sPick) lPick cPick kPick
  have bPick := FPick.binds (ps := ["_law_box_here", "_law_string", "_law_many"]) fun _ _ _ _ _ _ us hl => match us, hl with | [_, _, _], _ => rfl
  have FChar := fun_mk (st := sChar) lChar cChar kChar
  have bChar := FChar.binds (ps := ["_law_box_here"]) fun _ _ _ _ _ _ us hl => match us, hl with | [_], _ => rfl
  have FChanged := fun_mk (st := sChanged) lChanged cChanged kChanged
  have bChanged := FChanged.binds (ps := ["_law_box_here", "_law_string"]) fun _ _ _ _ _ _ us hl => match us, hl with | [_, _], _ => rfl
  have FName := fun_mk (st := sName) lName cName kName
  have bName := FName.binds (ps := ["_law_box_here", "_law_signs"]) fun _ _ _ _ _ _ us hl => match us, hl with | [_, _], _ => rfl
  have FSet := fun_mk (st := sSet) lSet cSet kSet
  have bSet := FSet.binds (ps := ["_law_name_here", "_law_letters", "_law_vowels"]) fun _ _ _ _ _ _ us hl => match us, hl with | [_, _, _], _ => rfl
  have FToldSet := fun_mk (st := sToldSet) lToldSet cToldSet kToldSet
  have bToldSet := FToldSet.binds (ps := ["_law_alphabet", "_law_name_here"]) fun _ _ _ _ _ _ us hl => match us, hl with | [_, _], _ => rfl
  have FChecked := fun_mk (st := sChecked) lChecked cChecked kChecked
  have bChecked := FChecked.binds (ps := ["_law_alphabet", "_law_text_here"]) fun _ _ _ _ _ _ us hl => match us, hl with | [_, _], _ => rfl
  have FText := fun_mk (st := sText) lText cText kText
  have bText := FText.binds (ps := ["_law_box_here", "_law_signs", "_law_few", "_law_many"]) fun _ _ _ _ _ _ us hl => match us, hl with | [_, _, _, _], _ => rfl
  have FTexts := fun_mk (st := sTexts) lTexts cTexts kTexts
  have bTexts := FTexts.binds (ps := ["_law_box_here", "_law_signs"]) fun _ _ _ _ _ _ us hl => match us, hl with | [_, _], _ => rfl
  have FBefore := fun_mk (st := sBefore) lBefore cBefore kBefore
  have bBefore := FBefore.binds (ps := ["_law_signs", "_law_one", "_law_other"]) fun _ _ _ _ _ _ us hl => match us, hl with | [_, _, _], _ => rfl
  have FEachOnce := fun_mk (st := sEachOnce) lEachOnce cEachOnce kEachOnce
  have bEachOnce := FEachOnce.binds (ps := ["_law_signs", "_law_texts_here", "_law_told"]) fun _ _ _ _ _ _ us hl => match us, hl with | [_, _, _], _ => rfl
  have FKind := fun_mk (st := sKind) lKind cKind kKind
  have bKind := FKind.binds (ps := ["_law_text_here"]) fun _ _ _ _ _ _ us hl => match us, hl with | [_], _ => rfl
  have FStrings := fun_mk (st := sStrings) lStrings cStrings kStrings
  have bStrings := FStrings.binds (ps := ["_law_script", "_law_pairs", "_law_alphabets", "_law_signs"]) fun _ _ _ _ _ _ us hl => match us, hl with | [_, _, _, _], _ => rfl
  have FLists := fun_mk (st := sLists) lLists cLists kLists
  have bLists := FLists.binds (ps := ["_law_box_here", "_law_signs"]) fun _ _ _ _ _ _ us hl => match us, hl with | [_, _], _ => rfl
  have FLaw := fun_mk (st := sLaw) lLaw cLaw kLaw
  have bLaw := FLaw.binds (ps := ["_law_script"]) fun _ _ _ _ _ _ us hl => match us, hl with | [_], _ => rfl
  have FAsc := fun_mk (st := sAsc) lAsc cAsc kAsc
  have bAsc := FAsc.binds (ps := ["self", "text"]) fun _ _ _ _ _ _ us hl => match us, hl with | [_, _], _ => rfl
  have FSignsOf := fun_mk (st := sSignsOf) lSignsOf cSignsOf kSignsOf
  have bSignsOf := FSignsOf.binds (ps := ["self", "name"]) fun _ _ _ _ _ _ us hl => match us, hl with | [_, _], _ => rfl
  have FIsText := fun_mk (st := sIsText) lIsText cIsText kIsText
  have bIsText := FIsText.binds (ps := ["self", "text"]) fun _ _ _ _ _ _ us hl => match us, hl with | [_, _], _ => rfl
  have FCheck := fun_mk (st := sCheck) lCheck cCheck kCheck
  have bCheck := FCheck.binds (ps := ["self", "text"]) fun _ _ _ _ _ _ us hl => match us, hl with | [_, _], _ => rfl
  have FA : FunD K "__init__" "Alphabet.__init__" (defArgs sAI) (defBody sAI) (defScope sAI) [.str ""] [] fA (PySem.W.fnOf "__init__" "Alphabet.__init__" (defArgs sAI) (defBody sAI) (defScope sAI) (.ref TDA) kVA dcA pmA anA cdA ctA) :=
    ⟨⟨_, _, _, _, _, _, _, _, _, _, rfl, lA, cA, .inr ⟨by simp, TDA, _, [Value.str "" tDA], nDA, rfl, lDA, rfl, .cons ⟨_, rfl⟩ .nil⟩, .inl rfl⟩, kA⟩
  obtain ⟨d0A, v0A, bA⟩ := FA.binds1 (ps := ["self", "letters", "vowels"]) 3 1 (by simp) rfl fun T kV doc pm an cdv ct us its h1 h2 => match us, its, h1, h2 with | [_, _, _], [_], _, _ => ⟨_, rfl, rfl⟩
  have ed0A : d0A = [] := by
    cases v0A
    rfl
  subst ed0A
  have OXBA : OexC K BA := ⟨⟨_, _, _, _, _, _, _, _, _, _, _, _, _, _, _, xBA, rfl⟩, saBA, eBA, tBA, kBA⟩
  have supBA : PySem.W.ks_superIn K BA BA "__init__" = some (some (.builtin "ValueError.__init__")) := by
    have hcl : PySem.W.clsIn K BA = some { name := nmBA, bases := bsBA, mro := .ref BA :: [.ref TE, .type "ValueError", .type "Exception", .type "BaseException", .type "object"], ns := NBA, qualname := qBA, hasDict := true, slotNames := snBA, subclasses := subBA, abstract := abBA, collection := colBA, hasDel := false } := by
      unfold PySem.W.clsIn
      rw [xBA] <;> rfl
    unfold PySem.W.ks_superIn
    rw [hcl]
    have e1 : PySem.W.findIn K (.ref TE) "__init__" = PySem.W.alongIn K "__init__" [.ref TE, .type "ValueError", .type "Exception", .type "BaseException", .type "object"] := by
      unfold PySem.W.findIn
      simp only [xTE]
    rw [← iTE, e1]
    show PySem.W.alongIn K "__init__" (((Value.ref BA :: [.ref TE, .type "ValueError", .type "Exception", .type "BaseException", .type "object"]).dropWhile (· != .ref BA)).drop 1) = _
    have hb : (Value.ref BA != .ref BA) = false := by simp
    rw [List.dropWhile_cons, hb]
    rfl
  have SCBA : SupC l.prog K mg BA ccBA cdaBA := ⟨OXBA, ⟨_, _, _, lccBA⟩, ⟨_, _, _, _, _, _, lcdBA, hvBA, hflBA⟩, mmBA, supBA, vBA, noT, gn noM, anyS⟩
  have bBA : Binds K (PySem.W.ksFn "__init__" "BadAlphabet.__init__" (defArgs sBA) (defBody sBA) (defScope sBA) .none kVBA dcBA pmBA anBA (.ref cdaBA) ctBA ccBA) ["self", "part"] [] := Binds.all fun us hl => match us, hl with | [_, _], _ => rfl
  have OXBT : OexC K BT := ⟨⟨_, _, _, _, _, _, _, _, _, _, _, _, _, _, _, xBT, rfl⟩, saBT, eBT, tBT, kBT⟩
  have supBT : PySem.W.ks_superIn K BT BT "__init__" = some (some (.builtin "ValueError.__init__")) := by
    have hcl : PySem.W.clsIn K BT = some { name := nmBT, bases := bsBT, mro := .ref BT :: [.ref TE, .type "ValueError", .type "Exception", .type "BaseException", .type "object"], ns := NBT, qualname := qBT, hasDict := true, slotNames := snBT, subclasses := subBT, abstract := abBT, collection := colBT, hasDel := false } := by
      unfold PySem.W.clsIn
      rw [xBT] <;> rfl
    unfold PySem.W.ks_superIn
    rw [hcl]
    have e1 : PySem.W.findIn K (.ref TE) "__init__" = PySem.W.alongIn K "__init__" [.ref TE, .type "ValueError", .type "Exception", .type "BaseException", .type "object"] := by
      unfold PySem.W.findIn
      simp only [xTE]
    rw [← iTE, e1]
    show PySem.W.alongIn K "__init__" (((Value.ref BT :: [.ref TE, .type "ValueError", .type "Exception", .type "BaseException", .type "object"]).dropWhile (· != .ref BT)).drop 1) = _
    have hb : (Value.ref BT != .ref BT) = false := by simp
    rw [List.dropWhile_cons, hb]
    rfl
  have SCBT : SupC l.prog K mg BT ccBT cdaBT := ⟨OXBT, ⟨_, _, _, lccBT⟩, ⟨_, _, _, _, _, _, lcdBT, hvBT, hflBT⟩, mmBT, supBT, vBT, noT, gn noM, anyS⟩
  have bBT : Binds K (PySem.W.ksFn "__init__" "BadText.__init__" (defArgs sBadText) (defBody sBadText) (defScope sBadText) .none kVBT dcBT pmBT anBT (.ref cdaBT) ctBT ccBT) ["self", "text"] [] := Binds.all fun us hl => match us, hl with | [_, _], _ => rfl
  have OXBN : OexC K BN := ⟨⟨_, _, _, _, _, _, _, _, _, _, _, _, _, _, _, xBN, rfl⟩, saBN, eBN, tBN, kBN⟩
  have supBN : PySem.W.ks_superIn K BN BN "__init__" = some (some (.builtin "ValueError.__init__")) := by
    have hcl : PySem.W.clsIn K BN = some { name := nmBN, bases := bsBN, mro := .ref BN :: [.ref TE, .type "ValueError", .type "Exception", .type "BaseException", .type "object"], ns := NBN, qualname := qBN, hasDict := true, slotNames := snBN, subclasses := subBN, abstract := abBN, collection := colBN, hasDel := false } := by
      unfold PySem.W.clsIn
      rw [xBN] <;> rfl
    unfold PySem.W.ks_superIn
    rw [hcl]
    have e1 : PySem.W.findIn K (.ref TE) "__init__" = PySem.W.alongIn K "__init__" [.ref TE, .type "ValueError", .type "Exception", .type "BaseException", .type "object"] := by
      unfold PySem.W.findIn
      simp only [xTE]
    rw [← iTE, e1]
    show PySem.W.alongIn K "__init__" (((Value.ref BN :: [.ref TE, .type "ValueError", .type "Exception", .type "BaseException", .type "object"]).dropWhile (· != .ref BN)).drop 1) = _
    have hb : (Value.ref BN != .ref BN) = false := by simp
    rw [List.dropWhile_cons, hb]
    rfl
  have SCBN : SupC l.prog K mg BN ccBN cdaBN := ⟨OXBN, ⟨_, _, _, lccBN⟩, ⟨_, _, _, _, _, _, lcdBN, hvBN, hflBN⟩, mmBN, supBN, vBN, noT, gn noM, anyS⟩
  have bBN : Binds K (PySem.W.ksFn "__init__" "BadSet.__init__" (defArgs sBadSet) (defBody sBadSet) (defScope sBadSet) .none kVBN dcBN pmBN anBN (.ref cdaBN) ctBN ccBN) ["self", "name"] [] := Binds.all fun us hl => match us, hl with | [_, _], _ => rfl
  have EBT : EF K mg "BadText" BT fBT (PySem.W.ksFn "__init__" "BadText.__init__" (defArgs sBadText) (defBody sBadText) (defScope sBadText) .none kVBT dcBT pmBT anBT (.ref cdaBT) ctBT ccBT) ["self", "text"] := ⟨OXBT, aFBT, tFBT, gm aBT, bBT⟩
  have EBN : EF K mg "BadSet" BN fBN (PySem.W.ksFn "__init__" "BadSet.__init__" (defArgs sBadSet) (defBody sBadSet) (defScope sBadSet) .none kVBN dcBN pmBN anBN (.ref cdaBN) ctBN ccBN) ["self", "name"] := ⟨OXBN, aFBN, tFBN, gm aBN, bBN⟩
  have T : Fns K mg ⟨fDiff, fAsc, fSignsOf, fIsText, fCheck, fPShortlex, fPKindAfter, fBox, fTake, fPick, fChar, fChanged, fName, fSet, fToldSet, fChecked, fText, fTexts, fBefore, fEachOnce, fKind, fStrings, fLists, fa, C, TE, BT, fBT, BN, fBN, BA, tj2⟩
      ⟨(PySem.W.fnOf "differ_within" "differ_within" (defArgs sDiff) (defBody sDiff) (defScope sDiff) .none kVDiff dcDiff pmDiff anDiff cdDiff ctDiff), (PySem.W.fnOf "are_ascending" "Alphabet.are_ascending" (defArgs sAsc) (defBody sAsc) (defScope sAsc) .none kVAsc dcAsc pmAsc anAsc cdAsc ctAsc), (PySem.W.fnOf "signs_of" "Alphabet.signs_of" (defArgs sSignsOf) (defBody sSignsOf) (defScope sSignsOf) .none kVSignsOf dcSignsOf pmSignsOf anSignsOf cdSignsOf ctSignsOf), (PySem.W.fnOf "is_text" "Alphabet.is_text" (defArgs sIsText) (defBody sIsText) (defScope sIsText) .none kVIsText dcIsText pmIsText anIsText cdIsText ctIsText), (PySem.W.fnOf "check" "Alphabet.check" (defArgs sCheck) (defBody sCheck) (defScope sCheck) .none kVCheck dcCheck pmCheck anCheck cdCheck ctCheck), (PySem.W.fnOf "shortlex" "shortlex" (defArgs sPShortlex) (defBody sPShortlex) (defScope sPShortlex) .none kVPShortlex dcPShortlex pmPShortlex anPShortlex cdPShortlex ctPShortlex), (PySem.W.fnOf "kind_after" "kind_after" (defArgs sPKindAfter) (defBody sPKindAfter) (defScope sPKindAfter) .none kVPKindAfter dcPKindAfter pmPKindAfter anPKindAfter cdPKindAfter ctPKindAfter), (PySem.W.fnOf "_law_box" "_law_box" (defArgs sBox) (defBody sBox) (defScope sBox) .none kVBox dcBox pmBox anBox cdBox ctBox), (PySem.W.fnOf "_law_take" "_law_take" (defArgs sTake) (defBody sTake) (defScope sTake) .none kVTake dcTake pmTake anTake cdTake ctTake), (PySem.W.fnOf "_law_pick" "_law_pick" (defArgs sPick) (defBody sPick) (defScope sPick) .none kVPick dcPick pmPick anPick cdPick ctPick), (PySem.W.fnOf "_law_char" "_law_char" (defArgs sChar) (defBody sChar) (defScope sChar) .none kVChar dcChar pmChar anChar cdChar ctChar), (PySem.W.fnOf "_law_changed" "_law_changed" (defArgs sChanged) (defBody sChanged) (defScope sChanged) .none kVChanged dcChanged pmChanged anChanged cdChanged ctChanged), (PySem.W.fnOf "_law_name" "_law_name" (defArgs sName) (defBody sName) (defScope sName) .none kVName dcName pmName anName cdName ctName), (PySem.W.fnOf "_law_set" "_law_set" (defArgs sSet) (defBody sSet) (defScope sSet) .none kVSet dcSet pmSet anSet cdSet ctSet), (PySem.W.fnOf "_law_told_set" "_law_told_set" (defArgs sToldSet) (defBody sToldSet) (defScope sToldSet) .none kVToldSet dcToldSet pmToldSet anToldSet cdToldSet ctToldSet), (PySem.W.fnOf "_law_checked" "_law_checked" (defArgs sChecked) (defBody sChecked) (defScope sChecked) .none kVChecked dcChecked pmChecked anChecked cdChecked ctChecked), (PySem.W.fnOf "_law_text" "_law_text" (defArgs sText) (defBody sText) (defScope sText) .none kVText dcText pmText anText cdText ctText), (PySem.W.fnOf "_law_texts" "_law_texts" (defArgs sTexts) (defBody sTexts) (defScope sTexts) .none kVTexts dcTexts pmTexts anTexts cdTexts ctTexts), (PySem.W.fnOf "_law_before" "_law_before" (defArgs sBefore) (defBody sBefore) (defScope sBefore) .none kVBefore dcBefore pmBefore anBefore cdBefore ctBefore), (PySem.W.fnOf "_law_each_once" "_law_each_once" (defArgs sEachOnce) (defBody sEachOnce) (defScope sEachOnce) .none kVEachOnce dcEachOnce pmEachOnce anEachOnce cdEachOnce ctEachOnce), (PySem.W.fnOf "_law_kind" "_law_kind" (defArgs sKind) (defBody sKind) (defScope sKind) .none kVKind dcKind pmKind anKind cdKind ctKind), (PySem.W.fnOf "_law_strings" "_law_strings" (defArgs sStrings) (defBody sStrings) (defScope sStrings) .none kVStrings dcStrings pmStrings anStrings cdStrings ctStrings), (PySem.W.fnOf "_law_lists" "_law_lists" (defArgs sLists) (defBody sLists) (defScope sLists) .none kVLists dcLists pmLists anLists cdLists ctLists), (PySem.W.fnOf "law" "law" (defArgs sLaw) (defBody sLaw) (defScope sLaw) .none kVLaw dcLaw pmLaw anLaw cdLaw ctLaw), (PySem.W.ksFn "__init__" "BadText.__init__" (defArgs sBadText) (defBody sBadText) (defScope sBadText) .none kVBT dcBT pmBT anBT (.ref cdaBT) ctBT ccBT), (PySem.W.ksFn "__init__" "BadSet.__init__" (defArgs sBadSet) (defBody sBadSet) (defScope sBadSet) .none kVBN dcBN pmBN anBN (.ref cdaBN) ctBN ccBN)⟩ :=
    { z_len := gn z_len, z_set := gn z_set, z_all := gn z_all, z_abs := gn z_abs, z_int := gn z_int, z_range := gn z_range, z_sorted := gn z_sorted, z_isinstance := gn z_isinstance, z_str := gn z_str, z_bool := gn z_bool, z_list := gn z_list, z_tuple := gn z_tuple, z_any := gn z_any, z_enum := gn z_enumerate, z_min := gn z_min, z_max := gn z_max, z_VE := gn z_ValueError,
      gDiff := gm aDiff, FDiff := FDiff, bDiff := bDiff,
      mAsc := ⟨aAsc, iAsc, kAsc⟩, FAsc := FAsc, bAsc := bAsc,
      mSignsOf := ⟨aSignsOf, iSignsOf, kSignsOf⟩, FSignsOf := FSignsOf, bSignsOf := bSignsOf,
      mIsText := ⟨aIsText, iIsText, kIsText⟩, FIsText := FIsText, bIsText := bIsText,
      mCheck := ⟨aCheck, iCheck, kCheck⟩, FCheck := FCheck, bCheck := bCheck,
      gPShortlex := gm aPShortlex, FPShortlex := FPShortlex, bPShortlex := bPShortlex,
      gPKindAfter := gm aPKindAfter, FPKindAfter := FPKindAfter, bPKindAfter := bPKindAfter,
      gBox := gm aBox, FBox := FBox, bBox := bBox,
      gTake := gm aTake, FTake := FTake, bTake := bTake,
      gPick := gm aPick, FPick := FPick, bPick := bPick,
      gChar := gm aChar, FChar := FChar, bChar := bChar,
      gChanged := gm aChanged, FChanged := FChanged, bChanged := bChanged,
      gName := gm aName, FName := FName, bName := bName,
      gSet := gm aSet, FSet := FSet, bSet := bSet,
      gToldSet := gm aToldSet, FToldSet := FToldSet, bToldSet := bToldSet,
      gChecked := gm aChecked, FChecked := FChecked, bChecked := bChecked,
      gText := gm aText, FText := FText, bText := bText,
      gTexts := gm aTexts, FTexts := FTexts, bTexts := bTexts,
      gBefore := gm aBefore, FBefore := FBefore, bBefore := bBefore,
      gEachOnce := gm aEachOnce, FEachOnce := FEachOnce, bEachOnce := bEachOnce,
      gKind := gm aKind, FKind := FKind, bKind := bKind,
      gStrings := gm aStrings, FStrings := FStrings, bStrings := bStrings,
      gLists := gm aLists, FLists := FLists, bLists := bLists,
      gLaw := gm aLaw, FLaw := FLaw, bLaw := bLaw,
      gcTaleError := gm aTE,
      gcBadAlph := gm aBA,
      xBadText := EBT,
      xBadSet := EBN,
      clA := ⟨pgC, hdC, poC, saC⟩,
      nL := nC_letters,
      nV := nC_vowels,
      nC := nC_consonants,
      nS := nC_signs,
      joint := ⟨aJ, ⟨_, by rw [show S [45] = PySem.Str.ofString "-" by decide +kernel]⟩, gJ, by decide +kernel⟩ }
  have A : AlF K C := ⟨⟨pgC, hdC, poC, saC⟩, nC_letters, nC_vowels, nC_consonants, nC_signs, icC, ig, it, imC⟩
  have AV : AlV K mg C (.type "type") tM tJ tl := ⟨gm aC, by rw [← az_S]; exact gm aSL, ⟨rdC, gaC⟩, ⟨vM, ⟨_, rfl⟩⟩, ⟨vJ, ⟨_, rfl⟩⟩⟩
  have BA' : BaF l.prog K mg BA fBA := ⟨OXBA, aFBA, tFBA, gm aBA⟩
  have XBT : ErrX K (⟨fDiff, fAsc, fSignsOf, fIsText, fCheck, fPShortlex, fPKindAfter, fBox, fTake, fPick, fChar, fChanged, fName, fSet, fToldSet, fChecked, fText, fTexts, fBefore, fEachOnce, fKind, fStrings, fLists, fa, C, TE, BT, fBT, BN, fBN, BA, tj2⟩ : Ad) BT BN "text" := ⟨⟨gaBT, ggBT, eBT, hBT⟩, nBT_text, ⟨gaBT, ggBT, eBT, hBT, icBT, ig, it, imBT⟩, PySem.W.exm_ref eTE hTE tTE sBT_TE, kit_own, by
        unfold PySem.W.kitOne
        have hne : (Value.ref BT == Value.type "ValueError") = false := beq_eq_false_iff_ne.mpr fun e => by cases e
        rw [hne, if_neg Bool.false_ne_true]
        show (if PySem.W.kitMeta "ValueError" = true then PySem.W.subIn K (.ref BT) (.type "ValueError") else none) = _
        rw [if_pos (by decide +kernel), vBT],
      kit_any2 (kit_of clBN tBN sBT_BN sBN_BN) (kit_of clBA tBA sBT_BA sBA_BA)⟩
  have XBN : ErrX K (⟨fDiff, fAsc, fSignsOf, fIsText, fCheck, fPShortlex, fPKindAfter, fBox, fTake, fPick, fChar, fChanged, fName, fSet, fToldSet, fChecked, fText, fTexts, fBefore, fEachOnce, fKind, fStrings, fLists, fa, C, TE, BT, fBT, BN, fBN, BA, tj2⟩ : Ad) BN BT "name" := ⟨⟨gaBN, ggBN, eBN, hBN⟩, nBN_name, ⟨gaBN, ggBN, eBN, hBN, icBN, ig, it, imBN⟩, PySem.W.exm_ref eTE hTE tTE sBN_TE, kit_own, by
        unfold PySem.W.kitOne
        have hne : (Value.ref BN == Value.type "ValueError") = false := beq_eq_false_iff_ne.mpr fun e => by cases e
        rw [hne, if_neg Bool.false_ne_true]
        show (if PySem.W.kitMeta "ValueError" = true then PySem.W.subIn K (.ref BN) (.type "ValueError") else none) = _
        rw [if_pos (by decide +kernel), vBN],
      kit_any2 (kit_of clBT tBT sBN_BT sBT_BT) (kit_of clBA tBA sBN_BA sBA_BA)⟩
  refine ⟨PySem.W.fnOf "law" "law" (defArgs sLaw) (defBody sLaw) (defScope sLaw) .none kVLaw dcLaw pmLaw anLaw cdLaw ctLaw, fun s v => .of_eq rfl, fun base _ _ => ?_⟩
  have GA := ok_alph (P := l.prog) (w := w) (base := base) FA T.toTxA A AV BA' FDiff bDiff (ok_ba SCBA nBA_part lBA cBA) bBA
  have GBT : FnOk l.prog w K mg base CX0 1 fBT (PySem.W.ksFn "__init__" "BadText.__init__" (defArgs sBadText) (defBody sBadText) (defScope sBadText) .none kVBT dcBT pmBT anBT (.ref cdaBT) ctBT ccBT) ["self", "text"] (spErr BT "text") := ok_eBadText SCBT nBT_text lBT cBT
  have GBN : FnOk l.prog w K mg base CX0 1 fBN (PySem.W.ksFn "__init__" "BadSet.__init__" (defArgs sBadSet) (defBody sBadSet) (defScope sBadSet) .none kVBN dcBN pmBN anBN (.ref cdaBN) ctBN ccBN) ["self", "name"] (spErr BN "name") := ok_eBadSet SCBN nBN_name lBN cBN
  exact ok_law T A AV ⟨mkC, aA, iA, kC⟩ GA bA XBN XBT GBT GBN
theorem walk {l : PySem.W.OpenLaw} {q : Program} {loose : List Str} {XP : (Str → Option Value) → Heap → Prop} {YP : World → Heap → Prop} {d : DefRec} {K : Params → PySem.W.Frag} (hn : l.most = some 63) (hdf : d.params.defaults = [])
    (hY : ∀ (w : World) (h : Heap), YP w h → (K w.params).In h)
    (F : ∀ (w : World) (mg : Str → Option Value) (fa : Addr) (h : Heap), (K w.params).In h → h.Ns mainGlobals mg → mg d.name = some (.ref fa) →
      ∃ fd : FuncData, (∀ (s : Shared) (u : Value), BindsTo s fd ⟨[u], []⟩ [("_law_script", u)]) ∧ ∀ base : Heap, (K w.params).In base → base.Ns mainGlobals mg → FnOk l.prog w (K w.params) mg base CX0 7 fa fd ["_law_script"] (spLaw (K w.params))) :
    PySem.W.WalkO q loose XP YP l.row.toRowW d [] (fun f vs => PySem.call f vs) :=
  L2.walk_of (n := 63) (k := 7) (x := "_law_script") (CX := fun _ => CX0) (sp := fun w => spLaw (K w.params)) hn (by decide) hdf ⟨rfl, by decide, by decide⟩ hY F (fun _ _ a ns hl _ hS => ⟨a, ns, rfl, hS, hl, fun _ => rfl⟩) fun _ _ _ _ _ z => z
end
end Vk
set_option Elab.async false
open PySem PySem.W PyProof.Rows
set_option maxRecDepth 100000 in
set_option maxHeartbeats 0 in
theorem PySem.Challenge.cw_talepost_k01_texts_and_sets_holds : PySem.Challenge.rw_talepost_k01_texts_and_sets.Holds := by
  w_on; o_law; k_head; (case hw => w_witness2)
  k_fill
  refine Vk.walk (l := PySem.Challenge.rw_talepost_k01_texts_and_sets) rfl rfl (fun w h Y => PySem.W.kIn_of Y) ?F
  case F =>
    intro w mg fa h KX G hmg
    refine' Vk.all_mk KX G hmg ?lDiff ?cDiff ?aDiff ?kDiff ?lPShortlex ?cPShortlex ?aPShortlex ?kPShortlex ?lPKindAfter ?cPKindAfter ?aPKindAfter ?kPKindAfter ?lBox ?cBox ?aBox ?kBox ?lTake ?cTake ?aTake ?kTake ?lPick ?cPick ?aPick ?kPick ?lChar ?cChar ?aChar ?kChar ?lChanged ?cChanged ?aChanged ?kChanged ?lName ?cName ?aName ?kName ?lSet ?cSet ?aSet ?kSet ?lToldSet ?cToldSet ?aToldSet ?kToldSet ?lChecked ?cChecked ?aChecked ?kChecked ?lText ?cText ?aText ?kText ?lTexts ?cTexts ?aTexts ?kTexts ?lBefore ?cBefore ?aBefore ?kBefore ?lEachOnce ?cEachOnce ?aEachOnce ?kEachOnce ?lKind ?cKind ?aKind ?kKind ?lStrings ?cStrings ?aStrings ?kStrings ?lLists ?cLists ?aLists ?kLists ?lLaw ?cLaw ?aLaw ?kLaw ?z_len ?z_set ?z_all ?z_abs ?z_int ?z_range ?z_sorted ?z_isinstance ?z_str ?z_bool ?z_list ?z_tuple ?z_any ?z_enumerate ?z_min ?z_max ?z_ValueError ?aC ?pgC ?hdC ?poC ?saC ?mkC ?kC ?nC_letters ?nC_vowels ?nC_consonants ?nC_signs ?ig ?it ?icC ?imC ?rdC ?gaC ?vM ?vJ ?aJ ?gJ ?aSL ?lAsc ?cAsc ?aAsc ?kAsc ?iAsc ?lSignsOf ?cSignsOf ?aSignsOf ?kSignsOf ?iSignsOf ?lIsText ?cIsText ?aIsText ?kIsText ?iIsText ?lCheck ?cCheck ?aCheck ?kCheck ?iCheck ?lA ?cA ?aA ?lDA ?kA ?iA ?xTE ?aTE ?eTE ?tTE ?hTE ?iTE ?noT ?noM ?anyS ?xBA ?aBA ?eBA ?tBA ?hBA ?nBA_part ?saBA ?gaBA ?ggBA ?aFBA ?tFBA ?lBA ?cBA ?kBA ?lccBA ?lcdBA ?hvBA ?hflBA ?mmBA ?vBA ?xBT ?aBT ?eBT ?tBT ?hBT ?nBT_text ?saBT ?gaBT ?ggBT ?aFBT ?tFBT ?lBT ?cBT ?kBT ?lccBT ?lcdBT ?hvBT ?hflBT ?mmBT ?vBT ?xBN ?aBN ?eBN ?tBN ?hBN ?nBN_name ?saBN ?gaBN ?ggBN ?aFBN ?tFBN ?lBN ?cBN ?kBN ?lccBN ?lcdBN ?hvBN ?hflBN ?mmBN ?vBN ?sBT_TE ?sBN_TE ?sBT_BT ?clBT ?sBN_BN ?clBN ?sBA_BA ?clBA ?sBT_BN ?sBN_BT ?sBT_BA ?sBN_BA ?icBT ?imBT ?icBN ?imBN
    (case aDiff => k_is)
    (case aPShortlex => k_is)
    (case aPKindAfter => k_is)
    (case aBox => k_is)
    (case aTake => k_is)
    (case aPick => k_is)
    (case aChar => k_is)
    (case aChanged => k_is)
    (case aName => k_is)
    (case aSet => k_is)
    (case aToldSet => k_is)
    (case aChecked => k_is)
    (case aText => k_is)
    (case aTexts => k_is)
    (case aBefore => k_is)
    (case aEachOnce => k_is)
    (case aKind => k_is)
    (case aStrings => k_is)
    (case aLists => k_is)
    (case aLaw => k_is)
    (case z_len => k_is)
    (case z_set => k_is)
    (case z_all => k_is)
    (case z_abs => k_is)
    (case z_int => k_is)
    (case z_range => k_is)
    (case z_sorted => k_is)
    (case z_isinstance => k_is)
    (case z_str => k_is)
    (case z_bool => k_is)
    (case z_list => k_is)
    (case z_tuple => k_is)
    (case z_any => k_is)
    (case z_enumerate => k_is)
    (case z_min => k_is)
    (case z_max => k_is)
    (case z_ValueError => k_is)
    (case aC => k_is)
    (case aSL => k_is)
    (case aTE => k_is)
    (case noM => k_is)
    (case aBA => k_is)
    (case aBT => k_is)
    (case aBN => k_is)
    (case aAsc => k_is)
    (case aSignsOf => k_is)
    (case aIsText => k_is)
    (case aCheck => k_is)
    (case aA => k_is)
    (case aFBA => k_is)
    (case aFBT => k_is)
    (case aFBN => k_is)
    (case lDiff => k_is)
    (case cDiff => k_is)
    (case kDiff => k_is)
    (case lPShortlex => k_is)
    (case cPShortlex => k_is)
    (case kPShortlex => k_is)
    (case lPKindAfter => k_is)
    (case cPKindAfter => k_is)
    (case kPKindAfter => k_is)
    (case lBox => k_is)
    (case cBox => k_is)
    (case kBox => k_is)
    (case lTake => k_is)
    (case cTake => k_is)
    (case kTake => k_is)
    (case lPick => k_is)
    (case cPick => k_is)
    (case kPick => k_is)
    (case lChar => k_is)
    (case cChar => k_is)
    (case kChar => k_is)
    (case lChanged => k_is)
    (case cChanged => k_is)
    (case kChanged => k_is)
    (case lName => k_is)
    (case cName => k_is)
    (case kName => k_is)
    (case lSet => k_is)
    (case cSet => k_is)
    (case kSet => k_is)
    (case lToldSet => k_is)
    (case cToldSet => k_is)
    (case kToldSet => k_is)
    (case lChecked => k_is)
    (case cChecked => k_is)
    (case kChecked => k_is)
    (case lText => k_is)
    (case cText => k_is)
    (case kText => k_is)
    (case lTexts => k_is)
    (case cTexts => k_is)
    (case kTexts => k_is)
    (case lBefore => k_is)
    (case cBefore => k_is)
    (case kBefore => k_is)
    (case lEachOnce => k_is)
    (case cEachOnce => k_is)
    (case kEachOnce => k_is)
    (case lKind => k_is)
    (case cKind => k_is)
    (case kKind => k_is)
    (case lStrings => k_is)
    (case cStrings => k_is)
    (case kStrings => k_is)
    (case lLists => k_is)
    (case cLists => k_is)
    (case kLists => k_is)
    (case lLaw => k_is)
    (case cLaw => k_is)
    (case kLaw => k_is)
    (case pgC => k_is)
    (case hdC => k_is)
    (case poC => k_is)
    (case saC => k_is)
    (case mkC => k_is)
    (case kC => k_is)
    (case nC_letters => k_is)
    (case nC_vowels => k_is)
    (case nC_consonants => k_is)
    (case nC_signs => k_is)
    (case ig => k_is)
    (case it => k_is)
    (case icC => k_is)
    (case imC => k_is)
    (case rdC => k_is)
    (case gaC => k_is)
    (case vM => k_is)
    (case vJ => k_is)
    (case aJ => k_is)
    (case gJ => k_is)
    (case lAsc => k_is)
    (case cAsc => k_is)
    (case kAsc => k_is)
    (case iAsc => k_is)
    (case lSignsOf => k_is)
    (case cSignsOf => k_is)
    (case kSignsOf => k_is)
    (case iSignsOf => k_is)
    (case lIsText => k_is)
    (case cIsText => k_is)
    (case kIsText => k_is)
    (case iIsText => k_is)
    (case lCheck => k_is)
    (case cCheck => k_is)
    (case kCheck => k_is)
    (case iCheck => k_is)
    (case lA => k_is)
    (case cA => k_is)
    (case lDA => k_is)
    (case kA => k_is)
    (case iA => k_is)
    (case xTE => k_is)
    (case eTE => k_is)
    (case tTE => k_is)
    (case hTE => k_is)
    (case iTE => k_is)
    (case noT => first | rfl | decide +kernel)
    (case anyS => k_is)
    (case xBA => k_is)
    (case eBA => k_is)
    (case tBA => k_is)
    (case hBA => k_is)
    (case nBA_part => k_is)
    (case saBA => k_is)
    (case gaBA => k_is)
    (case ggBA => k_is)
    (case tFBA => k_is)
    (case lBA => k_is)
    (case cBA => k_is)
    (case kBA => k_is)
    (case lccBA => k_is)
    (case lcdBA => k_is)
    (case hvBA => rfl)
    (case hflBA => first | rfl | decide +kernel)
    (case mmBA => k_is)
    (case vBA => k_is)
    (case xBT => k_is)
    (case eBT => k_is)
    (case tBT => k_is)
    (case hBT => k_is)
    (case nBT_text => k_is)
    (case saBT => k_is)
    (case gaBT => k_is)
    (case ggBT => k_is)
    (case tFBT => k_is)
    (case lBT => k_is)
    (case cBT => k_is)
    (case kBT => k_is)
    (case lccBT => k_is)
    (case lcdBT => k_is)
    (case hvBT => rfl)
    (case hflBT => first | rfl | decide +kernel)
    (case mmBT => k_is)
    (case vBT => k_is)
    (case xBN => k_is)
    (case eBN => k_is)
    (case tBN => k_is)
    (case hBN => k_is)
    (case nBN_name => k_is)
    (case saBN => k_is)
    (case gaBN => k_is)
    (case ggBN => k_is)
    (case tFBN => k_is)
    (case lBN => k_is)
    (case cBN => k_is)
    (case kBN => k_is)
    (case lccBN => k_is)
    (case lcdBN => k_is)
    (case hvBN => rfl)
    (case hflBN => first | rfl | decide +kernel)
    (case mmBN => k_is)
    (case vBN => k_is)
    (case sBT_TE => k_is)
    (case sBN_TE => k_is)
    (case sBT_BT => k_is)
    (case clBT => k_is)
    (case sBN_BN => k_is)
    (case clBN => k_is)
    (case sBA_BA => k_is)
    (case clBA => k_is)
    (case sBT_BN => k_is)
    (case sBN_BT => k_is)
    (case sBT_BA => k_is)
    (case sBN_BA => k_is)
    (case icBT => k_is)
    (case imBT => k_is)
    (case icBN => k_is)
    (case imBN => k_is)
