import PyProof.Rows.All
import Wide.All
import OpenK.AllK
import Wide.FinOn
import HandS.ForExc
import HandS.ExcInit
import HandS.ExcField
import HandS.FStr
import HandS.ExcSuper
import KE.KExcSuper
import HandS.Strs
import HandS.Zip
import HandS.ForMost
import HandS.More
import PyProof.CollectStr
import HandS.ExcIs
import HandS.IsInst
import HandS.SlotsOwn
import HandS.Walk
import PyProof.ListStr
import HandS.Property
import HandS.Text
import HandS.Conv
import HandS.ExcOwn
import HandS.Replace
import PyProof.ToksMono
import PyProof.StrLawsReplace
import HandS.ClsMeth
import KE.KSuper
import KE.KCallOwn
import HandS.HotCalls
import HandS.RaiseFrom
import HandS.ExcInitHot
import HandS.WordsExc
import HandS.ExcCtx
import HandS.SuiteRaise
import HandS.Iter
import PyProof.Draws
import PyProof.EnumMake
import KE.GoesZip
import KE.GoesMore
import HandS.Defaults
import HandS.MakeKwOnly
import PySem.Challenge.RW_talepost_k38_stages_read
import KE.Datum
import PyProof.StrLawsRepr
import HandS.Dict
import HandS.WordsDict
import HandS.Star
import HandS.Deep
set_option Elab.async false
set_option linter.all false
set_option maxRecDepth 100000
set_option maxHeartbeats 2000000
namespace Vk
open PySem PySem.Spec PyProof.Rows L2

/-- the context of a body that closes over its class's cell -/
def cxS (CX : CXT) (P : Program) (w : World) (K : PySem.W.Frag) (mg : Str → Option Value) (base : Heap) (N : List Str) (qual : Str) (scope : Scope) (f cc : Addr) (cd : Value) (A : Around) (outer : List Env) (s : Shared) (H : Hp) (E : XK) : Cx where
  prog := P
  w := w
  K := K
  mg := mg
  base := base
  A := A.deeper (PySem.W.ksEnv qual scope s.heap.objs.size f cd cc)
  N := N
  s_0 := s
  H_0 := H
  env := PySem.W.ksEnv qual scope s.heap.objs.size f cd cc
  outer := outer
  stack := PySem.W.ksEnv qual scope s.heap.objs.size f cd cc :: outer
  ex := []
  calm := true
  fn := fun _ => false
  pn := []
  xe := fun e s' => wpAny (model P w) (A.deeper (PySem.W.ksEnv qual scope s.heap.objs.size f cd cc)) (leaving (PySem.W.ksEnv qual scope s.heap.objs.size f cd cc) e) (fun _ s'' => CX outer H s E e s'') (fun e' s'' => CX outer H s E e' s'') s'

/-- what the text has written of an own exception class at C and its __init__ at fI, whose code is at cda, its cell at cc -/
structure SupC (P : Program) (K : PySem.W.Frag) (mg : Str → Option Value) (C cc cda : Addr) : Prop where
  oex : OexC K C
  cell : ∃ cl cld csl, K.lookup cc = some ⟨cl, cld, .cell (some (.ref C)), csl⟩
  code : ∃ (ccl : Value) (cdd : Option Addr) (vs : Array Value) (ccs : Array (Option Value)) (file : Str) (tf : Tok), K.lookup cda = some ⟨ccl, cdd, .fields vs, ccs⟩ ∧ vs[2]? = some (.str file tf) ∧ ((P.main.file : Str) == file) = true
  sub : PySem.W.mroIn K C (.ref C) = some true
  sup : PySem.W.ks_superIn K C C "__init__" = some (some (.builtin "ValueError.__init__"))
  subV : PySem.W.subIn K (.ref C) (.type "ValueError") = some true
  noTop : (P.main.scope.names.lookup ("super" : Str)).isSome = false
  noMg : mg "super" = none
  any : PySem.W.nsIn K cStatics "thirdparty.any" = some none

structure SScope (N : List Str) (sc : Scope) : Prop where
  kind : sc.kind = .function
  co : sc.isCoroutine = false
  gen : sc.isGenerator = false
  nd : N.Nodup
  par : ∀ x ∈ N, sc.names.lookup x = some .local
  nocell : ∀ x ∈ sc.names, x.2 ≠ .cell
  free : ∀ x, sc.names.lookup x = some .free → x = "__class__"
  sup : sc.names.lookup ("super" : Str) = some .globalImplicit
  cls : sc.names.lookup ("__class__" : Str) = some .free

theorem rev_get {N : List Str} {us : List Value} (hlen : N.length = us.length) (nd : N.Nodup) {i : Nat} {x : Str} {u : Value} (h1 : N[i]? = some x) (h2 : us[i]? = some u) : (N.zip us).reverse.lookup x = some u := by
  have key : ∀ (l : List (Str × Value)), (l.map (·.1)).Nodup → ∀ x u, (x, u) ∈ l → l.lookup x = some u := by
    intro l
    induction l with
    | nil => intro _ _ _ h; cases h
    | cons p l ih =>
      intro hn x u hm
      obtain ⟨a, b⟩ := p
      simp only [List.map_cons, List.nodup_cons] at hn
      rcases List.mem_cons.mp hm with e | hm
      · cases e
        simp [List.lookup]
      · have hne : (x == a) = false := by
          have : x ≠ a := fun z => hn.1 (z ▸ List.mem_map_of_mem hm)
          simpa using this
        simp [List.lookup, hne, ih hn.2 x u hm]
  have hz : (N.zip us)[i]? = some (x, u) := by
    rw [List.getElem?_zip_eq_some]
    exact ⟨h1, h2⟩
  refine key _ ?_ _ _ (List.mem_reverse.mpr (List.mem_of_getElem? hz))
  rw [List.map_reverse]
  refine (List.pairwise_reverse (R := fun a b : Str => a ≠ b)).mpr ?_
  refine List.Pairwise.imp (R := fun a b : Str => a ≠ b) (fun h => Ne.symm h) ?_
  rw [List.map_fst_zip (Nat.le_of_eq hlen)]
  exact nd

theorem inv_s {CX : CXT} {P : Program} {w : World} {K : PySem.W.Frag} {mg : Str → Option Value} {base : Heap} {N : List Str} {qual : Str} {scope : Scope} {f cc : Addr} {cd : Value} {A : Around} {outer : List Env} {s : Shared} {H : Hp} {E : XK} {us : List Value} {vs : List V} {h1 : Heap} {tk : Nat} {oc : Value} {ocd : Option Addr} {osl : Array (Option Value)} {cv : Option Value}
    (S : SScope N scope) (hd : A.handled = none) (e0 : Env0 P w K mg base A outer s H) (hl : vs.length = N.length) (r : Vals vs us) (hcell : K.lookup cc = some ⟨oc, ocd, .cell cv, osl⟩)
    (hns : h1.Ns s.heap.objs.size (fun x => (N.zip us).reverse.lookup x)) (hk : ∀ b o, s.heap.get? b = some o → h1.get? b = some o) :
    Inv (cxS CX P w K mg base N qual scope f cc cd A outer s H E) [] (vs.map some) H { s with heap := h1, toks := tk } := by
  have noA : ∀ b : Addr, b ∉ (cxS CX P w K mg base N qual scope f cc cd A outer s H E).ex := fun b z => absurd (show b ∈ ([] : List Addr) from z) (by simp)
  have hcs : ∀ y c, (cxS CX P w K mg base N qual scope f cc cd A outer s H E).env.cells.lookup y = some c → y = "__class__" ∧ c = cc := fun y c h => by
    have h' : List.lookup y [(("__class__" : Str), cc)] = some c := h
    by_cases e : y = "__class__"
    · subst e
      simp [List.lookup] at h'
      exact ⟨rfl, h'.symm⟩
    · have q : (y == ("__class__" : Str)) = false := by simpa using e
      simp [List.lookup, q] at h'
  have hcb : ∃ o, base.get? cc = some o ∧ o.data = .cell cv := ⟨_, e0.mod.kin _ _ hcell, rfl⟩
  obtain ⟨ob, hb1, hb2⟩ := hcb
  refine ⟨⟨e0.mod, S.kind, rfl, rfl, Nat.le_refl _, fun y z c h1 h2 => ?_, fun y hy => ?_, fun y c h _ => absurd h (by show ¬ (false = true); decide), fun _ => hd, Around.frames_deeper e0.frames, .inr ⟨rfl, rfl⟩, fun b z => absurd z (noA b), e0.bs, e0.bsz, fun b _ _ => noA b, fun b z => absurd z (noA b), e0.funs, e0.frf⟩,
    rfl, e0.bare, Un.kept hk, ⟨_, hns, fun i y v h1 h2 h3 => ?_⟩, fun y c h => ?_, e0.hok.fresh (Nat.le_refl _), fun y c h => ?_, fun p hp => absurd (show p ∈ ([] : List (Addr × Obj)) from hp) (by simp), e0.hok.kept hk, ?_⟩
  · exact (hcs y c h1).1.trans (hcs z c h2).1.symm
  · have hy : scope.names.lookup y = some .cell ∨ scope.names.lookup y = some .free := hy
    rcases hy with hy | hy
    · exact absurd rfl (S.nocell _ (PySem.mem_of_lookup hy))
    · have e := S.free y hy
      subst e
      exact ⟨cc, by show List.lookup ("__class__" : Str) [(("__class__" : Str), cc)] = _; simp [List.lookup]⟩
  · have h1' : N[i]? = some y := h1
    have ha : vs[i]? = some v := by
      rw [List.getElem?_map] at h2
      cases e : vs[i]? with
      | none => rw [e] at h2; cases h2
      | some a => rw [e] at h2; cases h2; rfl
    obtain ⟨u, hu, rv⟩ := r.get ha
    exact ⟨u, rv, .inl ⟨S.par y (List.mem_of_getElem? h1'), rev_get (hl.symm.trans r.length) S.nd h1' hu⟩⟩
  · obtain ⟨_, rfl⟩ := hcs y c h
    exact ⟨cv, ob, hk _ _ (e0.bs _ _ hb1).1, hb2⟩
  · obtain ⟨_, rfl⟩ := hcs y c h
    exact (e0.bs _ _ hb1).2
  · show (vs.map some).length = N.length
    rw [List.length_map, hl]

/-- ValueError.__init__ bound to the exception at e, called -/
theorem call_bv {prog : Program} {w : World} {A : Around} {E : Value → Shared → Prop} {h : Heap} {g : Array GenState} {d : Drawn} {t : Nat} {os : OsState}
    {nm q : Str} {C N : Addr} {bs bm : List Value} {hdct : Bool} {sn : List Str} {sub : List Value} {ab : Bool} {col : Option Bool} {dd : Option Addr} {k0 k1 k2 k3 k5 : Option Value}
    {u e t0 : Addr} {rest : List Value} {Q : Value → Shared → Prop}
    (hC : h.get? C = some (excClassObj nm q C N bs bm hdct sn sub ab col dd k0 k1 k2 k3 k5 "ValueError.__new__")) (he : h.get? e = some (HandSPX.excO C t0)) (hu : h.get? u = some (PySem.W.kxs_mw "ValueError.__init__" e)) (hrest : rest.length ≤ sizeLine)
    (hq : ∀ h' t1, (∀ b o, b ≠ e → h.get? b = some o → h'.get? b = some o) → h'.get? e = some (HandSPX.excO C t1) → Q .none ⟨h', g, d, t, os⟩) :
    wpAny (model prog w) A (call (.ref u) rest) Q E ⟨h, g, d, t, os⟩ := by
  refine wpAny_call (codeAny_of_tree ?_)
  show wpAny _ A.in1 (callAny (.ref u) ⟨rest, []⟩) _ _ _
  unfold callAny
  refine wpAny_bind (wpAny_load hu ?_)
  simp only [PySem.W.kxs_mw, show (Value.type "method-wrapper" == Value.type "method" || Value.type "method-wrapper" == Value.type "builtin_function_or_method" || Value.type "method-wrapper" == Value.type "method-wrapper") = true from by decide, if_true]
  refine W.KFB.if_so (by decide) ?_
  refine wpAny_bind (PySem.ESX.check_bound F.excBase_ValueError hC he rfl ?_)
  refine wpAny_bind (wpAny_pure (wpAny_pure ?_))
  refine ⟨plainId_quiet F.excBase_ValueError.init.plain _, codeAny_builtin F.excBase_ValueError.initEntry ?_⟩
  refine PySem.W.exc_init_tree (cls := .ref C) (t0 := t0) (dv := none) (c2 := .none) (c3 := .none) (b4 := .bool false) he hrest fun h' k e' _ => hq h' _ k e'

/-- what super().__init__(e) asks: the argument; the exception, fresh -/
def tSup (C : Addr) (te : TE) : TS := fun D σ H => te σ H fun _ H1 => (∃ a, σ[0]? = some (some (.ref a)) ∧ H1 a = some (exo a C none)) ∧ D.nx σ H1

theorem fn_super {CX : CXT} {P : Program} {w : World} {K : PySem.W.Frag} {mg : Str → Option Value} {base : Heap} {k : Nat} {f C cc cda : Addr} {name qual self : Str} {params : Arguments} {body : List Stmt} {scope : Scope} {dV kV doc pm ct oc : Value} {an od : Option Addr}
    {osl : Array (Option Value)} {N : List Str} {sp : Sp} {parts : List Expr} {rest : List Stmt} {p0 p1 p2 p3 p4 jp : Pos} {ar : Arg} {N' : List Str} {pl : Sem Bool}
    (T : SupC P K mg C cc cda)
    (lk : K.lookup f = some ⟨oc, od, .func (PySem.W.ksFn name qual params body scope dV kV doc pm an (.ref cda) ct cc), osl⟩) (hcd : PySem.W.codeIn K (.ref cda) qual = true) (S : SScope N scope) (hN : N = self :: N')
    (hpar : (params.posonlyargs ++ params.args).head? = some ar) (har : ar.arg = self)
    (hbd : body = .Expr (.Call (.Attribute (.Call (.Name "super" p0) [] [] p1) "__init__" p2) [.JoinedStr parts jp] [] p3) p4 :: rest)
    (hcall : ∀ env : Env, eval (.Call (.Attribute (.Call (.Name "super" p0) [] [] p1) "__init__" p2) [.JoinedStr parts jp] [] p3) env = (do
      let ov ← attributeBase (.Call (.Name "super" p0) [] [] p1) "__init__" env (eval (.Call (.Name "super" p0) [] [] p1) env)
      standAt p2.atName
      let (f, first) ← holding [ov] (getMethod ov "__init__" pl)
      callWith p3 f first (backTo p3 (starEach [.JoinedStr parts jp] env)) []))
    (hsw : ∀ env : Env, swapsWith (.Call (.Attribute (.Call (.Name "super" p0) [] [] p1) "__init__" p2) [.JoinedStr parts jp] [] p3) none p4.line env = pure false)
    (len : ∀ vs H Q E, sp vs H Q E → vs.length = N.length)
    (hbody : ∀ (A : Around) (outer : List Env) (s : Shared) (H : Hp) (vs : List V) (Q : VK) (E : XK), Room k (A.deeper (PySem.W.ksEnv qual scope s.heap.objs.size f (.ref cda) cc)) → sp vs H Q E →
      ∃ te t, PE (cxS CX P w K mg base N qual scope f cc (.ref cda) A outer s H E) (.JoinedStr parts jp) te ∧ PSs (cxS CX P w K mg base N qual scope f cc (.ref cda) A outer s H E) rest t ∧
        (∃ a, vs[0]? = some (.ref a) ∧ H a = some (exo a C none)) ∧ tSeq (tSup C te) t { nx := fun _ H' => Q .non H', rt := Q } (vs.map some) H) :
    FnOk P w K mg base CX (k + 1) f (PySem.W.ksFn name qual params body scope dV kV doc pm an (.ref cda) ct cc) N sp := by
  refine ⟨len, fun A outer s H args us vs Q E hr e0 hb r hsp => ?_⟩
  have hl := len _ _ _ _ hsp
  have KX : K.In s.heap := e0.mod.kin.keeps fun b o e => (e0.bs b o e).1
  have lim : s.heap.NoLimit := e0.mod.nolimit.keeps fun b o e => (e0.bs b o e).1
  obtain ⟨cl, cld, csl, hcell⟩ := T.cell
  obtain ⟨ccl, cdd, vsC, ccs, file, tf, hcode, hvs2, hfile⟩ := T.code
  obtain ⟨nm, q, Nc, bs, bm, sn, sub, ab, col, dd, k0, k1, k2, k3, k5, hC, hbm⟩ := T.oex.cls
  obtain ⟨te, t, hpe, hps, ⟨a, ha0, hea⟩, hq⟩ := hbody A outer s H vs Q E (hr.deeper _) hsp
  refine ks_codeAny_call_defAt (fd := PySem.W.ksFn name qual params body scope dV kV doc pm an (.ref cda) ct cc) (body := body) (binds := N.zip us) hr.depth (KX _ _ lk) rfl lim (PySem.W.codeRec_of KX hcd) rfl hb S.nocell (fun y hy => S.par y.1 (List.of_mem_zip (a := y.1) (b := y.2) hy).1) (fun h1 hns hk => ?_) S.co S.gen S.kind
  have I : Inv (cxS CX P w K mg base N qual scope f cc (.ref cda) A outer s H E) [] (vs.map some) H { s with heap := h1, toks := s.toks + (N.zip us).length } := inv_s S hr.hd e0 hl r hcell hns hk
  subst hbd
  subst hN
  have ka0 : ∃ u0 us', us = u0 :: us' := by
    cases us with
    | nil => have q := r.length; rw [hl] at q; exact absurd q (by simp)
    | cons u0 us' => exact ⟨u0, us', rfl⟩
  obtain ⟨u0, us', rfl⟩ := ka0
  have hu0 : u0 = Value.ref a := by
    cases r with
    | cons r0 rt =>
      rw [List.getElem?_cons_zero] at ha0
      cases ha0
      exact r0
  subst hu0
  have hL : ((self :: N').zip (Value.ref a :: us')).reverse.lookup self = some (Value.ref a) := rev_get (by rw [← r.length]; exact hl.symm) S.nd (i := 0) rfl rfl
  have hself : scope.names.lookup self = some .local := S.par self List.mem_cons_self
  have hne : a ≠ C := fun z => by
    obtain ⟨t1, ho⟩ := exo_at e0.hok hea
    rw [z, KX _ _ hC] at ho
    cases ho
  generalize hs1 : s.toks + ((self :: N').zip (Value.ref a :: us')).length = tk1 at I ⊢
  obtain ⟨hp0, g, d, tk, os⟩ := s
  let env := PySem.W.ksEnv qual scope hp0.objs.size f (.ref cda) cc
  show PySem.wpAt (model P w) (A.deeper env) (.func (.Expr (.Call (.Attribute (.Call (.Name "super" p0) [] [] p1) "__init__" p2) [.JoinedStr parts jp] [] p3) p4 :: rest) env) (execs (.Expr (.Call (.Attribute (.Call (.Name "super" p0) [] [] p1) "__init__" p2) [.JoinedStr parts jp] [] p3) p4 :: rest) env) _ _ _
  have hint : interactive env = false := by
    unfold interactive
    rw [show env.scope.kind = ScopeKind.function from S.kind]
    rfl
  refine ks_wpAt_execs_cons (ks_wpAt_Expr_any (ks_wpAt_MethodCall (pl := pl) ?_ (hcall env)) hint (hsw env))
  · refine ks_wpAt_super_base (env := env) S.sup S.cls (by decide) rfl (hk _ _ (KX _ _ lk)) rfl hpar rfl (hk _ _ (KX _ _ hcode)) rfl hvs2 hfile T.noTop ?_
    obtain ⟨mb, hb1, hb2⟩ := I.mod.blt
    have hbs : mb ("super" : Str) = some (.type "super") := (hb2 _ (by decide)).trans (by decide +kernel)
    refine PySem.W.ks_loadName_global (env := env) S.kind S.sup (Calls.loadGlobal_builtin (env := env) (I.mod.glob.keeps I.bk) T.noMg (hb1.keeps I.bk) hbs ⟨rfl, ?_⟩)
    refine wpAny_loadName_free (env := env) S.kind S.cls rfl ⟨_, hk _ _ (KX _ _ hcell), rfl⟩ ?_
    rw [har]
    refine wpAny_loadName_local (env := env) S.kind hself hns hL ?_
    have KX1 : K.In h1 := KX.keeps hk
    have hC1 := KX1 _ _ hC
    obtain ⟨t1, hx1⟩ := exo_at I.hok hea
    have hcl : PySem.W.clsIn K C = some { name := nm, bases := bs, mro := .ref C :: bm, ns := Nc, qualname := q, hasDict := true, slotNames := sn, subclasses := sub, abstract := ab, collection := col, hasDel := false } := by unfold PySem.W.clsIn; rw [hC] <;> rfl
    have hsup := T.sup
    unfold PySem.W.ks_superIn at hsup
    rw [hcl] at hsup
    refine ks_wpAny_isType_cls hC1 rfl ⟨rfl, ?_⟩
    refine ks_wpAny_call_super hC1 rfl hx1 rfl (fun c z => by cases z) (PySem.W.looks_mroIn KX1 T.sub) (fun h2 e2 k2 => ?_)
    have I1 : Inv (cxS CX P w K mg base (self :: N') qual scope f cc (.ref cda) A outer ⟨hp0, g, d, tk, os⟩ H E) [] (vs.map some) H ⟨h2, g, d, tk1, os⟩ := I.kept (t' := tk1) k2
    have KX2 : K.In h2 := KX1.keeps k2
    have J2 : PySem.W.InstAt h2 a ({ cls := .ref C, dict := none, data := .fields #[.ref t1, .none, .none, .none, .bool false, .none] } : Obj) C none := ⟨k2 _ _ hx1, rfl, rfl, trivial⟩
    refine PySem.W.kxs_getMethod PySem.W.kxs_ValueError e2 (PySem.W.looks_opaque KX2 T.any) (fun A Q E s k q => wpAny_bind ((PySem.W.looks_clsIn KX2 hcl) A _ E s k (wpAny_pure q))) rfl KX2 hsup (J2.type.andThen (PySem.W.looks_subIn KX2 T.subV)) hne (by decide) ?_
    have fp := I1.fpOk (b := h2.objs.size) (H' := H) (Nat.le_refl _) (I1.hok.fresh (Nat.le_refl _))
    have I2 : Inv (cxS CX P w K mg base (self :: N') qual scope f cc (.ref cda) A outer ⟨hp0, g, d, tk, os⟩ H E) [(h2.objs.size, PySem.W.kxs_mw "ValueError.__init__" a)] (vs.map some) H ⟨h2.push (PySem.W.kxs_mw "ValueError.__init__" a), g, d, tk1 + 1, os⟩ :=
      (I1.kept (t' := tk1 + 1) (h' := h2.push (PySem.W.kxs_mw "ValueError.__init__" a)) fun b o z => Heap.get?_push_of_some _ z).pins_of fun p hp => by
        have ep : p = (h2.objs.size, PySem.W.kxs_mw "ValueError.__init__" a) := by simpa using hp
        subst ep
        exact ⟨Heap.get?_push_at rfl rfl, fp.1, fp.2.1, fp.2.2.1, fun v z => by cases z⟩
    have hst : starEach [Expr.JoinedStr parts jp] env = (false, eval (.JoinedStr parts jp) env) :: starEach [] env := rfl
    rw [hst]
    refine PySem.W.kxs_callWith (i := "ValueError.__init__") (x := a) (by rfl) (Calls.evalArgs_plain ?_)
    refine Calls.spliced_cons (thn (hpe.run [(h2.objs.size, PySem.W.kxs_mw "ValueError.__init__" a)] _ (vs.map some) H _ I2 hq) fun u1 s3 hh => Calls.spliced_nil ?_)
    obtain ⟨v1, H3, I3, r3, ⟨a', ea', hea3⟩, q3⟩ := hh
    have ea2 : a' = a := by
      rw [List.getElem?_map, ha0] at ea'
      cases ea'
      rfl
    subst ea2
    have hu3 : s3.heap.get? h2.objs.size = some (PySem.W.kxs_mw "ValueError.__init__" a') := (I3.pin (h2.objs.size, PySem.W.kxs_mw "ValueError.__init__" a') (by simp)).1
    refine ⟨hu3, ?_⟩
    obtain ⟨t3, hx3⟩ := exo_at I3.hok hea3
    have KX3 := I3.kIn
    have hlen1 : [u1].length ≤ sizeLine := by
      rw [sizeLine_eq]
      exact (by decide : 1 ≤ 16777216)
    obtain ⟨hp3, g3, d3, tk3, os3⟩ := s3
    refine call_bv (KX3 _ _ hC) hx3 hu3 hlen1 fun h4 t4 k4 hx4 => ?_
    have J := I3.write (t' := tk3) (x := a') (e := a') (o := exo a' C none) (by rw [hea3]; exact True.intro) (.inl rfl) k4 ⟨_, hx4⟩ (exo_ok hx4)
    have eu : upd H3 a' (exo a' C none) = H3 := by
      funext b
      by_cases hb : b = a'
      · rw [hb, upd_same, hea3]
      · rw [upd_ne hb]
    rw [eu] at J
    have J0 : Inv (cxS CX P w K mg base (self :: N') qual scope f cc (.ref cda) A outer ⟨hp0, g, d, tk, os⟩ H E) [] (vs.map some) H3 ⟨h4, g3, d3, tk3, os3⟩ := Inv.unpinned (pins := []) J
    refine PySem.wpAt_of_wpAny ?_
    refine wpAny_mono (hps.run [] _ (vs.map some) H3 _ J0 q3) (fun fl s' hs => ?_) fun e s' hs => hs
    have fin : ∀ {σ' : L2.St} {H' : Hp} {v : V} {u : Value}, Inv (cxS CX P w K mg base (self :: N') qual scope f cc (.ref cda) A outer ⟨hp0, g, d, tk, os⟩ H E) [] σ' H' s' → RelV v u → Q v H' → CE outer P w H ⟨hp0, g, d, tk, os⟩ Q u s' :=
      fun {σ' H' v u} J rv q => ⟨v, H', J.os, J.bare, J.base, J.hok, rv, q⟩
    cases fl with
    | ret u =>
      obtain ⟨v, σ', H', J, rv, q⟩ := hs
      exact fin J rv q
    | next =>
      obtain ⟨σ', H', J, q⟩ := hs
      exact fin (v := V.non) (u := Value.none) J rfl q
    | brk =>
      obtain ⟨_, _, _, q⟩ := hs
      exact False.elim q
    | cont =>
      obtain ⟨_, _, _, q⟩ := hs
      exact False.elim q
end Vk
set_option Elab.async false
set_option linter.all false
set_option maxRecDepth 100000
set_option maxHeartbeats 4000000
/-! set(text) and len(set(text)), whatever the text -/
namespace Vk
open PySem PySem.Spec PyProof.Rows L2

/-- the different codes, in the order in which they are met -/
def met : List Nat → List Nat
  | [] => []
  | c :: r => if (met r).contains c then met r else c :: met r
def metAt (l : List Nat) (i : Nat) : List Nat := met (l.take i).reverse
theorem metAt_succ {l : List Nat} {i c : Nat} (h : l[i]? = some c) : metAt l (i + 1) = if (metAt l i).contains c then metAt l i else c :: metAt l i := by
  unfold metAt
  have e : l.take (i + 1) = l.take i ++ [c] := by
    rw [List.take_add_one, h]
    rfl
  rw [e, List.reverse_append]
  rfl
theorem met_len : ∀ l : List Nat, (met l).length ≤ l.length
  | [] => Nat.le_refl _
  | c :: r => by
    have ih := met_len r
    unfold met
    split
    · exact Nat.le_succ_of_le ih
    · simp only [List.length_cons]
      omega
theorem mem_met : ∀ (l : List Nat) (c : Nat), c ∈ met l ↔ c ∈ l
  | [], c => Iff.rfl
  | a :: r, c => by
    have ih := mem_met r
    unfold met
    by_cases h : (met r).contains a = true
    · rw [if_pos h, ih]
      have ha : a ∈ r := (ih a).mp (by simpa using h)
      constructor
      · exact fun q => List.mem_cons_of_mem _ q
      · intro q
        rcases List.mem_cons.mp q with rfl | q
        · exact ha
        · exact q
    · rw [if_neg h]
      simp only [List.mem_cons, ih]
theorem met_full : ∀ l : List Nat, (met l).length = l.length ↔ l.Nodup
  | [] => by simp [met]
  | a :: r => by
    have ih := met_full r
    have hl := met_len r
    unfold met
    by_cases h : (met r).contains a = true
    · rw [if_pos h]
      have ha : a ∈ r := (mem_met r a).mp (by simpa using h)
      constructor
      · intro e
        simp only [List.length_cons] at e
        omega
      · intro q
        exact absurd ha (List.nodup_cons.mp q).1
    · rw [if_neg h]
      have ha : a ∉ r := fun q => h (by simpa using (mem_met r a).mpr q)
      simp only [List.length_cons, List.nodup_cons, ha, not_false_eq_true, true_and, Nat.add_right_cancel_iff]
      exact ih
theorem nodup_rev {l : List Nat} : l.reverse.Nodup ↔ l.Nodup := by
  refine (List.pairwise_reverse (R := fun a b : Nat => a ≠ b)).trans ?_
  exact ⟨fun h => h.imp Ne.symm, fun h => h.imp Ne.symm⟩
theorem metAt_end (l : List Nat) : (metAt l l.length).length = l.length ↔ l.Nodup := by
  unfold metAt
  rw [List.take_length]
  have h := met_full l.reverse
  rw [List.length_reverse] at h
  exact h.trans nodup_rev
/-- the set of the signs met -/
def metS (l : List Nat) (i : Nat) : Str → Bool := fun k => (metAt l i).any fun c => decide (k = (⟨#[c]⟩ : Str))
theorem metS_mem {l : List Nat} {i c : Nat} : metS l i ⟨#[c]⟩ = (metAt l i).contains c := by
  unfold metS
  rw [Bool.eq_iff_iff, List.any_eq_true]
  constructor
  · rintro ⟨d, hd, e⟩
    have e1 : [c] = [d] := congrArg (fun y : Str => y.cps.toList) (of_decide_eq_true e)
    have e2 : c = d := (List.cons.inj e1).1
    simpa [e2] using hd
  · intro h
    exact ⟨c, by simpa using h, by simp⟩
theorem metS_step {l : List Nat} {i c : Nat} (h : l[i]? = some c) (k : Str) : (metS l i k || decide (k = (⟨#[c]⟩ : Str))) = metS l (i + 1) k := by
  unfold metS
  rw [metAt_succ h]
  by_cases q : (metAt l i).contains c = true
  · rw [if_pos q]
    by_cases e : k = (⟨#[c]⟩ : Str)
    · subst e
      have := metS_mem (l := l) (i := i) (c := c)
      unfold metS at this
      rw [this, q]
      rfl
    · simp [e]
  · rw [if_neg q, List.any_cons, Bool.or_comm]
theorem metN_step {l : List Nat} {i c : Nat} (h : l[i]? = some c) : (if metS l i ⟨#[c]⟩ = true then (metAt l i).length else (metAt l i).length + 1) = (metAt l (i + 1)).length := by
  rw [metAt_succ h, metS_mem]
  split
  · rfl
  · rfl

section
variable {prog : Program} {w : World} {A : Around} {R : Result → Shared → Prop} {I : Addr} {fp wr : List Addr} {G : Array GenState → Array GenState → Prop} {P : Nat → Value → Prop} {St : Nat → Shared → Prop}
theorem upd_text {l : List Nat} (W : WalksS prog w A.in1 I fp wr G l.length P St) (S : Addr) (hSf : S ∉ fp)
    (hval : ∀ i v, P i v → ∃ c t, l[i]? = some c ∧ v = .str ⟨#[c]⟩ t) (hb : l.length + 1 < scanBound) :
    ∀ (k i : Nat) (s : Shared), l.length - i = k → i ≤ l.length → St i s → s.heap.SetOf (strKind prog w) S (metS l i) (metAt l i).length →
      (∀ s', Moved (S :: wr) G s s' → s'.heap.SetOf (strKind prog w) S (metS l l.length) (metAt l l.length).length → R (.ok (.ret .none)) s') → codeAny (model prog w) A (.builtin "set.update.loop" ⟨[.ref S, .ref I], []⟩) R s := by
  have hSw : S ∉ wr := fun h => hSf (W.sub _ h)
  have hsub : ∀ b ∈ wr, b ∈ S :: wr := fun b hb => List.mem_cons_of_mem _ hb
  intro k
  induction k with
  | zero =>
    intro i s hk hi hst hS hR
    obtain rfl : i = l.length := by omega
    refine codeAny_builtin PyProof.Rows.F.entry_set_update_loop ?_
    rw [Around.under_plainId PyProof.Rows.F.plain_set_update_loop _]
    show wpAny _ A.in1 (pyNext (.ref I) >>= _) _ _ s
    refine wpAny_bind (W.done s _ _ hst fun s1 hm => ?_)
    show wpAny _ A.in1 (ret Value.none) _ _ s1
    refine wpAny_pure (hR s1 (hm.mono hsub) ?_)
    obtain ⟨o, es, ep, t, ho, more⟩ := hS
    exact ⟨o, es, ep, t, hm.heap S _ hSw ho, more⟩
  | succ k ih =>
    intro i s hk hi hst hS hR
    have hlt : i < l.length := by omega
    refine codeAny_builtin PyProof.Rows.F.entry_set_update_loop ?_
    rw [Around.under_plainId PyProof.Rows.F.plain_set_update_loop _]
    show wpAny _ A.in1 (pyNext (.ref I) >>= _) _ _ s
    refine wpAny_bind (W.item i s _ _ hlt hst fun v s1 hP hst1 hm => ?_)
    obtain ⟨c, t, hc, rfl⟩ := hval i v hP
    have hS1 : s1.heap.SetOf (strKind prog w) S (metS l i) (metAt l i).length := by
      obtain ⟨o, es, ep, tb, ho, more⟩ := hS
      exact ⟨o, es, ep, tb, hm.heap S _ hSw ho, more⟩
    show wpAny _ A.in1 (holding [Value.str ⟨#[c]⟩ t] (setAdd S (.str ⟨#[c]⟩ t)) >>= _) _ _ s1
    refine wpAny_bind (wpAny_holding ?_)
    unfold setAdd
    refine wpAny_holding (wpAny_bind ((strKind prog w).pyHash (k := ⟨#[c]⟩) (strKind_is _ _ _ _) ?_))
    have hroom : (metAt l i).length + 1 < scanBound := by
      have h1 := met_len (l.take i).reverse
      rw [List.length_reverse, List.length_take] at h1
      have h2 : (metAt l i).length ≤ min i l.length := h1
      omega
    refine wpAny_setAddHashed_of (knd := strKind prog w) (s := { s1 with toks := s1.toks + 1 }) (strKind_is _ _ _ _) rfl hS1 hroom fun h2 hsb hS2 => ?_
    have hSi : h2.SetOf (strKind prog w) S (metS l (i + 1)) (metAt l (i + 1)).length := SetOf_congr hS2 (fun y => metS_step hc y) (metN_step hc)
    refine wpAny_pure ⟨plainId_quiet PyProof.Rows.F.plain_set_update_loop _, ih (i + 1) _ (by omega) hlt (W.frame _ s1 _ _ hst1 (Nat.le_succ _) fun b hb o e => ?_) hSi fun s3 hm3 hS3 => ?_⟩
    · rw [hsb.2 b (fun z : b = S => hSf (by rw [← z]; exact hb))]
      exact e
    · refine hR s3 (Moved.trans W.gtrans ((hm.mono hsub).then_heap (Nat.le_succ _) fun b o hb e => ?_) hm3) hS3
      rw [hsb.2 b (fun z : b = S => hb (by rw [z]; exact List.mem_cons_self))]
      exact e
end

section
variable {prog : Program} {w : World} {A : Around} {E : Value → Shared → Prop} {s : Shared}
theorem call_set_text {x : Str} {t : Tok} {Q : Value → Shared → Prop} (hh : A.handled = none) (hb : x.cps.size + 1 < scanBound)
    (h : ∀ (h2 : Heap) (tk : Nat), h2.SetOf (strKind prog w) s.heap.objs.size (metS x.cps.toList x.cps.size) (metAt x.cps.toList x.cps.size).length →
      (∀ b o, b < s.heap.objs.size → s.heap.get? b = some o → h2.get? b = some o) → Q (.ref s.heap.objs.size) { s with heap := h2, toks := tk }) :
    wpAny (model prog w) A (call (.type "set") [.str x t]) Q E s := by
  obtain ⟨c, tl, hmro⟩ := PySem.F.called_set.mro
  have hmade := PySem.F.called_set.made
  have hsub := PySem.F.called_set.sub
  refine wpAny_call (codeAny_of_tree ?_)
  show wpAny _ _ (callAny (.type "set") _) _ _ _
  refine wpAny_pure ⟨Code.quiet_builtin _ (by decide +kernel), codeAny_builtin PySem.F.entry_type_call ?_⟩
  rw [Around.under_plain (weight_type_call_type "set" [.str x t] []) rfl]
  have h1 := PySem.F.called_set.notType
  have h2 := PySem.F.called_set.canCreate
  have hct := PySem.F.typeCall_set_1 (.str x t)
  repeat (any_goals (first | assumption | wp_step))
  refine codeAny_mono (code_set_new_1 (.str x t) (E := E) (Q₁ := fun obj s₁ => ∃ led : Bool, obj = .ref s.heap.objs.size ∧ s₁ = { s with heap := s.heap.push { cls := .type "set", dict := none, data := .set #[] 0 (.fresh 0 0 led) } }) fun led => ⟨led, rfl, rfl⟩) fun r s₁ hr => ?_
  cases r with
  | error e => exact hr
  | ok fl =>
    cases fl with
    | ret obj =>
      obtain ⟨led, rfl, rfl⟩ := hr
      have hS : (s.heap.push { cls := .type "set", dict := none, data := .set #[] 0 (.fresh 0 0 led) }).get? s.heap.objs.size = some { cls := .type "set", dict := none, data := .set #[] 0 (.fresh 0 0 led) } := Heap.get?_push_size _ rfl
      have hT : Shared.TypeIs { s with heap := s.heap.push { cls := .type "set", dict := none, data := .set #[] 0 (.fresh 0 0 led) } } (.ref s.heap.objs.size) "set" := ⟨_, hS, rfl⟩
      have hli := PySem.F.called_set.init.lookup
      have hbi := PySem.F.called_set.init.bind (.ref s.heap.objs.size)
      repeat (any_goals (first | assumption | wp_step))
      refine codeAny_mono (codeAny_call_builtin (R := wants (fun r s₂ => r = .none ∧ ∃ h2 tk, s₂ = { s with heap := h2, toks := tk } ∧
          h2.SetOf (strKind prog w) s.heap.objs.size (metS x.cps.toList x.cps.size) (metAt x.cps.toList x.cps.size).length ∧
          (∀ b o, b < s.heap.objs.size → s.heap.get? b = some o → h2.get? b = some o)) E) PySem.F.called_set.init.plain PySem.F.entry_set_init (check_set_init_1 hT ?_)) fun r₂ s₂ hr₂ => ?_
      · unfold Builtin.«set.__init__» noKeywords Builtin.Frozenset.updateFrom
        generalize hPI : pyIter = PI
        have hTx : Shared.TypeIs { s with heap := s.heap.push { cls := .type "set", dict := none, data := .set #[] 0 (.fresh 0 0 led) } } (.str x t) "str" := rfl
        have hsS : isSubtype (.type "str") (.type "set") = pure false := by rw [isSubtype_type]; kernel_rfl
        have hsF : isSubtype (.type "str") (.type "frozenset") = pure false := by rw [isSubtype_type]; kernel_rfl
        have hne : (Value.type "str" == Value.type "dict") = false := by decide
        wp_walk
        subst hPI
        refine wpAny_pyIter_str fun o St W hst => wpAny_bind (wpAny_runValue ?_)
        generalize hH : s.heap.push { cls := .type "set", dict := none, data := .set #[] 0 (.fresh 0 0 led) } = Hq at W hst hS ⊢
        have hHs : Hq.objs.size = s.heap.objs.size + 1 := by rw [← hH, Heap.size_push]
        have hSf : s.heap.objs.size ∉ [Hq.objs.size] := fun hm => by
          rw [List.mem_singleton] at hm
          omega
        have hh3 : A.in1.in1.in1.handled = none := by simp [hh]
        refine upd_text (l := x.cps.toList) ((W A.in1.in1.in1 hh3).toS) s.heap.objs.size hSf (fun i v hv => ?_) hb (x.cps.toList.length - 0) 0 _ (by omega) (Nat.zero_le _) hst ?_ ?_
        · obtain ⟨c, u, hc, e⟩ := hv
          exact ⟨c, u, by rw [Array.getElem?_toList]; exact hc, e⟩
        · exact SetOf_congr ((PyProof.Rows.setObjOf_fresh (knd := strKind prog w) led).setOf (Heap.get?_push_of_some _ hS) (by unfold scanBound; omega)) (fun _ => rfl) rfl
        · intro s1 hm hS1
          obtain ⟨h2, g2, d2, tk2, os2⟩ := s1
          have eg : g2 = s.gens := hm.gens
          have ed : d2 = s.drawn := hm.drawn
          have eo : os2 = s.os := hm.os
          subst eg; subst ed; subst eo
          show wpAny _ _ _ _ _ _
          refine wpAny_pure ?_
          show wpAny _ _ (ret Value.none) _ _ _
          refine wpAny_pure ⟨rfl, h2, tk2, rfl, hS1, fun b o hb2 e => hm.heap b o (fun z => ?_) (Heap.get?_push_of_some _ (by rw [← hH]; exact Heap.get?_push_of_some _ e))⟩
          rcases List.mem_cons.mp z with z | z
          · rw [z] at hb2
            exact Nat.lt_irrefl _ hb2
          · rw [List.mem_singleton] at z
            rw [z, hHs] at hb2
            exact Nat.not_succ_lt_self hb2
      · cases r₂ with
        | error e => exact hr₂
        | ok fl₂ =>
          cases fl₂ with
          | ret r =>
            obtain ⟨rfl, h2, tk, rfl, hS', hk'⟩ := hr₂
            repeat (any_goals (first | assumption | wp_step))
            exact h _ _ hS' hk'
          | _ => exact hr₂.elim
    | _ => exact hr.elim
end

/-- len(set(x)), x a text -/
def tLenSetT (ta : TE) : TE := fun σ H Q => ta σ H fun x H1 => ∃ z : Str, x = .str z ∧ z.length ≤ 4000 ∧ Q (.int ((metAt z.cps.toList z.cps.toList.length).length : Nat)) H1
theorem pe_lenSetT {X : Cx} {a : Expr} {ta : TE} {p p2 q pos : Pos} (hg : Gl X "len") (hm : X.mg "len" = none) (hg2 : Gl X "set") (hm2 : X.mg "set" = none) (ha : PE X a ta) (hc : X.calm = true := by rfl)
    (na : starEach [a] X.env = (false, eval a X.env) :: starEach [] X.env := by rfl) : PE X (.Call (.Name "len" p) [.Call (.Name "set" p2) [a] [] q] [] pos) (tLenSetT ta) := by
  refine ⟨fun pins s σ H Q I h => ?_⟩
  refine Call_ (ld_blt I hg hm boot_len (PyProof.Rows.callWith_builtin1 (PyProof.Rows.args_cons ?_ rfl) rfl rfl))
  refine Call_ (ld_blt I hg2 hm2 boot_set ?_)
  refine PyProof.Rows.callWith_type1 (PyProof.Rows.args_cons (thn (ha.run pins s σ H _ I h) fun v s1 hh => PyProof.Rows.args_nil ?_) na) na rfl
  obtain ⟨x, H1, I1, r1, z, rfl, hz, q1⟩ := hh
  obtain ⟨t, rfl⟩ := r1
  have hz2 : z.cps.size ≤ 4000 := hz
  refine call_set_text (I1.ok.hd hc) (by unfold scanBound; omega) fun h2 tk hS hk => PyProof.Rows.args_nil ?_
  obtain ⟨o, es, ep, tb, ho, hex, hd, _, _, _, hf, hn⟩ := hS
  have I2 : Inv X pins σ H1 { s1 with heap := h2, toks := tk } := I1.kept fun b o e => hk b o (Heap.lt_size e) e
  have hle : (metAt z.cps.toList z.cps.size).length ≤ z.cps.size := by
    have h1 := met_len (z.cps.toList.take z.cps.size).reverse
    rw [List.length_reverse, List.length_take] at h1
    exact Nat.le_trans h1 (Nat.min_le_left _ _)
  exact call_len_set ho hex hd hf (by rw [hn]; omega) ⟨.int ((metAt z.cps.toList z.cps.toList.length).length : Nat), H1, I2.tok _, ⟨_, by rw [hn]; rfl⟩, q1⟩
end Vk
set_option Elab.async false
set_option linter.all false
set_option maxRecDepth 100000
set_option maxHeartbeats 4000000
/-! sorted(text): the signs of a text in order; list(text) -/
namespace Vk
open PySem PySem.Spec PyProof.Rows L2
def signsOf (z : Str) : List Str := z.cps.toList.map fun c => (⟨#[c]⟩ : Str)
theorem signs_strs {z : Str} {acc : Array Value} (h : ItemsOf (SignAt z) acc z.cps.size) : StrsAre acc.toList (signsOf z) := by
  have hsz : acc.size = z.cps.size := h.1
  have hL : acc.toList.length = (signsOf z).length := by
    rw [Array.length_toList, hsz]
    unfold signsOf
    rw [List.length_map, Array.length_toList]
  refine strs_at hL fun j v e => ?_
  have e1 : acc[j]? = some v := by rw [← Array.getElem?_toList]; exact e
  obtain ⟨c, u, hc, ev⟩ := h.2 j v e1
  refine ⟨⟨#[c]⟩, u, ?_, ev⟩
  unfold signsOf
  rw [List.getElem?_map, Array.getElem?_toList, hc]
  rfl
section
variable {X : Cx}
def rSortT : List V → Hp → VK → Prop := fun vs H Q => ∃ z : Str, vs = [.str z] ∧ z.length < 64 ∧
  ∀ ys p, ys.Perm (signsOf z) → sortedS ys = true → H p = none → Q (.ref p) (upd H p (.lst (ys.map V.str)))
theorem cr_sortT (hcalm : X.calm = true) : CallR X (.builtin "sorted") rSortT := by
  intro pins s σ H xs us Q I r q
  obtain ⟨z, ex, h64, q⟩ := q
  subst ex
  obtain ⟨u, eu, rx⟩ := vals1 r
  subst eu
  obtain ⟨t, rfl⟩ := rx
  have hz2 : z.cps.size < 64 := h64
  refine Calls.call_function_entry PyProof.Rows.kind_sorted PyProof.Rows.plain_sorted PyProof.Rows.entry_sorted (PyProof.Rows.args_sorted1 _) ?_
  unfold Builtin.«sorted»
  refine wpAny_bind (m := checkCount "sorted" 1 1 _) (wpAny_pure ?_)
  refine wpAny_bind (wpAny_collect_str (A := X.A.in1) (I.ok.hd hcalm) z t (fun s1 acc hk hg hd ho hacc => ?_) (by rw [sizeLine_eq]; omega))
  obtain ⟨h1, g1, d1, tk1, os1⟩ := s1
  have eg : g1 = s.gens := hg
  have ed : d1 = s.drawn := hd
  have eo : os1 = s.os := ho
  subst eg; subst ed; subst eo
  have hS := signs_strs hacc
  have hal : acc.toList.length = z.cps.size := by rw [Array.length_toList]; exact hacc.1
  have I1 : Inv X pins σ H { s with heap := h1, toks := tk1 } := I.kept hk
  refine wpAny_bind (wpAny_newList ?_ (by rw [hal, sizeLine_eq]; omega))
  have hoL : (h1.push (seqObj "list" acc.toList.toArray 0)).get? h1.objs.size = some (seqObj "list" acc.toList.toArray 0) := Heap.get?_push_size _ rfl
  show wpAny _ _ _ _ _ { s with heap := h1.push (seqObj "list" acc.toList.toArray 0), toks := tk1 }
  refine wpAny_bind (wpAny_holding (wpAny_call_entry PyProof.Rows.slot_list_sort ⟨_, hoL, rfl⟩ PyProof.Rows.entry_list_sort
    (list_sort_treeK strKind_oneLt (s := { s with heap := h1.push (seqObj "list" acc.toList.toArray 0), toks := tk1 }) hoL hS.keysOf (fun v₁ v₂ more e => keyKind_strs (by rw [← e]; exact hS)) (by rw [hal]; exact hz2) fun st2 hp hs => ⟨_, rfl, ?_⟩)
    (PyProof.Rows.args_list_sort _)))
  obtain ⟨ys, g1, g2, g3⟩ := sorted_out_str hS hp hs
  obtain ⟨e', he'⟩ := PyProof.Rows.sortedHeap_at (vs := acc.toList) (out := (arrOf st2).map (·.2)) hoL
  have hlen : (ys.map V.str).length ≤ sizeLine := by
    rw [List.length_map, g2.length_eq]
    unfold signsOf
    rw [List.length_map, Array.length_toList, sizeLine_eq]
    omega
  refine wpAny_pure ⟨_, rfl, .ref h1.objs.size, upd H h1.objs.size (.lst (ys.map V.str)), I1.laid (t' := tk1) (fun b u e => ?_) (Nat.le_refl _)
    (show ObjOk X.prog X.w _ _ _ (.lst (ys.map V.str)) from ⟨hlen, ((arrOf st2).map (·.2)).toList, e', vals_of_strs g1, by rw [Array.toArray_toList]; exact he'⟩), rfl, q ys _ g2 g3 (I1.hok.fresh (Nat.le_refl _))⟩
  have hb : b < h1.objs.size := Heap.lt_size e
  rw [PyProof.Rows.sortedHeap_old (Nat.ne_of_lt hb) (by rw [size_push']; exact Nat.lt_succ_of_lt hb)]
  exact Heap.get?_push_of_some _ e
/-- list(x), x a text -/
def rListT : List V → Hp → VK → Prop := fun vs H Q => ∃ z : Str, vs = [.str z] ∧ z.length ≤ 4000 ∧ ∀ p, H p = none → Q (.ref p) (upd H p (.lst ((signsOf z).map V.str)))
end
/-! sorted texts: two arrangements of the same texts are one -/
theorem lt_irr (a : List Nat) : ltCps a a = false := by
  rw [ltCps_eq]
  exact decide_eq_false (List.lt_irrefl a)
end Vk
set_option Elab.async false
set_option linter.all false
set_option maxRecDepth 100000
set_option maxHeartbeats 4000000
namespace Vk
open PySem PySem.Spec PyProof.Rows L2
/-! isinstance of a caught error that has a dict -/
section
open PySem.W
variable {prog : Program} {w : World} {A : Around} {E : Value → Shared → Prop} {s : Shared} {K : Frag} {x D : Addr} {ox od : Obj}
theorem cls_of_exc {Q : Option Value → Shared → Prop} (T : ExcC K D) (X : K.In s.heap) (I : InstAt s.heap x ox D (some od)) (h : Q (some (.ref D)) { s with toks := s.toks + 1 }) : wpAny (model prog w) A (getAttr? (.ref x) "__class__") Q E s := by
  have hf : findObj K D (some od) "__class__" = some (.bind (.builtin "getset_descriptor.__get__") (.builtin "object.__class__")) :=
    findObj_data (by obtain ⟨cd, hc, _⟩ := any_some T.hd; rw [hc]; rfl) T.ha T.hn T.ht
  obtain ⟨hp, g, d, t, os⟩ := s
  have K0 := I.type (M := model prog w)
  have K1 := looks_findIn (M := model prog w) X T.hg
  have K2 := looks_findIn (M := model prog w) X T.hk
  have K3 := looks_find (M := model prog w) X I hf
  have sub : Looks (model prog w) hp (isInstance (.ref x) (.type "BaseException")) true := K0.andThen (looks_subIn X T.hs)
  have q0 : (false && onTheHeap (Value.builtin "BaseException.__getattribute__")) = false := rfl
  have q2 : (Value.builtin "BaseException.__getattribute__" == Value.builtin "object.__getattribute__") = false := by decide +kernel
  have q1 : (onTheHeap (Value.ref D) && Value.builtin "BaseException.__getattribute__" == Value.builtin "object.__getattribute__") = false := by rw [q2]; rfl
  unfold getAttr? getAttrBy? getAttrBy
  refine wpAny_bind (wpAny_mkText (wpAny_bind (wpAny_attempt (wpAny_holding (wpAny_bind (K0.at (wpAny_bind (K1.at ?_))))))))
  show wpAny _ _ (if (onTheHeap (Value.ref D) && Value.builtin "BaseException.__getattribute__" == Value.builtin "object.__getattribute__") = true then _ else _) _ _ _
  rw [q1, if_neg Bool.false_ne_true]
  unfold getAttrByItsOwn hookBefore
  refine wpAny_bind ?_
  rw [if_pos (show onTheHeap (Value.ref D) = true from rfl)]
  refine K2.at (wpAny_bind (wpAny_attempt (wpAny_holding ?_)))
  unfold callGetattribute
  rw [q0, if_neg Bool.false_ne_true]
  unfold boundAndCalled
  rw [PySem.F.excAttr_ValueError.ga.bind (.ref x)]
  refine wpAny_bind (wpAny_pure ?_)
  show wpAny _ _ (call (.builtin "BaseException.__getattribute__") [.ref x, .str "__class__" t]) _ _ _
  refine wpAny_call (codeAny_call_builtin PySem.F.excAttr_ValueError.ga.plain PySem.F.entry_bexc_ga ?_)
  refine @check_slot (model prog w) _ _ ⟨hp, g, d, t + 1, os⟩ "BaseException.__getattribute__" "BaseException" "__getattribute__" (.ref x) [.str "__class__" t] [] _ (by decide +kernel) (by decide +kernel) sub (PySem.F.args_bexc_ga (.ref x) (.str "__class__" t)) ?_
  unfold Builtin.«object.__getattribute__»
  refine wpAny_bind (wpAny_of_eq (a := ((Value.ref x : Value), [Value.str "__class__" t])) (by first | rfl | (simp only [slotArgs]; rfl)) ?_)
  refine wpAny_bind (wpAny_pure (wpAny_bind (K0.at (wpAny_bind (K3.at ?_)))))
  show wpAny _ _ (holding [Value.builtin "object.__class__"] (call (.builtin "getset_descriptor.__get__") [.builtin "object.__class__", .ref x, .ref D]) >>= ret) _ _ _
  refine wpAny_bind (wpAny_holding (wpAny_call (class_get (s := ⟨hp, g, d, t + 1, os⟩) (ox := ox) (od := some od) X I T.hm (wpAny_pure ?_))))
  show wpAny _ _ (handedOut (.ref D)) _ _ _
  rw [handedOut_of (v := .ref D) rfl]
  first
    | exact wpAny_pure (wpAny_pure h)
    | exact wpAny_pure h
    | exact wpAny_pure (wpAny_bind (wpAny_pure (wpAny_pure h)))
theorem kit_excD (T : ExcC K D) : KitX K (.ref x) (.ref D) (fun h => InstAt h x ox D (some od)) where
  ty := fun _ _ _ I => I.type
  it := fun _ _ X _ => by
    obtain ⟨cdD, hcD, _⟩ := any_some T.hd
    unfold clsIn at hcD
    split at hcD
    · rename_i c1 d1 cd1 sl1 ho
      intro A1 Q1 E1 s1 k q
      unfold isType loadHead
      exact wpAny_bind (wpAny_loadPart (k _ _ (X _ _ ho)) (wpAny_pure q))
    · cases hcD
  ne := fun h tp dd its n sl X htp => by
    obtain ⟨cdD, hcD, _⟩ := any_some T.hd
    refine Bool.eq_false_iff.mpr fun q => ?_
    have e : D = tp := Value.ref.inj (beq_iff_eq.mp q)
    subst e
    unfold clsIn at hcD
    split at hcD
    · rename_i c1 d1 cd1 sl1 ho
      have z := (X _ _ ho).symm.trans htp
      cases z
    · cases hcD
  ca := fun X I k => cls_of_exc T X I k
end
/-- the caught error at a, of the class at D, its dict at dd: it can be asked for its class -/
theorem exc_inst {X : Cx} {a D dd : Addr} {oe : Obj} {pn : List (Addr × Obj)} {pins : List (Addr × Obj)} {σ : L2.St} {H : Hp} {s : Shared} {fs : List (Str × V)} (hz : Zc (.ref D) (some dd) oe) (hf : ∃ vs, oe.data = .fields vs)
    (I : Inv (X.suite a ((a, oe) :: pn)) pins σ H s) (hd : H dd = some (.xd fs)) : ∃ od, PySem.W.InstAt s.heap a oe D (some od) := by
  obtain ⟨ha, _⟩ := I.pin (a, oe) (List.mem_append_left _ List.mem_cons_self)
  obtain ⟨vs, hv⟩ := hf
  have hx : ObjOk X.prog X.w H s.heap dd (.xd fs) := I.hok dd _ hd
  obtain ⟨mA, hns, hr⟩ := hx
  obtain ⟨od, ho, hl⟩ := lookIn_ns hns
  exact ⟨od, ha, hz.1, by unfold PySem.W.notCls; rw [hv] <;> rfl, by rw [hz.2]; exact ho⟩
/-- isinstance(e, c), isinstance(e, (c1, c2)) in the suite: t the class of e as a value -/
def rIsX (K : PySem.W.Frag) (a : Addr) (cls : Value) (d : Option Addr) : List V → Hp → VK → Prop := fun xs H Q =>
  ∃ (D dd : Addr) (fs : List (Str × V)), cls = .ref D ∧ d = some dd ∧ ExcC K D ∧ H dd = some (.xd fs) ∧
    ((∃ (c : V) (u : Value) (b : Bool), xs = [.ref a, c] ∧ ClsV c u ∧ PySem.W.kitOne K (.ref D) u = some b ∧ Q (.bl b) H) ∨
      ∃ (tp : Addr) (cs : List V) (us : List Value) (b : Bool), xs = [.ref a, .ref tp] ∧ H tp = some (.tup cs) ∧ Paired ClsV cs us ∧ PySem.W.kitAny K (.ref D) us = some b ∧ Q (.bl b) H)
theorem call_isX {X : Cx} {a : Addr} {cls : Value} {d : Option Addr} {oe : Obj} {pn : List (Addr × Obj)} (hz : Zc cls d oe) (hf : ∃ vs, oe.data = .fields vs) : CallR (X.suite a ((a, oe) :: pn)) (.builtin "isinstance") (rIsX X.K a cls d) := by
  intro pins s σ H xs us Q I r h
  obtain ⟨D, dd, fs, rfl, rfl, C, hd, h⟩ := h
  obtain ⟨od, J⟩ := exc_inst hz hf I hd
  rcases h with ⟨c, u, b, rfl, k, e, q⟩ | ⟨tp, cs, ws, b, rfl, hT, k, e, q⟩
  · obtain ⟨u1, u2, rfl, r1, r2⟩ := vals2 r
    cases (show u1 = Value.ref a from r1)
    have e2 := k.eq r2
    subst e2
    exact PySem.W.kia_one (kit_excD C) I.kIn J e (fun z => nomatch z) fun tk => ⟨.bl b, H, I.tok tk, rfl, q⟩
  · obtain ⟨u1, u2, rfl, r1, r2⟩ := vals2 r
    cases (show u1 = Value.ref a from r1)
    cases (show u2 = Value.ref tp from r2)
    obtain ⟨_, its, rv, o, h1, h2, n, h3⟩ := (show ObjOk X.prog X.w H s.heap tp (.tup cs) from I.hok tp _ hT)
    have e3 := ClsV.all k rv
    subst e3
    obtain ⟨oc, od', dt, sl⟩ := o
    simp only at h2 h3
    subst h2 h3
    exact PySem.W.kia_tup (kit_excD C) I.kIn J h1 e (fun z => nomatch z) fun tk => ⟨.bl b, H, I.tok tk, rfl, q⟩

/-! x == y by an own __eq__ -/
def rOwnI (K : PySem.W.Frag) (C : Addr) (sp : Sp) (E : XK) : R2 := fun x y H Q => ∃ a dx fs b C' dy gs, x = .ref a ∧ y = .ref b ∧ H a = some (.ins C dx fs) ∧ H b = some (.ins C' dy gs) ∧ PySem.W.notFirst K C (.ref C') = true ∧ sp [x, y] H Q E
section
variable {X : Cx} {CX : CXT} {k : Nat} {g C : Addr} {fd : FuncData} {ps : List Str} {sp : Sp} {E : XK}
theorem op_ownI {op : CmpOp} (hop : ∀ a b, compareOp op a b = richCompare op a b) (hs : PySem.W.findIn X.K (.ref C) (cmpInfo op).2.1 = some (some (.ref g))) (hf : PySem.W.isFn X.K (.ref g) = true) (F : FnOk X.prog X.w X.K X.mg X.base CX k g fd ps sp)
    (hr : Room k X.A) (hb : Binds X.K fd ps []) (hx : Passes CX X E) : OpR X (compareOp op) (rOwnI X.K C sp E) := by
  intro pins s σ H x y v u Q I rx ry h
  obtain ⟨a, dx, fs, b, C', dy, gs, rfl, rfl, ha, hbb, hn, q⟩ := h
  cases (show v = Value.ref a from rx)
  cases (show u = Value.ref b from ry)
  obtain ⟨mA, O, _⟩ := ins_get I.hok ha
  obtain ⟨od, J, _⟩ := O.look
  obtain ⟨mB, O2, _⟩ := ins_get I.hok hbb
  obtain ⟨od2, J2, _⟩ := O2.look
  obtain ⟨m, hF⟩ := I.fr
  rw [hop]
  refine PySem.W.cmp_K (op := op) (tb := .ref C') hr.units0 hF I.ok.mod.kin J J2.type hn hs hf ?_
  refine wpAny_mono (run_fn (us := [.ref a, .ref b]) (vs := [.ref a, .ref b]) F hr hb .nil hx I (.cons rfl (.cons rfl .nil)) (by rw [List.append_nil]; exact q)) (fun w s1 z => ?_) fun _ _ x => x
  obtain ⟨z1, H1, I1, rz, qz⟩ := z
  exact SlX.cmpback rz ⟨z1, H1, I1, rz, qz⟩
end

/-! C(e, ..) whose __init__ may raise, in a try: what is raised is wished for at the slots -/
def tMakeS (C : Addr) (sp : Sp) (dvs : List V) (E : L2.St → XK) (t : TA) : TE := fun σ H Q => t σ H fun vs H1 => ∀ x dx, H1 x = none → H1 dx = none → dx ≠ x →
  sp (.ref x :: (vs ++ dvs)) (upd (upd H1 dx (.own x)) x (.ins C dx [])) (fun v H2 => v = .non ∧ Q (.ref x) H2) (E σ)
section
variable {X : Cx} {CX : CXT} {k : Nat} {f C : Addr} {fd : FuncData} {ps : List Str} {sp : Sp} {dvs : List V} {ds : List Value} {E : L2.St → XK} {x : Str} {p pos : Pos} {e : Expr} {es : List Expr} {t : TA}
theorem pe_makeS (M : Mk X.K C f) (F : FnOk X.prog X.w X.K X.mg X.base CX k f fd ps sp) (hr : Room (k + 1) X.A) (hg : Gl X x) (hm : X.mg x = some (.ref C)) (hb : Binds X.K fd ps ds) (hd : Vals dvs ds) (hx : ∀ σ, PassesAt CX X σ (E σ))
    (ha : PA X (e :: es) t) (hdb : (x == ("__debug__" : Str)) = false := by decide) (he : starEach (e :: es) X.env = (false, eval e X.env) :: starEach es X.env := by rfl) (hpl : (backTo pos (starEach es X.env)).any (·.1) = false := by rfl) :
    PE X (.Call (.Name x p) (e :: es) [] pos) (tMakeS C sp dvs E t) := by
  refine ⟨fun pins s σ H Q I h => ?_⟩
  refine wpAny_Call_Name_kw (ld_glob I hg hm ?_ hdb)
  refine PySem.W.callWith_K (h₀ := X.base) I.ok.mod.kin M.kp (thn (ha.run pos pins s σ H _ I h) fun us s1 hh => ?_) he hpl
  obtain ⟨vs, H1, I1, r, q⟩ := hh
  refine ⟨I1.kIn, ?_⟩
  show wpAny _ _ (call (.ref C) us) _ _ _
  have hq := q (s1.heap.objs.size + 1) s1.heap.objs.size (I1.hok.fresh (Nat.le_succ _)) (I1.hok.fresh (Nat.le_refl _)) (Nat.ne_of_lt (Nat.lt_succ_self _))
  have I2 := Inv.made (C := C) I1
  have r2 : Vals (V.ref (s1.heap.objs.size + 1) :: (vs ++ dvs)) (Value.ref (s1.heap.objs.size + 1) :: (us ++ ds)) := .cons rfl (r.append hd)
  have hl : (Value.ref (s1.heap.objs.size + 1) :: us ++ ds).length = ps.length := by
    have e := r2.length
    rw [F.len _ _ _ _ hq] at e
    exact e.symm
  refine wpAny_call (make_map (f := f) I1.kIn M.makes M.init (beq_iff_eq.mp M.fn) (codeAny_mono (F.run _ X.stack _ _ ⟨Value.ref (s1.heap.objs.size + 1) :: us, []⟩ (Value.ref (s1.heap.objs.size + 1) :: (us ++ ds)) _ _ (E σ) (hr.make C us [])
    (I2.env0.make C us []) (hb _ (Value.ref (s1.heap.objs.size + 1) :: us) I2.kIn hl) r2 hq) fun r3 s3 hq3 => ?_))
  cases r3 with
  | error e => exact hx σ _ _ _ e s3 I2 hq3
  | ok fl =>
    cases fl with
    | ret u =>
      obtain ⟨v, H3, I3, rv, ev, q3⟩ := I2.after hq3
      subst ev
      exact ⟨rv, ⟨V.ref (s1.heap.objs.size + 1), H3, I3, rfl, q3⟩⟩
    | next => exact False.elim hq3
    | brk => exact False.elim hq3
    | cont => exact False.elim hq3
end
end Vk
set_option Elab.async false
set_option linter.all false
set_option maxRecDepth 100000
set_option maxHeartbeats 1000000
/-! texts as lists of codes; comprehensions over a text -/
namespace Vk
open PySem PySem.Spec PyProof.Rows L2
/-- the text of these codes -/
def S (l : List Nat) : Str := ⟨l.toArray⟩
theorem S_of (z : Str) : z = S z.cps.toList := by
  obtain ⟨a⟩ := z
  simp [S]
theorem S_len (l : List Nat) : (S l).length = l.length := by
  show l.toArray.size = l.length
  simp
theorem S_cps (l : List Nat) : (S l).cps.toList = l := by simp [S]
theorem S_size (l : List Nat) : (S l).cps.size = l.length := S_len l
theorem S_inj {a b : List Nat} : S a = S b ↔ a = b := by
  constructor
  · intro h
    have := congrArg (fun z : Str => z.cps.toList) h
    simpa [S] using this
  · rintro rfl
    rfl
theorem S_one (c : Nat) : (⟨#[c]⟩ : Str) = S [c] := rfl
theorem S_app (a b : List Nat) : S a ++ S b = S (a ++ b) := by
  show (⟨a.toArray ++ b.toArray⟩ : Str) = ⟨(a ++ b).toArray⟩
  simp
theorem S_get {l : List Nat} {i c : Nat} : (S l).cps[i]? = some c ↔ l[i]? = some c := by
  show l.toArray[i]? = some c ↔ _
  simp
theorem signs_S (l : List Nat) : signsOf (S l) = l.map fun c => S [c] := by
  unfold signsOf
  rw [S_cps]
  rfl
theorem S_cut (l : List Nat) (lo hi : Option Int) : cutS (S l) lo hi = S ((l.drop (HT.sIx l.length 0 lo)).take (HT.sIx l.length l.length hi - HT.sIx l.length 0 lo)) := by
  unfold cutS
  rw [S_cps, S_len]
  rfl
theorem S_to (l : List Nat) (k : Nat) : cutS (S l) none (some (k : Int)) = S (l.take k) := by
  rw [S_cut, HT.sIx_none, HT.sIx_nat, List.drop_zero, Nat.sub_zero]
  congr 1
  rw [← List.take_take, List.take_length]
theorem S_from (l : List Nat) (k : Nat) : cutS (S l) (some (k : Int)) none = S (l.drop k) := by
  rw [S_cut, HT.sIx_none, HT.sIx_nat]
  congr 1
  by_cases h : k ≤ l.length
  · rw [Nat.min_eq_left h]
    exact List.take_of_length_le (by rw [List.length_drop]; exact Nat.le_refl _)
  · rw [Nat.min_eq_right (by omega), Nat.sub_self, List.take_zero, List.drop_eq_nil_of_le (by omega)]
/-- what join does of single signs -/
theorem join_signs : ∀ l : List Nat, Txt.join (S []) (l.map fun c => S [c]) = S l := by
  have key : ∀ l : List Nat, Str.join (S []) (l.map fun c => S [c]) = S l := by
    intro l
    induction l with
    | nil => rfl
    | cons c r ih =>
      cases r with
      | nil => rfl
      | cons d r =>
        show S [c] ++ S [] ++ Str.join (S []) ((d :: r).map fun c => S [c]) = _
        rw [ih, S_app, S_app]
        rfl
  intro l
  exact (PySem.StrLaws.glued_eq_join _ _).trans (key l)
/-! sorted -/
def srtL (l : List Nat) : List Nat := l.mergeSort fun a b => decide (a ≤ b)
theorem srtL_perm (l : List Nat) : (srtL l).Perm l := List.mergeSort_perm _ _
theorem srtL_le (l : List Nat) : (srtL l).Pairwise (· ≤ ·) := by
  have h := List.pairwise_mergeSort (le := fun a b : Nat => decide (a ≤ b)) (by simp; omega) (by simp; omega) l
  exact h.imp fun h => by simpa using h
theorem srtL_len (l : List Nat) : (srtL l).length = l.length := (srtL_perm l).length_eq
theorem srtL_mem {l : List Nat} {c : Nat} : c ∈ srtL l ↔ c ∈ l := (srtL_perm l).mem_iff
theorem srtL_nodup {l : List Nat} : (srtL l).Nodup ↔ l.Nodup := (srtL_perm l).nodup_iff
theorem srt_eq {a b : List Nat} (p : a.Perm b) (ha : a.Pairwise (· ≤ ·)) : a = srtL b :=
  List.Perm.eq_of_pairwise (le := (· ≤ ·)) (fun x y _ _ h1 h2 => Nat.le_antisymm h1 h2) ha (srtL_le b) (p.trans (srtL_perm b).symm)
theorem srtL_congr {a b : List Nat} : srtL a = srtL b ↔ a.Perm b := by
  constructor
  · intro h
    exact (srtL_perm a).symm.trans (h ▸ srtL_perm b)
  · intro p
    exact srt_eq ((srtL_perm a).trans p) (srtL_le a)
theorem rising_le : ∀ (c : Nat) (l : List Nat), risingS (S [c]) (l.map fun c => S [c]) = true → (c :: l).Pairwise (· ≤ ·)
  | c, [], _ => by simp
  | c, d :: l, h => by
    have h' : (!ltCps (S [d]).cps.toList (S [c]).cps.toList && risingS (S [d]) (l.map fun c => S [c])) = true := h
    obtain ⟨h1, h2⟩ := Bool.and_eq_true_iff.mp h'
    have ih := rising_le d l h2
    have hcd : c ≤ d := by
      rw [ltCps_eq] at h1
      simp [S] at h1
      exact Nat.le_of_not_lt fun z => of_decide_eq_false h1 (List.Lex.rel z)
    rw [List.pairwise_cons]
    refine ⟨fun x hx => ?_, ih⟩
    rcases List.mem_cons.mp hx with rfl | hx
    · exact hcd
    · exact Nat.le_trans hcd ((List.pairwise_cons.mp ih).1 x hx)
theorem sorted_signs {l : List Nat} {ys : List Str} (p : ys.Perm (l.map fun c => S [c])) (h : sortedS ys = true) : ys = (srtL l).map fun c => S [c] := by
  have hq : ∃ zs : List Nat, ys = zs.map fun c => S [c] := by
    refine ⟨ys.map fun z => z.cps.toList.headD 0, ?_⟩
    rw [List.map_map]
    refine (List.map_id ys).symm.trans (List.map_congr_left fun y hy => ?_)
    obtain ⟨c, _, rfl⟩ := List.mem_map.mp (p.mem_iff.mp hy)
    simp [S]
  obtain ⟨zs, rfl⟩ := hq
  have hp : zs.Perm l := by
    have q := p.map fun z : Str => z.cps.toList.headD 0
    rw [List.map_map, List.map_map] at q
    have e : ∀ l : List Nat, l.map ((fun z : Str => z.cps.toList.headD 0) ∘ fun c => S [c]) = l := fun l => (List.map_congr_left fun c _ => by simp [S]).trans (List.map_id l)
    rw [e, e] at q
    exact q
  have hs : zs.Pairwise (· ≤ ·) := by
    cases zs with
    | nil => exact .nil
    | cons c r => exact rising_le c r h
  rw [srt_eq hp hs]
/-! a comprehension over a text -/
theorem lc_text {l : List Nat} {j : Nat} {tt : TT} {te : TE} {vs : List Nat} {σ : L2.St} {H1 : Hp} {D : Addr} {Qd : Hp → Prop} (p : Nat → Bool) (v : Nat → V) (hl : l.length ≤ 4000)
    (hw : ∀ x, wipe ((wipe σ vs).set j (some x)) vs = wipe σ vs)
    (ht : ∀ c ∈ l, ∀ (H2 : Hp) (Q : Bool → Hp → Prop), (∀ b, b ≠ D → H2 b = H1 b) → Q (p c) H2 → tt ((wipe σ vs).set j (some (.str (S [c])))) H2 Q)
    (he : ∀ c ∈ l, p c = true → ∀ (H2 : Hp) (Q : VK), (∀ b, b ≠ D → H2 b = H1 b) → Q (v c) H2 → te ((wipe σ vs).set j (some (.str (S [c])))) H2 Q)
    (hq : Qd (upd H1 D (.lst ((l.filter p).map v)))) :
    ∃ W : Nat → Nat → Hp → Prop, (∃ m, W 0 m (upd H1 D (.lst []))) ∧ ∀ i m H, W i m H →
      ((Its (S l)).stop i H ∧ Qd H) ∨ ((Its (S l)).go i H ∧ ∃ Nx : Hp → Prop, (∀ H', Nx H' → ∃ m', m' < m ∧ W (i + 1) m' H') ∧ ∀ x H', (Its (S l)).yld i H x H' → gName j x (wipe σ vs) H' fun σ2 H2 => wipe σ2 vs = wipe σ vs ∧ tt σ2 H2 fun b H3 =>
        if b = true then te σ2 H3 fun y H4 => ∃ acc, H4 D = some (.lst acc) ∧ acc.length < sizeLine ∧ Nx (upd H4 D (.lst (acc ++ [y]))) else Nx H3) := by
  have hz : (S l).cps.size = l.length := S_size l
  refine lc_it walk_str (fun i H => H = upd H1 D (.lst (((l.take i).filter p).map v))) rfl (fun _ _ _ _ => trivial) ?_ ?_
  · rintro i x H H' hi hP ⟨rfl, c, hc, rfl⟩
    subst hP
    have hc2 : l[i]? = some c := S_get.mp hc
    have hm : c ∈ l := List.mem_of_getElem? hc2
    have off : ∀ b, b ≠ D → (upd H1 D (.lst (((l.take i).filter p).map v))) b = H1 b := fun b hb => upd_ne hb
    have e1 : l.take (i + 1) = l.take i ++ [c] := by
      rw [List.take_add_one, hc2]
      rfl
    refine ⟨hw _, ht c hm _ _ off ?_⟩
    by_cases hp : p c = true
    · rw [if_pos hp]
      refine he c hm hp _ _ off ⟨_, upd_same, ?_, ?_⟩
      · rw [List.length_map, sizeLine_eq]
        have h1 := List.length_filter_le p (l.take i)
        rw [List.length_take] at h1
        omega
      · rw [upd_upd, e1, List.filter_append, List.filter_cons_of_pos hp, List.filter_nil, List.map_append]
        rfl
    · rw [if_neg hp, e1, List.filter_append, List.filter_cons_of_neg hp, List.filter_nil, List.append_nil]
  · rintro H rfl
    rw [hz, List.take_length]
    exact hq
end Vk
set_option Elab.async false
set_option linter.all false
set_option maxRecDepth 100000
set_option maxHeartbeats 4000000
namespace Vk
open PySem PySem.Spec PyProof.Rows L2
section
variable {X : Cx}
/-- list(text): its signs -/
theorem call_listT (hc : X.calm = true) : CallR X (.type "list") rListT := by
  intro pins s σ H xs us Q I r q
  obtain ⟨z, ex, hz, q⟩ := q
  subst ex
  obtain ⟨u, eu, rx⟩ := vals1 r
  subst eu
  obtain ⟨t, rfl⟩ := rx
  have hz2 : z.cps.size ≤ 4000 := hz
  refine call_list_str (hn := by rw [sizeLine_eq]; omega) (I.ok.hd hc) z t fun h' tk acc c' hk he hacc => ?_
  have hS := signs_strs hacc
  have hlen : ((signsOf z).map V.str).length ≤ sizeLine := by
    rw [List.length_map]
    unfold signsOf
    rw [List.length_map, Array.length_toList, sizeLine_eq]
    omega
  refine ⟨.ref s.heap.objs.size, upd H s.heap.objs.size (.lst ((signsOf z).map V.str)), I.laid (t' := tk) hk (Nat.le_refl _)
    (show ObjOk X.prog X.w _ _ _ (.lst ((signsOf z).map V.str)) from ⟨hlen, acc.toList, c', vals_of_strs hS, by rw [Array.toArray_toList]; exact he⟩), rfl, q _ (I.hok.fresh (Nat.le_refl _))⟩
def repL (n : Nat) (l : List Nat) : List Nat := (List.replicate n l).flatten
theorem repL_len (n : Nat) (l : List Nat) : (repL n l).length = n * l.length := by
  unfold repL
  rw [List.length_flatten, List.map_replicate, List.sum_replicate_nat]
theorem fold_rep (a : Array Nat) : ∀ (n : Nat) (acc : Array Nat), ((List.replicate n a).foldl (· ++ ·) acc).toList = acc.toList ++ (List.replicate n a.toList).flatten
  | 0, acc => by simp
  | n + 1, acc => by
    rw [List.replicate_succ, List.foldl_cons, fold_rep a n, List.replicate_succ, List.flatten_cons, Array.toList_append, List.append_assoc]
/-- text * number -/
def rMulT : R2 := fun x y H Q => ∃ (l : List Nat) (n : Nat), x = .str (S l) ∧ y = .int (n : Int) ∧ l.length * n ≤ 4000 ∧ n ≤ 4000 ∧ Q (.str (S (repL n l))) H
theorem op_mulT : OpR X (binaryOp .Mult) rMulT := by
  intro pins s σ H x y v u Q I rx ry h
  obtain ⟨l, n, rfl, rfl, hln, hn, q⟩ := h
  obtain ⟨t, rfl⟩ := rx
  obtain ⟨t', rfl⟩ := ry
  have hl := S_len l
  refine PySem.P.mul_str ?_ (fun h1 h2 => ?_) (fun h1 h2 => ?_) ?_
  · rw [decide_eq_false (by omega), decide_eq_false (by omega)]
    rfl
  · rw [hl]
    have h3 : (l.length : Int) ≤ (2 ^ 63 - 1) / (n : Int) := by
      refine Int.le_ediv_of_mul_le (by omega) ?_
      have : ((l.length * n : Nat) : Int) ≤ 4000 := by omega
      rw [Int.natCast_mul] at this
      omega
    omega
  · unfold PySem.Builtin.Str.tooLong
    rw [hl, Int.toNat_natCast, sizeLine_eq]
    exact decide_eq_false (by omega)
  · by_cases h1 : (n : Int) < 1
    · rw [if_pos h1]
      have e : n = 0 := by omega
      subst e
      exact ⟨by decide, ⟨.str (S (repL 0 l)), H, I.tok _, ⟨_, rfl⟩, q⟩⟩
    · rw [if_neg h1]
      by_cases h2 : ((n : Int) == 1 || (S l).length == 0) = true
      · rw [if_pos h2]
        have e : repL n l = l := by
          rcases Bool.or_eq_true_iff.mp h2 with h | h
          · have : n = 1 := by
              have := beq_iff_eq.mp h
              omega
            subst this
            unfold repL
            simp
          · have h3 := beq_iff_eq.mp h
            rw [hl] at h3
            have : l = [] := List.length_eq_zero_iff.mp h3
            subst this
            unfold repL
            simp
        rw [e] at q
        exact ⟨.str (S l), H, I, ⟨_, rfl⟩, q⟩
      · rw [if_neg h2]
        have e : (⟨(List.replicate (n : Int).toNat (S l).cps).foldl (· ++ ·) #[]⟩ : Str) = S (repL n l) := by
          rw [Int.toNat_natCast, S_of (⟨_⟩ : Str)]
          congr 1
          show ((List.replicate n (S l).cps).foldl (· ++ ·) #[]).toList = _
          rw [fold_rep, S_cps]
          rfl
        rw [e]
        refine ⟨?_, ⟨.str (S (repL n l)), H, I.tok _, ⟨_, rfl⟩, q⟩⟩
        rw [S_len, repL_len, sizeLine_eq, Nat.mul_comm]
        omega
end
end Vk
set_option Elab.async false
set_option linter.all false
set_option maxRecDepth 100000
set_option maxHeartbeats 4000000
namespace Vk
open PySem PySem.Spec PyProof.Rows L2
/-! V0: the readings, one step each, said the way a walk uses them -/
section
variable {D : Ends} {σ : L2.St} {H : Hp} {t u : TS} {te ta tb : TE} {c : TT} {Q : VK} {K : PySem.W.Frag}
theorem iSeq (h : t { nx := u D, rt := D.rt, bk := D.bk, ct := D.ct } σ H) : tSeq t u D σ H := h
theorem iNext (h : D.nx σ H) : tNext D σ H := h
theorem iBreak (h : D.bk σ H) : tBreak D σ H := h
theorem iCont (h : D.ct σ H) : tCont D σ H := h
theorem iDrop (h : te σ H fun _ H1 => D.nx σ H1) : tDrop te D σ H := h
theorem iRet (h : te σ H D.rt) : tRet te D σ H := h
theorem iRetN (h : D.rt .non H) : tRetN D σ H := h
theorem iIfS (h : c σ H fun b H1 => if b = true then t D σ H1 else u D σ H1) : tIfS c t u D σ H := h
theorem iAsg {g : TG} (h : te σ H fun x H1 => g x σ H1 D.nx) : tAsg te g D σ H := h
theorem iName {i : Nat} {v : V} {Q : L2.St → Hp → Prop} (h : Q (σ.set i (some v)) H) : gName i v σ H Q := h
theorem iSub {to ti : TE} {tt : TSet} {v : V} {Q : L2.St → Hp → Prop} (h : to σ H fun o H1 => ti σ H1 fun i H2 => tt o i v H2 fun H3 => Q σ H3) : gSub to ti tt v σ H Q := h
theorem iVar {i : Nat} {v : V} (e : σ[i]? = some (some v)) (h : Q v H) : tVar i σ H Q := ⟨v, e, h⟩
theorem iC {v : V} (h : Q v H) : tC v σ H Q := h
theorem iOp {r : R2} (h : ta σ H fun x H1 => tb σ H1 fun y H2 => r x y H2 Q) : tOp r ta tb σ H Q := h
theorem iUn {r : V → Hp → VK → Prop} (h : ta σ H fun x H1 => r x H1 Q) : tUn r ta σ H Q := h
theorem iI0 {g : Int → Int → V} {i j : Int} (h : Q (g i j) H) : rI0 g (.int i) (.int j) H Q := ⟨i, j, rfl, rfl, h⟩
theorem iI {C : Int → Int → Prop} {g : Int → Int → V} {i j : Int} (hc : C i j) (h : Q (g i j) H) : rI C g (.int i) (.int j) H Q := ⟨i, j, rfl, rfl, hc, h⟩
theorem iU {g : Int → V} {i : Int} (h : Q (g i) H) : rU g (.int i) H Q := ⟨i, rfl, h⟩
theorem iEq {x y : V} (hs : scal x y = true) (h : Q (.bl (decide (x = y))) H) : rEq x y H Q := ⟨hs, h⟩
theorem iNe {x y : V} (hs : scal x y = true) (h : Q (.bl (!decide (x = y))) H) : rNe x y H Q := ⟨hs, h⟩
theorem iB {Q : Bool → Hp → Prop} (h : te σ H fun x H1 => ∃ c, x = .bl c ∧ Q c H1) : tB te σ H Q := h
theorem iTest {Q : Bool → Hp → Prop} (h : te σ H fun x H1 => ∃ c, x = .bl c ∧ Q c H1) : tTest te σ H Q := h
theorem iAnd {t u : TT} {Q : Bool → Hp → Prop} (h : t σ H fun c H1 => if c = true then u σ H1 Q else Q false H1) : tAnd t u σ H Q := h
theorem iOr {t u : TT} {Q : Bool → Hp → Prop} (h : t σ H fun c H1 => if c = true then Q true H1 else u σ H1 Q) : tOr t u σ H Q := h
theorem iNot {t : TT} {Q : Bool → Hp → Prop} (h : t σ H fun c H1 => Q (!c) H1) : tNot t σ H Q := h
theorem iAndV (h : ta σ H fun x H1 => ∃ c, x = .bl c ∧ if c = true then tb σ H1 Q else Q (.bl false) H1) : tAndV ta tb σ H Q := h
theorem iOrV (h : ta σ H fun x H1 => ∃ c, x = .bl c ∧ if c = true then Q (.bl true) H1 else tb σ H1 Q) : tOrV ta tb σ H Q := h
theorem iNotV (h : ta σ H fun x H1 => ∃ c, x = .bl c ∧ Q (.bl (!c)) H1) : tNotV ta σ H Q := h
theorem iIfE (h : c σ H fun b H1 => if b = true then ta σ H1 Q else tb σ H1 Q) : tIf c ta tb σ H Q := h
theorem iNil {Q : List V → Hp → Prop} (h : Q [] H) : tNil σ H Q := h
theorem iCons {tr : TA} {Q : List V → Hp → Prop} (h : ta σ H fun x H1 => tr σ H1 fun xs H2 => Q (x :: xs) H2) : tCons ta tr σ H Q := h
theorem iTup {ts : TA} (h : ts σ H fun xs H1 => xs.length ≤ sizeLine ∧ ∀ p, H1 p = none → Q (.ref p) (upd H1 p (.tup xs))) : tTup ts σ H Q := h
theorem iLst {ts : TA} (h : ts σ H fun xs H1 => xs.length ≤ sizeLine ∧ ∀ p, H1 p = none → Q (.ref p) (upd H1 p (.lst xs))) : tLst ts σ H Q := h
theorem iCB {r : List V → Hp → VK → Prop} {ts : TA} (h : ts σ H fun vs H1 => r vs H1 Q) : tCB r ts σ H Q := h
theorem iCall {sp : Sp} {dvs : List V} {E : XK} {ts : TA} (h : ts σ H fun vs H1 => sp (vs ++ dvs) H1 Q E) : tCall sp dvs E ts σ H Q := h
theorem iFld {f : Str} (h : ta σ H fun x H1 => ∃ a C dx fs v, x = .ref a ∧ H1 a = some (.ins C dx fs) ∧ Cls K C ∧ NoAttr K C f ∧ fs.lookup f = some v ∧ Q v H1) : tFld K ta f σ H Q := h
theorem iM1 {r : V → List V → Hp → VK → Prop} {to : TE} (h : to σ H fun x H1 => (∃ a, x = .str a) ∧ te σ H1 fun y H2 => r x [y] H2 Q) : tM1 r to te σ H Q := h
theorem iBM {T : String} {r : V → List V → Hp → VK → Prop} {to : TE} {ts : TA} (h : to σ H fun x H1 => tyV K T x H1 ∧ ts σ H1 fun xs H2 => r x xs H2 Q) : tBM K T r to ts σ H Q := h
theorem iSl {r : V → Option Int → Option Int → Hp → VK → Prop} {tl th : TO} (h : te σ H fun x H1 => tl σ H1 fun l H2 => th σ H2 fun u H3 => r x l u H3 Q) : tSl r te tl th σ H Q := h
theorem iIxL {p : Addr} {xs : List V} {i : Int} {v : V} (hq : SqL K H p xs) (e : atI xs i = some v) (h : Q v H) : rIxL K (.ref p) (.int i) H Q := ⟨p, xs, i, v, rfl, rfl, hq, e, h⟩
theorem iIxT {p : Addr} {xs : List V} {i : Int} {v : V} (hq : SqT K H p xs) (e : atI xs i = some v) (h : Q v H) : rIxT K (.ref p) (.int i) H Q := ⟨p, xs, i, v, rfl, rfl, hq, e, h⟩
theorem iIxS {l : List Nat} {i : Int} {c : Nat} (hz : l.length ≤ 100000) (e : atI l i = some c) (h : Q (.str (S [c])) H) : rIxS (.str (S l)) (.int i) H Q :=
  ⟨S l, i, c, rfl, rfl, (by rw [S_len, sizeLine_eq]; omega), (by rw [S_cps]; exact e), h⟩
theorem iSlS {l : List Nat} {lo hi : Option Int} (hz : l.length ≤ 100000) (h : Q (.str (cutS (S l) lo hi)) H) : rSlS (.str (S l)) lo hi H Q :=
  ⟨S l, rfl, (by rw [S_len, sizeLine_eq]; omega), h⟩
theorem iBd {P : Prop} [Decidable P] {A B : Prop} (h1 : P → A) (h2 : ¬ P → B) : if decide P = true then A else B := ite2 (fun h => h1 (of_decide_eq_true h)) fun h => h2 fun p => h (decide_eq_true p)
theorem iBnd {P : Prop} [Decidable P] {A B : Prop} (h1 : ¬ P → A) (h2 : P → B) : if (!decide P) = true then A else B := ite2 (fun h => h1 (by simpa using h)) fun h => h2 (by simpa using h)
theorem iBb {b : Bool} {A B : Prop} (h1 : b = true → A) (h2 : b = false → B) : if b = true then A else B := ite2 h1 fun h => h2 (by simpa using h)
theorem iBbn {b : Bool} {A B : Prop} (h1 : b = false → A) (h2 : b = true → B) : if (!b) = true then A else B := ite2 (fun h => h1 (by simpa using h)) fun h => h2 (by simpa using h)
theorem iTT {A B : Prop} (h : A) : if true = true then A else B := iteT h
theorem iFF {A B : Prop} (h : B) : if false = true then A else B := iteF h
theorem iNTT {A B : Prop} (h : B) : if (!true) = true then A else B := iteF h
theorem iNFF {A B : Prop} (h : A) : if (!false) = true then A else B := iteT h
theorem iEx {α : Sort _} {p : α → Prop} (w : α) (h : p w) : ∃ x, p x := ⟨w, h⟩
theorem iSetL {p : Addr} {xs ys : List V} {i : Int} {j : Nat} {v : V} {Q : Hp → Prop} (h : H p = some (.lst xs)) (hj : ixN xs.length i = some j) (e : xs.set j v = ys) (k : Q (upd H p (.lst ys))) : rSetL (.ref p) (.int i) v H Q :=
  ⟨p, xs, i, j, rfl, rfl, h, hj, (by rw [e]; exact k)⟩
theorem iNoPart {Q : Option Int → Hp → Prop} (h : Q none H) : tNoPart σ H Q := h
theorem iPart {Q : Option Int → Hp → Prop} (h : te σ H fun x H1 => ∃ i, x = .int i ∧ Q (some i) H1) : tPart te σ H Q := h
theorem pe_strS {X : Cx} {x : Str} {l : List Nat} {j : Nat} {pos : Pos} (h : x = S l) : PE X (.Constant (.str x) j pos) (tC (.str (S l))) := h ▸ pe_str
theorem iSFld {tv : TE} {f : Str} (h : tv σ H fun y H1 => ta σ H1 fun x H2 => ∃ a C dx fs, x = .ref a ∧ H2 a = some (.ins C dx fs) ∧ Cls K C ∧ NoAttr K C f ∧ fs.length < 1000 ∧ D.nx σ (upd H2 a (.ins C dx (putF f y fs)))) : sFld K ta tv f D σ H := h
theorem eSFld {a C dx : Addr} {fs fs' : List (Str × V)} {f : Str} {y : V} (e1 : H a = some (.ins C dx fs)) (c : Cls K C) (n : NoAttr K C f) (hl : fs.length < 1000) (ep : putF f y fs = fs') (h : D.nx σ (upd H a (.ins C dx fs'))) :
    ∃ (b C dx : Addr) (gs : List (Str × V)), V.ref a = .ref b ∧ H b = some (.ins C dx gs) ∧ Cls K C ∧ NoAttr K C f ∧ gs.length < 1000 ∧ D.nx σ (upd H b (.ins C dx (putF f y gs))) := ⟨a, C, dx, fs, rfl, e1, c, n, hl, by rw [ep]; exact h⟩
theorem iCon {f : Str} (h : ta σ H fun x H1 => ∃ a C dx fs v u, x = .ref a ∧ H1 a = some (.ins C dx fs) ∧ Cls K C ∧ Con K C f v u ∧ fs.lookup f = none ∧ Q v H1) : tCon K ta f σ H Q := h
theorem iProp {C : Addr} {sp : Sp} {dvs : List V} {E : XK} (h : ta σ H fun x H1 => ∃ a dx fs, x = .ref a ∧ H1 a = some (.ins C dx fs) ∧ sp (.ref a :: dvs) H1 Q E) : tProp C sp dvs E ta σ H Q := h
theorem iMeth {C : Addr} {m : Str} {sp : Sp} {dvs : List V} {E : XK} {t : TA} (h : ta σ H fun x H1 => ∃ a dx fs, x = .ref a ∧ H1 a = some (.ins C dx fs) ∧ fs.lookup m = none ∧ t σ H1 fun vs H2 => sp (x :: (vs ++ dvs)) H2 Q E) : tMeth C m sp dvs E ta t σ H Q := h
theorem iCall0 {sp : Sp} {E : XK} {ts : TA} (h : ts σ H fun vs H1 => sp vs H1 Q E) : tCall sp [] E ts σ H Q := by
  have e : (fun (vs : List V) (H1 : Hp) => sp (vs ++ []) H1 Q E) = fun vs H1 => sp vs H1 Q E := by
    funext vs H1
    rw [List.append_nil]
  show ts σ H fun vs H1 => sp (vs ++ []) H1 Q E
  rw [e]
  exact h
theorem iMeth0 {C : Addr} {m : Str} {sp : Sp} {E : XK} {t : TA} (h : ta σ H fun x H1 => ∃ a dx fs, x = .ref a ∧ H1 a = some (.ins C dx fs) ∧ fs.lookup m = none ∧ t σ H1 fun vs H2 => sp (x :: vs) H2 Q E) : tMeth C m sp [] E ta t σ H Q := by
  have e : (fun (x : V) (H1 : Hp) => ∃ a dx fs, x = .ref a ∧ H1 a = some (.ins C dx fs) ∧ fs.lookup m = none ∧ t σ H1 fun vs H2 => sp (x :: (vs ++ [])) H2 Q E) = fun x H1 => ∃ a dx fs, x = .ref a ∧ H1 a = some (.ins C dx fs) ∧ fs.lookup m = none ∧ t σ H1 fun vs H2 => sp (x :: vs) H2 Q E := by
    funext x H1
    simp only [List.append_nil]
  show ta σ H fun (x : V) (H1 : Hp) => ∃ a dx fs, x = .ref a ∧ H1 a = some (.ins C dx fs) ∧ fs.lookup m = none ∧ t σ H1 fun vs H2 => sp (x :: (vs ++ [])) H2 Q E
  rw [e]
  exact h
/-- here the walk stands still -/
def Stop (p : Prop) : Prop := p
/-! while, by an invariant -/
def Less (W : Nat → L2.St → Hp → Prop) (m : Nat) : L2.St → Hp → Prop := fun σ' H' => ∃ m', m' < m ∧ W m' σ' H'
def WB (W : Nat → L2.St → Hp → Prop) (m : Nat) (tb : TS) (D : Ends) (b : Bool) (σ : L2.St) (H1 : Hp) : Prop :=
  if b = true then ∃ N : L2.St → Hp → Prop, (∀ σ' H', N σ' H' → ∃ m', m' < m ∧ W m' σ' H') ∧ tb { D with nx := N, ct := N, bk := D.nx } σ H1 else D.nx σ H1
theorem iWT {W : Nat → L2.St → Hp → Prop} {m : Nat} {tb : TS} (h : tb { nx := Less W m, rt := D.rt, bk := D.nx, ct := Less W m } σ H) : WB W m tb D true σ H := iteT ⟨Less W m, fun _ _ z => z, h⟩
theorem iWF {W : Nat → L2.St → Hp → Prop} {m : Nat} {tb : TS} (h : D.nx σ H) : WB W m tb D false σ H := iteF h
theorem iWD {P : Prop} [Decidable P] {W : Nat → L2.St → Hp → Prop} {m : Nat} {tb : TS} (h1 : P → tb { nx := Less W m, rt := D.rt, bk := D.nx, ct := Less W m } σ H) (h2 : ¬ P → D.nx σ H) : WB W m tb D (decide P) σ H := by
  by_cases h : P
  · rw [decide_eq_true h]
    exact iWT (h1 h)
  · rw [decide_eq_false h]
    exact iWF (h2 h)
theorem iWDN {P : Prop} [Decidable P] {W : Nat → L2.St → Hp → Prop} {m : Nat} {tb : TS} (h1 : ¬ P → tb { nx := Less W m, rt := D.rt, bk := D.nx, ct := Less W m } σ H) (h2 : P → D.nx σ H) : WB W m tb D (!decide P) σ H := by
  by_cases h : P
  · rw [decide_eq_true h]
    exact iWF (h2 h)
  · rw [decide_eq_false h]
    exact iWT (h1 h)
theorem while_w {c : TT} {tb : TS} (W : Nat → L2.St → Hp → Prop) (h0 : ∃ m, W m σ H) (hs : ∀ m σ H, W m σ H → c σ H fun b H1 => WB W m tb D b σ H1) : tWhile c tb D σ H := ⟨W, h0, hs⟩
/-! heaps -/
theorem upd_old {p x : Addr} {o u : HO} (hp : H p = none) (h : H x = some u) : upd H p o x = some u := by
  rw [upd_ne (ne_of_none h hp)]
  exact h
theorem upd_oth {p x : Addr} {o u : HO} (hp : x ≠ p) (h : H x = some u) : upd H p o x = some u := by rw [upd_ne hp]; exact h
theorem Same.get {H' : Hp} {x : Addr} {u : HO} (s : Same H H') (h : H x = some u) : H' x = some u := s _ _ h
/-- all but the listed stand as they stood -/
def Fr (L : List Addr) (H H' : Hp) : Prop := ∀ x u, x ∉ L → H x = some u → H' x = some u
theorem Fr.get {H' : Hp} {L : List Addr} {x : Addr} {u : HO} (s : Fr L H H') (hx : x ∉ L) (h : H x = some u) : H' x = some u := s _ _ hx h
theorem Fr.refl (L : List Addr) (H : Hp) : Fr L H H := fun _ _ _ h => h
theorem Fr.trans {L : List Addr} {H H1 H2 : Hp} (a : Fr L H H1) (b : Fr L H1 H2) : Fr L H H2 := fun x u n h => b x u n (a x u n h)
theorem Fr.of_same {L : List Addr} {H H1 : Hp} (a : Same H H1) : Fr L H H1 := fun x u _ h => a x u h
theorem Fr.upd_in {L : List Addr} {H : Hp} {p : Addr} {o : HO} (hp : p ∈ L) : Fr L H (upd H p o) := fun x u n h => upd_oth (fun z => n (z ▸ hp)) h
theorem Fr.upd_new {L : List Addr} {H : Hp} {p : Addr} {o : HO} (hp : H p = none) : Fr L H (upd H p o) := fun x u _ h => upd_old hp h
theorem Fr.mono {L M : List Addr} {H H1 : Hp} (a : Fr L H H1) (h : ∀ x ∈ L, x ∈ M) : Fr M H H1 := fun x u n e => a x u (fun z => n (h x z)) e
theorem Fr.in0 {L : List Addr} {H : Hp} {p : Addr} {o : HO} : Fr (p :: L) H (upd H p o) := Fr.upd_in List.mem_cons_self
theorem Fr.in1 {L : List Addr} {H : Hp} {p q : Addr} {o : HO} : Fr (q :: p :: L) H (upd H p o) := Fr.upd_in (List.mem_cons_of_mem _ List.mem_cons_self)
theorem Fr.in2 {L : List Addr} {H : Hp} {p q r : Addr} {o : HO} : Fr (q :: r :: p :: L) H (upd H p o) := Fr.upd_in (List.mem_cons_of_mem _ (List.mem_cons_of_mem _ List.mem_cons_self))
theorem Fr.wk {L : List Addr} {H H1 : Hp} {p : Addr} (h : Fr L H H1) : Fr (p :: L) H H1 := h.mono fun _ hx => List.mem_cons_of_mem _ hx
theorem Fr.wk1 {H H1 : Hp} {p q : Addr} (h : Fr [p] H H1) : Fr [p, q] H H1 := h.mono fun x hx => by
  rw [List.mem_singleton] at hx
  subst hx
  exact List.mem_cons_self
theorem Same.upd_new {H : Hp} {p : Addr} {o : HO} (hp : H p = none) : Same H (upd H p o) := fun x u h => upd_old hp h
theorem Same.tr {H H1 H2 : Hp} (a : Same H H1) (b : Same H1 H2) : Same H H2 := fun x u h => b x u (a x u h)
theorem Fr.same {H H1 : Hp} (a : Fr [] H H1) : Same H H1 := fun x u h => a x u (List.not_mem_nil) h
theorem Fr.none {L : List Addr} {H H1 : Hp} {x : Addr} (a : Fr L H H1) (hx : x ∉ L) (h : H1 x = none) : H x = none := by
  cases e : H x with
  | none => rfl
  | some u => rw [a x u hx e] at h; cases h
end
end Vk
/-! the walk -/
section
open Vk L2
local macro_rules | `(tactic| walk_at "lk") => `(tactic| first
  | assumption
  | exact upd_same
  | (refine upd_old (by assumption) ?_; walk_at "lk")
  | (refine upd_oth (by first | assumption | (apply Ne.symm; assumption)) ?_; walk_at "lk")
  | (refine Same.get (by assumption) ?_; walk_at "lk"))
example {H : L2.Hp} {a p : PySem.Addr} {o u : L2.HO} (h : H a = some u) (hp : H p = none) : L2.upd H p o a = some u := by walk_at "lk"
end
set_option Elab.async false
set_option linter.all false
set_option maxRecDepth 100000
set_option maxHeartbeats 4000000
namespace Vk
open PySem PySem.Spec PyProof.Rows L2
/-! V1: texts as lists of signs -/
theorem S_le {l : List Nat} (h : l.length ≤ 100000) : (S l).length ≤ sizeLine := by rw [S_len, sizeLine_eq]; omega
def rAddS : R2 := fun x y H Q => ∃ a b : List Nat, x = .str (S a) ∧ y = .str (S b) ∧ a.length + b.length ≤ 100000 ∧ Q (.str (S (a ++ b))) H
theorem op_addS {X : Cx} : OpR X (binaryOp .Add) rAddS := by
  intro pins s σ H x y v u Q I rx ry h
  obtain ⟨a, b, rfl, rfl, hz, q⟩ := h
  refine op_add_str pins s σ H _ _ v u Q I rx ry ⟨S a, S b, rfl, rfl, ?_, ?_⟩
  · rw [S_len, S_len, sizeLine_eq]; omega
  · rw [S_app]; exact q
def rLenS1 : List V → Hp → VK → Prop := fun xs H Q => ∃ l : List Nat, xs = [.str (S l)] ∧ l.length ≤ 100000 ∧ Q (.int (l.length : Nat)) H
theorem call_lenS {X : Cx} : CallR X (.builtin "len") rLenS1 := by
  intro pins s σ H xs us Q I r h
  obtain ⟨l, rfl, hz, q⟩ := h
  refine call_len_str pins s σ H _ us Q I r ⟨S l, rfl, S_le hz, ?_⟩
  rw [S_len]
  exact q
def rInS (neg : Bool) : R2 := fun x y H Q => ∃ (c : Nat) (l : List Nat), x = .str (S [c]) ∧ y = .str (S l) ∧ Q (.bl (if neg then !decide (c ∈ l) else decide (c ∈ l))) H
theorem op_inS {X : Cx} : OpR X (compareOp .In) (rInS false) := by
  intro pins s σ H x y v u Q I rx ry h
  obtain ⟨c, l, rfl, rfl, q⟩ := h
  exact op_in_sign pins s σ H _ _ v u Q I rx ry ⟨c, S l, rfl, rfl, by simpa [S_cps] using q⟩
theorem op_notInS {X : Cx} : OpR X (compareOp .NotIn) (rInS true) := by
  intro pins s σ H x y v u Q I rx ry h
  obtain ⟨c, l, rfl, rfl, q⟩ := h
  exact op_notIn_sign pins s σ H _ _ v u Q I rx ry ⟨c, S l, rfl, rfl, by simpa [S_cps] using q⟩
/-! the place of a sign -/
def n1 (l : List Nat) (c : Nat) : Nat := (l.takeWhile (· != c)).length
theorem n1_le (l : List Nat) (c : Nat) : n1 l c ≤ l.length := (List.takeWhile_prefix _).length_le
theorem n1_nil (c : Nat) : n1 [] c = 0 := rfl
theorem n1_cons (x : Nat) (l : List Nat) (c : Nat) : n1 (x :: l) c = if x = c then 0 else n1 l c + 1 := by
  unfold n1
  rw [List.takeWhile_cons]
  by_cases h : x = c
  · rw [if_pos h]
    simp [h]
  · rw [if_neg h]
    simp [h]
theorem n1_mem {l : List Nat} {c : Nat} : c ∈ l ↔ n1 l c < l.length := by
  induction l with
  | nil => simp [n1]
  | cons x r ih =>
    rw [n1_cons, List.mem_cons, List.length_cons]
    by_cases h : x = c
    · rw [if_pos h]
      simp [h]
    · rw [if_neg h]
      have h2 : ¬ c = x := fun z => h z.symm
      simp only [h2, false_or, ih]
      omega
theorem n1_not {l : List Nat} {c : Nat} (h : c ∉ l) : n1 l c = l.length := by
  have h1 := n1_le l c
  have h2 : ¬ n1 l c < l.length := fun z => h (n1_mem.mpr z)
  omega
theorem n1_at {l : List Nat} {c : Nat} (h : c ∈ l) : l[n1 l c]? = some c := by
  induction l with
  | nil => cases h
  | cons x r ih =>
    rw [n1_cons]
    by_cases hx : x = c
    · rw [if_pos hx, hx]
      rfl
    · rw [if_neg hx, List.getElem?_cons_succ]
      refine ih ?_
      rcases List.mem_cons.mp h with h | h
      · exact absurd h.symm hx
      · exact h
theorem n1_before {l : List Nat} {c k : Nat} (h : k < n1 l c) : l[k]? ≠ some c := by
  induction l generalizing k with
  | nil => simp
  | cons x r ih =>
    rw [n1_cons] at h
    by_cases hx : x = c
    · rw [if_pos hx] at h
      omega
    · rw [if_neg hx] at h
      cases k with
      | zero => simpa using hx
      | succ k =>
        rw [List.getElem?_cons_succ]
        exact ih (by omega)
theorem n1_eq {l : List Nat} {c k : Nat} (h : l[k]? = some c) (hb : ∀ j, j < k → l[j]? ≠ some c) : n1 l c = k := by
  have hm : c ∈ l := List.mem_of_getElem? h
  have h1 := n1_at hm
  rcases Nat.lt_trichotomy (n1 l c) k with h2 | h2 | h2
  · exact absurd h1 (hb _ h2)
  · exact h2
  · exact absurd h (n1_before h2)
theorem at_one (l : List Nat) (c i : Nat) : StrLaws.At (S l) (S [c]) (S l).length i ↔ l[i]? = some c := by
  have h := StrLaws.subAt_one (S l) c i
  rw [show (⟨#[c]⟩ : Str) = S [c] from rfl] at h
  rw [S_cps] at h
  exact h
theorem findS (l : List Nat) (c : Nat) : Txt.find (S l) (S [c]) = if c ∈ l then (n1 l c : Int) else -1 := by
  unfold Txt.find
  rcases StrLaws.occ_head (S l) (S [c]) 1 (Nat.le_refl 1) with ⟨h0, hn⟩ | ⟨i, r, h0, hi, hn⟩
  · rw [h0]
    have hc : c ∉ l := fun hm => by
      obtain ⟨j, hj⟩ := List.getElem?_of_mem hm
      exact hn j ((at_one l c j).mpr hj)
    rw [if_neg hc]
  · rw [h0]
    have h1 := (at_one l c i).mp hi
    rw [if_pos (List.mem_of_getElem? h1), n1_eq h1 fun j hj e => hn j hj ((at_one l c j).mpr e)]
theorem startsS (l : List Nat) (c : Nat) : Txt.startswith (S l) (S [c]) = decide (l[0]? = some c) := by
  have h := at_one l c 0
  unfold StrLaws.At at h
  unfold Txt.startswith
  rw [Bool.eq_iff_iff, Bool.and_eq_true, decide_eq_true_eq, decide_eq_true_eq]
  exact h
theorem partS (l : List Nat) (c : Nat) : (Txt.partition (S l) (S [c])).1 = S (l.take (n1 l c)) := by
  have ey : TL.tl (S [c]) = c :: [] := by simp [TL.tl, S]
  by_cases h : c ∈ l
  · have h1 := n1_at h
    have hlt : n1 l c < l.length := n1_mem.mp h
    have e : S l = S (l.take (n1 l c)) ++ S [c] ++ S (l.drop (n1 l c + 1)) := by
      rw [S_app, S_app]
      congr 1
      have e2 : l.drop (n1 l c) = c :: l.drop (n1 l c + 1) := by
        rw [List.drop_eq_getElem_cons hlt]
        rw [List.getElem?_eq_getElem hlt] at h1
        rw [Option.some.inj h1]
      rw [List.append_assoc, List.singleton_append, ← e2, List.take_append_drop]
    have hno : c ∉ TL.tl (S (l.take (n1 l c))) := by
      have : TL.tl (S (l.take (n1 l c))) = l.take (n1 l c) := by simp [TL.tl, S]
      rw [this]
      intro hm
      obtain ⟨j, hj⟩ := List.getElem?_of_mem hm
      have hj2 : j < n1 l c := by
        have := (List.getElem?_eq_some_iff.mp hj).1
        rw [List.length_take] at this
        omega
      rw [List.getElem?_take_of_lt hj2] at hj
      exact n1_before hj2 hj
    have q := TL.partition_app (y := S [c]) ey (a := S (l.take (n1 l c))) (b := S (l.drop (n1 l c + 1))) hno
    rw [← e] at q
    rw [q]
  · have hno : c ∉ TL.tl (S l) := by
      have : TL.tl (S l) = l := by simp [TL.tl, S]
      rw [this]
      exact h
    rw [TL.partition_none ey hno, n1_not h, List.take_length]
/-! cuts -/
section
variable {H : Hp} {Q : VK} {l : List Nat} {i j : Int} {m n : Nat}
theorem iSlTo (hz : l.length ≤ 100000) (e : i = (n : Int)) (h : Q (.str (S (l.take n))) H) : rSlS (.str (S l)) none (some i) H Q := by
  subst e
  refine ⟨S l, rfl, S_le hz, ?_⟩
  rw [S_to]
  exact h
theorem iSlFrom (hz : l.length ≤ 100000) (e : i = (n : Int)) (h : Q (.str (S (l.drop n))) H) : rSlS (.str (S l)) (some i) none H Q := by
  subst e
  refine ⟨S l, rfl, S_le hz, ?_⟩
  rw [S_from]
  exact h
theorem S_mid (l : List Nat) (m n : Nat) : cutS (S l) (some (m : Int)) (some (n : Int)) = S ((l.take n).drop m) := by
  rw [S_cut]
  have e1 : HT.sIx l.length 0 (some (m : Int)) = min m l.length := by
    have q := S_from l m
    unfold HT.sIx
    simp only []
    split
    · omega
    · omega
  have e2 : HT.sIx l.length l.length (some (n : Int)) = min n l.length := by
    unfold HT.sIx
    simp only []
    split
    · omega
    · omega
  rw [e1, e2]
  congr 1
  rw [List.drop_take]
  by_cases h : m ≤ l.length
  · rw [Nat.min_eq_left h]
    by_cases h2 : n ≤ l.length
    · rw [Nat.min_eq_left h2]
    · rw [Nat.min_eq_right (Nat.le_of_not_le h2)]
      have h3 : (l.drop m).length = l.length - m := List.length_drop
      rw [List.take_of_length_le (Nat.le_of_eq h3), List.take_of_length_le (by omega)]
  · rw [Nat.min_eq_right (Nat.le_of_not_le h), List.drop_of_length_le (Nat.le_refl _), List.drop_of_length_le (Nat.le_of_not_le h)]
    simp
theorem iSlMid (hz : l.length ≤ 100000) (e1 : i = (m : Int)) (e2 : j = (n : Int)) (h : Q (.str (S ((l.take n).drop m))) H) : rSlS (.str (S l)) (some i) (some j) H Q := by
  subst e1 e2
  refine ⟨S l, rfl, S_le hz, ?_⟩
  rw [S_mid]
  exact h
end
theorem iAddS {a b : List Nat} {H : Hp} {Q : VK} (hz : a.length + b.length ≤ 100000) (h : Q (.str (S (a ++ b))) H) : rAddS (.str (S a)) (.str (S b)) H Q := ⟨a, b, rfl, rfl, hz, h⟩
theorem iLenS1 {l : List Nat} {H : Hp} {Q : VK} (hz : l.length ≤ 100000) (h : Q (.int (l.length : Nat)) H) : rLenS1 [.str (S l)] H Q := ⟨l, rfl, hz, h⟩
theorem iInS {c : Nat} {l : List Nat} {H : Hp} {Q : VK} (h : Q (.bl (decide (c ∈ l))) H) : rInS false (.str (S [c])) (.str (S l)) H Q := ⟨c, l, rfl, rfl, by simpa using h⟩
theorem iNotInS {c : Nat} {l : List Nat} {H : Hp} {Q : VK} (h : Q (.bl (!decide (c ∈ l))) H) : rInS true (.str (S [c])) (.str (S l)) H Q := ⟨c, l, rfl, rfl, by simpa using h⟩
def rFindS : V → List V → Hp → VK → Prop := fun x xs H Q => ∃ (l : List Nat) (c : Nat), x = .str (S l) ∧ xs = [.str (S [c])] ∧ Q (.int (if c ∈ l then (n1 l c : Int) else -1)) H
theorem mt_findS {X : Cx} : MtR X "str.find" rFindS := by
  intro pins s σ H x xs v us Q I rx rs h
  obtain ⟨l, c, rfl, rfl, q⟩ := h
  exact mt_find pins s σ H _ _ v us Q I rx rs ⟨_, _, rfl, rfl, by rw [findS]; exact q⟩
def rStartS : V → List V → Hp → VK → Prop := fun x xs H Q => ∃ (l : List Nat) (c : Nat), x = .str (S l) ∧ xs = [.str (S [c])] ∧ Q (.bl (decide (l[0]? = some c))) H
theorem mt_startS {X : Cx} : MtR X "str.startswith" rStartS := by
  intro pins s σ H x xs v us Q I rx rs h
  obtain ⟨l, c, rfl, rfl, q⟩ := h
  exact mt_startswith pins s σ H _ _ v us Q I rx rs ⟨_, _, rfl, rfl, by rw [startsS]; exact q⟩
def rPartS : V → List V → Hp → VK → Prop := fun x xs H Q => ∃ (l : List Nat) (c : Nat), x = .str (S l) ∧ xs = [.str (S [c])] ∧ l.length ≤ 100000 ∧ ∀ p, H p = none → ∀ y z : V, Q (.ref p) (upd H p (.tup [.str (S (l.take (n1 l c))), y, z]))
theorem mt_partS {X : Cx} : MtR X "str.partition" rPartS := by
  intro pins s σ H x xs v us Q I rx rs h
  obtain ⟨l, c, rfl, rfl, hz, q⟩ := h
  exact mt_partition pins s σ H _ _ v us Q I rx rs ⟨_, _, rfl, rfl, rfl, S_le hz, fun p hp => by rw [partS]; exact q p hp _ _⟩
theorem iFindS {c : Nat} {l : List Nat} {H : Hp} {Q : VK} (h : Q (.int (if c ∈ l then (n1 l c : Int) else -1)) H) : rFindS (.str (S l)) [.str (S [c])] H Q := ⟨l, c, rfl, rfl, h⟩
theorem iFindYes {c : Nat} {l : List Nat} {H : Hp} {Q : VK} (hc : c ∈ l) (h : Q (.int (n1 l c : Nat)) H) : rFindS (.str (S l)) [.str (S [c])] H Q := iFindS (by rw [if_pos hc]; exact h)
theorem iFindNo {c : Nat} {l : List Nat} {H : Hp} {Q : VK} (hc : ¬ c ∈ l) (h : Q (.int (-1)) H) : rFindS (.str (S l)) [.str (S [c])] H Q := iFindS (by rw [if_neg hc]; exact h)
theorem iStartS {c : Nat} {l : List Nat} {H : Hp} {Q : VK} (h : Q (.bl (decide (l[0]? = some c))) H) : rStartS (.str (S l)) [.str (S [c])] H Q := ⟨l, c, rfl, rfl, h⟩
theorem iPartS {c : Nat} {l : List Nat} {H : Hp} {Q : VK} (hz : l.length ≤ 100000) (h : ∀ p, H p = none → ∀ y z : V, Q (.ref p) (upd H p (.tup [.str (S (l.take (n1 l c))), y, z]))) : rPartS (.str (S l)) [.str (S [c])] H Q := ⟨l, c, rfl, rfl, hz, h⟩
theorem inV_S (t : List Nat) : ∀ us : List (List Nat), inV (.str (S t)) (us.map fun l => V.str (S l)) = decide (t ∈ us)
  | [] => rfl
  | u :: r => by
    have ih := inV_S t r
    unfold inV at ih ⊢
    rw [List.map_cons, List.any_cons, ih]
    have e : eqV (V.str (S u)) (V.str (S t)) = decide (t = u) := by
      show (S u == S t) = _
      by_cases h : t = u
      · subst h
        simp
      · have h2 : S u ≠ S t := fun e => h (S_inj.mp e).symm
        rw [beq_eq_false_iff_ne.mpr h2, decide_eq_false h]
    rw [e, Bool.eq_iff_iff]
    simp
/-- a text among written texts -/
theorem iInL {K : PySem.W.Frag} {p : Addr} {t : List Nat} {us : List (List Nat)} {xs : List V} {H : Hp} {Q : VK} (hq : SqL K H p xs ∨ SqT K H p xs) (hx : xs = us.map fun l => V.str (S l)) (h : Q (.bl (decide (t ∈ us))) H) : rIn K false (.str (S t)) (.ref p) H Q := by
  subst hx
  refine ⟨p, _, rfl, hq, rfl, ?_, ?_⟩
  · rw [List.all_map]
    simp [flatV]
  · rw [if_neg Bool.false_ne_true, inV_S]
    exact h
theorem iNInL {K : PySem.W.Frag} {p : Addr} {t : List Nat} {us : List (List Nat)} {xs : List V} {H : Hp} {Q : VK} (hq : SqL K H p xs ∨ SqT K H p xs) (hx : xs = us.map fun l => V.str (S l)) (h : Q (.bl (!decide (t ∈ us))) H) : rIn K true (.str (S t)) (.ref p) H Q := by
  subst hx
  refine ⟨p, _, rfl, hq, rfl, ?_, ?_⟩
  · rw [List.all_map]
    simp [flatV]
  · rw [if_pos rfl, inV_S]
    exact h
end Vk
set_option Elab.async false
set_option linter.all false
set_option maxRecDepth 100000
set_option maxHeartbeats 4000000
namespace Vk
open PySem PySem.Spec PyProof.Rows L2
/-! V2: isinstance -/
section
variable {K : PySem.W.Frag} {H : Hp} {Q : VK}
theorem isi_int_int {i : Int} (h : Q (.bl true) H) : rIsi K [.int i, .ty "int"] H Q := ⟨_, _, _, _, true, rfl, .ty "int", .base (.int i), rfl, h⟩
theorem isi_int_bool {i : Int} (h : Q (.bl false) H) : rIsi K [.int i, .ty "bool"] H Q := ⟨_, _, _, _, false, rfl, .ty "bool", .base (.int i), rfl, h⟩
theorem isi_int_str {i : Int} (h : Q (.bl false) H) : rIsi K [.int i, .ty "str"] H Q := ⟨_, _, _, _, false, rfl, .ty "str", .base (.int i), rfl, h⟩
theorem isi_str_str {z : Str} (h : Q (.bl true) H) : rIsi K [.str z, .ty "str"] H Q := ⟨_, _, _, _, true, rfl, .ty "str", .base (.str z), rfl, h⟩
theorem isi_str_int {z : Str} (h : Q (.bl false) H) : rIsi K [.str z, .ty "int"] H Q := ⟨_, _, _, _, false, rfl, .ty "int", .base (.str z), rfl, h⟩
theorem isi_str_bool {z : Str} (h : Q (.bl false) H) : rIsi K [.str z, .ty "bool"] H Q := ⟨_, _, _, _, false, rfl, .ty "bool", .base (.str z), rfl, h⟩
theorem isi_bl_bool {b : Bool} (h : Q (.bl true) H) : rIsi K [.bl b, .ty "bool"] H Q := ⟨_, _, _, _, true, rfl, .ty "bool", .base (.bl b), rfl, h⟩
theorem isi_bl_int {b : Bool} (h : Q (.bl true) H) : rIsi K [.bl b, .ty "int"] H Q := ⟨_, _, _, _, true, rfl, .ty "int", .base (.bl b), rfl, h⟩
theorem isi_bl_str {b : Bool} (h : Q (.bl false) H) : rIsi K [.bl b, .ty "str"] H Q := ⟨_, _, _, _, false, rfl, .ty "str", .base (.bl b), rfl, h⟩
end
end Vk
set_option Elab.async false
set_option linter.all false
set_option maxRecDepth 100000
set_option maxHeartbeats 4000000
namespace Vk
open PySem PySem.Spec PyProof.Rows L2
/-! V3: comprehensions, loops, texts joined -/
theorem SqL.off {K : PySem.W.Frag} {H1 H2 : Hp} {a D : Addr} {xs : List V} (h : SqL K H1 a xs) (hD : H1 D = none) (off : ∀ b, b ≠ D → H2 b = H1 b) : SqL K H2 a xs := by
  rcases h with h | h
  · refine .inl ?_
    rcases h with h | ⟨o, h⟩
    · exact .inl ((off a (ne_of_none h hD)).trans h)
    · exact .inr ⟨o, (off a (ne_of_none h hD)).trans h⟩
  · exact .inr h
theorem SqL.same {K : PySem.W.Frag} {H1 H2 : Hp} {a : Addr} {xs : List V} (h : SqL K H1 a xs) (s : Same H1 H2) : SqL K H2 a xs := by
  rcases h with h | h
  · refine .inl ?_
    rcases h with h | ⟨o, h⟩
    · exact .inl (s _ _ h)
    · exact .inr ⟨o, s _ _ h⟩
  · exact .inr h
section
variable {K : PySem.W.Frag} {σ : L2.St} {H H1 : Hp} {Q : VK} {te tl : TE} {tt : TT} {vs : List Nat} {g : TG} {ta : TA}
/-- the loop of a comprehension, for the walk to stop at -/
def LcG (J : It) (g : TG) (tt : TT) (te : TE) (vs : List Nat) (σ : L2.St) (H1 : Hp) (D : Addr) (Q : VK) : Prop := ∃ W : Nat → Nat → Hp → Prop, (∃ m, W 0 m (upd H1 D (.lst []))) ∧ ∀ i m H, W i m H →
  (J.stop i H ∧ Q (.ref D) H) ∨ (J.go i H ∧ ∃ Nx : Hp → Prop, (∀ H', Nx H' → ∃ m', m' < m ∧ W (i + 1) m' H') ∧ ∀ x H', J.yld i H x H' → g x (wipe σ vs) H' fun σ2 H2 => wipe σ2 vs = wipe σ vs ∧ tt σ2 H2 fun b H3 =>
    if b = true then te σ2 H3 fun y H4 => ∃ acc, H4 D = some (.lst acc) ∧ acc.length < sizeLine ∧ Nx (upd H4 D (.lst (acc ++ [y]))) else Nx H3)
theorem iLcL (h : tl σ H fun x H1 => ∃ a, x = .ref a ∧ (∃ xs, SqL K H1 a xs) ∧ ∀ D, H1 D = none → LcG (Itl K a) g tt te vs σ H1 D Q) : tLc (iList K tl) g tt te vs σ H Q := h
theorem iLcS (h : tl σ H fun x H1 => ∃ z, x = .str z ∧ ∀ D, H1 D = none → LcG (Its z) g tt te vs σ H1 D Q) : tLc (iStr tl) g tt te vs σ H Q := h
theorem iLcR1 (h : ta σ H fun ws H1 => ∃ j : Int, ws = [.int j] ∧ -(2 ^ 62) ≤ j ∧ j < 2 ^ 62 ∧ ∀ D, H1 D = none → LcG (Itr 0 j.toNat) g tt te vs σ H1 D Q) : tLc (iRng1 ta) g tt te vs σ H Q := h
/-- a comprehension over a list that stands still, nothing else done -/
theorem lcg_list {a D : Addr} {xs : List V} {j : Nat} (p : V → Bool) (v : V → V) (hl : xs.length ≤ 4000) (hx : SqL K H1 a xs) (hD : H1 D = none)
    (hw : ∀ x, wipe ((wipe σ vs).set j (some x)) vs = wipe σ vs)
    (ht : ∀ x ∈ xs, ∀ (H2 : Hp) (Q : Bool → Hp → Prop), (∀ b, b ≠ D → H2 b = H1 b) → Q (p x) H2 → tt ((wipe σ vs).set j (some x)) H2 Q)
    (he : ∀ x ∈ xs, p x = true → ∀ (H2 : Hp) (Q : VK), (∀ b, b ≠ D → H2 b = H1 b) → Q (v x) H2 → te ((wipe σ vs).set j (some x)) H2 Q)
    (hq : Q (.ref D) (upd H1 D (.lst ((xs.filter p).map v)))) : LcG (Itl K a) (gName j) tt te vs σ H1 D Q := by
  refine lc_it (walk_list (K := K) (a := a) (xs := xs)) (fun i H => H = upd H1 D (.lst (((xs.take i).filter p).map v))) rfl (fun i H hi e => ?_) ?_ ?_
  · subst e
    exact SqL.off hx hD fun b hb => upd_ne hb
  · rintro i x H H' hi hP ⟨rfl, hc⟩
    subst hP
    have hm : x ∈ xs := List.mem_of_getElem? hc
    have off : ∀ b, b ≠ D → (upd H1 D (.lst (((xs.take i).filter p).map v))) b = H1 b := fun b hb => upd_ne hb
    have e1 : xs.take (i + 1) = xs.take i ++ [x] := by
      rw [List.take_add_one, hc]
      rfl
    refine ⟨hw _, ht x hm _ _ off ?_⟩
    by_cases hp : p x = true
    · rw [if_pos hp]
      refine he x hm hp _ _ off ⟨_, upd_same, ?_, ?_⟩
      · rw [List.length_map, sizeLine_eq]
        have h1 := List.length_filter_le p (xs.take i)
        rw [List.length_take] at h1
        omega
      · rw [upd_upd, e1, List.filter_append, List.filter_cons_of_pos hp, List.filter_nil, List.map_append]
        rfl
    · rw [if_neg hp, e1, List.filter_append, List.filter_cons_of_neg hp, List.filter_nil, List.append_nil]
  · rintro H rfl
    rw [List.take_length]
    exact hq
/-! for -/
/-- the loop of a for, for the walk to stop at -/
def ForG (J : It) (g : TG) (tb : TS) (D : Ends) (σ : L2.St) (H1 : Hp) : Prop := ∃ W : Nat → Nat → L2.St → Hp → Prop, (∃ m, W 0 m σ H1) ∧ ∀ i m σ H, W i m σ H →
  (J.stop i H ∧ D.nx σ H) ∨ (J.go i H ∧ ∃ N : L2.St → Hp → Prop, (∀ σ' H', N σ' H' → ∃ m', m' < m ∧ W (i + 1) m' σ' H') ∧ ∀ x H', J.yld i H x H' → g x σ H' fun σ2 H2 => tb { D with nx := N, ct := N, bk := D.nx } σ2 H2)
theorem iForL {D : Ends} {tb : TS} (h : tl σ H fun x H1 => ∃ a, x = .ref a ∧ (∃ xs, SqL K H1 a xs) ∧ ForG (Itl K a) g tb D σ H1) : tFor (iList K tl) g tb D σ H := h
theorem iForS {D : Ends} {tb : TS} (h : tl σ H fun x H1 => ∃ z, x = .str z ∧ ForG (Its z) g tb D σ H1) : tFor (iStr tl) g tb D σ H := h
theorem iForR1 {D : Ends} {tb : TS} (h : ta σ H fun ws H1 => ∃ j : Int, ws = [.int j] ∧ -(2 ^ 62) ≤ j ∧ j < 2 ^ 62 ∧ ForG (Itr 0 j.toNat) g tb D σ H1) : tFor (iRng1 ta) g tb D σ H := h
theorem iForR2 {D : Ends} {tb : TS} (h : ta σ H fun ws H1 => ∃ i j : Int, ws = [.int i, .int j] ∧ (-(2 ^ 62) ≤ i ∧ i < 2 ^ 62 ∧ -(2 ^ 62) ≤ j ∧ j < 2 ^ 62) ∧ ForG (Itr i (j - i).toNat) g tb D σ H1) : tFor (iRng2 ta) g tb D σ H := h
/-- a loop over a text -/
theorem for_S {D : Ends} {tb : TS} {l : List Nat} (Pv : Nat → L2.St → Hp → Prop) (h0 : Pv 0 σ H)
    (hs : ∀ i c σ H, l[i]? = some c → Pv i σ H → g (.str (S [c])) σ H fun σ2 H2 => tb { nx := Pv (i + 1), rt := D.rt, bk := D.nx, ct := Pv (i + 1) } σ2 H2) (hd : ∀ σ H, Pv l.length σ H → D.nx σ H) : ForG (Its (S l)) g tb D σ H := by
  refine for_it walk_str Pv h0 (fun _ _ _ _ _ => trivial) ?_ ?_
  · rintro i x σ H H' hi hP ⟨rfl, c, hc, rfl⟩
    exact hs i c σ _ (S_get.mp hc) hP
  · intro σ H h
    rw [S_size] at h
    exact hd σ H h
/-- a loop over range(n) -/
theorem for_R {D : Ends} {tb : TS} {lo : Int} {n : Nat} (Pv : Nat → L2.St → Hp → Prop) (h0 : Pv 0 σ H)
    (hs : ∀ i σ H, i < n → Pv i σ H → g (.int (lo + (i : Int))) σ H fun σ2 H2 => tb { nx := Pv (i + 1), rt := D.rt, bk := D.nx, ct := Pv (i + 1) } σ2 H2) (hd : ∀ σ H, Pv n σ H → D.nx σ H) : ForG (Itr lo n) g tb D σ H :=
  for_range Pv h0 hs hd
/-- a loop over a list -/
theorem for_L {D : Ends} {tb : TS} {a : Addr} {xs : List V} (Pv : Nat → L2.St → Hp → Prop) (h0 : Pv 0 σ H) (hl : ∀ i σ H, i ≤ xs.length → Pv i σ H → SqL K H a xs)
    (hs : ∀ i x σ H, xs[i]? = some x → Pv i σ H → g x σ H fun σ2 H2 => tb { nx := Pv (i + 1), rt := D.rt, bk := D.nx, ct := Pv (i + 1) } σ2 H2) (hd : ∀ σ H, Pv xs.length σ H → D.nx σ H) : ForG (Itl K a) g tb D σ H :=
  for_list Pv h0 hl hs hd
/-- a comprehension over range(n), which may change the heap -/
theorem lcg_R {D : Addr} {n j : Nat} {lo : Int} (Pv : Nat → Hp → Prop) (h0 : Pv 0 (upd H1 D (.lst []))) (hw : ∀ x, wipe ((wipe σ vs).set j (some x)) vs = wipe σ vs)
    (hs : ∀ i H, i < n → Pv i H → tt ((wipe σ vs).set j (some (.int (lo + (i : Int))))) H fun b H3 => if b = true then te ((wipe σ vs).set j (some (.int (lo + (i : Int))))) H3 fun y H4 => ∃ acc, H4 D = some (.lst acc) ∧ acc.length < sizeLine ∧ Pv (i + 1) (upd H4 D (.lst (acc ++ [y]))) else Pv (i + 1) H3)
    (hd : ∀ H, Pv n H → Q (.ref D) H) : LcG (Itr lo n) (gName j) tt te vs σ H1 D Q := by
  refine lc_it walk_range Pv h0 (fun _ _ _ _ => trivial) ?_ hd
  rintro i x H H' hi hP ⟨rfl, rfl⟩
  exact ⟨hw _, hs i _ hi hP⟩
/-- .. over a text -/
theorem lcg_S {D : Addr} {j : Nat} {l : List Nat} (Pv : Nat → Hp → Prop) (h0 : Pv 0 (upd H1 D (.lst []))) (hw : ∀ x, wipe ((wipe σ vs).set j (some x)) vs = wipe σ vs)
    (hs : ∀ i c H, l[i]? = some c → Pv i H → tt ((wipe σ vs).set j (some (.str (S [c])))) H fun b H3 => if b = true then te ((wipe σ vs).set j (some (.str (S [c])))) H3 fun y H4 => ∃ acc, H4 D = some (.lst acc) ∧ acc.length < sizeLine ∧ Pv (i + 1) (upd H4 D (.lst (acc ++ [y]))) else Pv (i + 1) H3)
    (hd : ∀ H, Pv l.length H → Q (.ref D) H) : LcG (Its (S l)) (gName j) tt te vs σ H1 D Q := by
  refine lc_it walk_str Pv h0 (fun _ _ _ _ => trivial) ?_ ?_
  · rintro i x H H' hi hP ⟨rfl, c, hc, rfl⟩
    exact ⟨hw _, hs i c _ (S_get.mp hc) hP⟩
  · intro H h
    rw [S_size] at h
    exact hd H h
theorem iYes {Q : Bool → Hp → Prop} (h : Q true H) : tYes σ H Q := h
end
/-- what was new is forgotten -/
theorem Fr.forget {L M : List Addr} {H H' : Hp} (f : Fr M H H') (h : ∀ x ∈ M, x ∈ L ∨ H x = Option.none) : Fr L H H' := fun x u hx e => f x u (fun hm => by
  rcases h x hm with h | h
  · exact hx h
  · rw [e] at h
    cases h) e
theorem Fr.forget2 {b D : Addr} {H H' : Hp} (f : Fr [b, D] H H') (h : H D = Option.none) : Fr [b] H H' := f.forget fun x hx => by
  rcases List.mem_cons.mp hx with rfl | hx
  · exact .inl List.mem_cons_self
  · rw [List.mem_singleton] at hx
    subst hx
    exact .inr h
theorem Fr.forget1 {D : Addr} {H H' : Hp} (f : Fr [D] H H') (h : H D = Option.none) : Same H H' := (f.forget (L := []) fun x hx => by
    rw [List.mem_singleton] at hx
    subst hx
    exact .inr h).same
/-- '' joins signs -/
theorem join_S {l : List Nat} (hl : l.length ≤ 4000) : (((l.map fun c => S [c]).map (·.length)).sum + (l.map fun c => S [c]).length * (S []).length ≤ 16777216) ∧ Txt.join (S []) (l.map fun c => S [c]) = S l := by
  refine ⟨?_, join_signs _⟩
  rw [S_len, List.length_nil, Nat.mul_zero, Nat.add_zero, List.map_map]
  have e1 : l.map ((fun x : Str => x.length) ∘ fun c => S [c]) = l.map fun _ => 1 := List.map_congr_left fun c _ => S_len [c]
  rw [e1]
  have e2 : (l.map fun _ => 1).sum = l.length := by
    clear hl e1
    induction l with
    | nil => rfl
    | cons x xs ih => rw [List.map_cons, List.sum_cons, ih, List.length_cons, Nat.add_comm]
  rw [e2]
  omega
theorem iJoinS {K : PySem.W.Frag} {p : Addr} {l : List Nat} {H : Hp} {Q : VK} (hq : SqL K H p (l.map fun c => V.str (S [c]))) (hl : l.length ≤ 4000) (h : Q (.str (S l)) H) :
    ∃ (a : Str) (q : Addr) (ys : List Str), V.str (S []) = .str a ∧ [V.ref p] = [.ref q] ∧ (SqL K H q (ys.map V.str) ∨ SqT K H q (ys.map V.str)) ∧ (ys.map (·.length)).sum + ys.length * a.length ≤ 16777216 ∧ Q (.str (Txt.join a ys)) H := by
  obtain ⟨h1, h2⟩ := join_S hl
  refine ⟨S [], p, l.map fun c => S [c], rfl, rfl, .inl ?_, h1, ?_⟩
  · rw [List.map_map]
    exact hq
  · rw [h2]
    exact h
end Vk
set_option Elab.async false
set_option linter.all false
set_option maxRecDepth 100000
set_option maxHeartbeats 4000000
namespace Vk
open PySem PySem.Spec PyProof.Rows L2
section
variable {K : PySem.W.Frag} {H : Hp} {Q : VK} {a : Addr} {xs : List V}
theorem iSlL {lo hi : Option Int} (hq : SqL K H a xs) (h : ∀ p, H p = none → Q (.ref p) (upd H p (.lst (cutV xs lo hi)))) : rSlL K (.ref a) lo hi H Q := ⟨a, xs, rfl, hq, h⟩
theorem iCat {b : Addr} {ys : List V} (ha : H a = some (.lst xs)) (hb : H b = some (.lst ys)) (hz : xs.length + ys.length ≤ sizeLine) (h : ∀ p, H p = none → Q (.ref p) (upd H p (.lst (xs ++ ys)))) : rCat (.ref a) (.ref b) H Q := ⟨a, b, xs, ys, rfl, rfl, ha, hb, hz, h⟩
theorem iAppend {y : V} (ha : H a = some (.lst xs)) (hz : xs.length < sizeLine) (h : Q .non (upd H a (.lst (xs ++ [y])))) : rAppend (.ref a) [y] H Q := ⟨a, xs, y, rfl, rfl, ha, hz, h⟩
theorem iTruL {R : Bool → Prop} (hq : SqL K H a xs) (h : R (!xs.isEmpty)) : ∃ k, TruV K (.ref a) H k ∧ R k := ⟨_, .inl ⟨xs, hq, rfl⟩, h⟩
theorem iTruNil {R : Bool → Prop} (hq : SqL K H a []) (h : R false) : ∃ k, TruV K (.ref a) H k ∧ R k := ⟨_, .inl ⟨[], hq, rfl⟩, h⟩
theorem iTruCons {R : Bool → Prop} {x : V} (hq : SqL K H a (x :: xs)) (h : R true) : ∃ k, TruV K (.ref a) H k ∧ R k := ⟨_, .inl ⟨_, hq, rfl⟩, h⟩
theorem iListT {l : List Nat} (hl : l.length ≤ 4000) (h : ∀ p, H p = none → Q (.ref p) (upd H p (.lst (l.map fun c => V.str (S [c]))))) : rListT [.str (S l)] H Q := by
  refine ⟨S l, rfl, (by rw [S_len]; exact hl), fun p hp => ?_⟩
  have e : (signsOf (S l)).map V.str = l.map fun c => V.str (S [c]) := by
    rw [signs_S, List.map_map]
    rfl
  rw [e]
  exact h p hp
end
end Vk
set_option Elab.async false
set_option linter.all false
set_option maxRecDepth 100000
set_option maxHeartbeats 4000000
namespace Vk
open PySem PySem.Spec PyProof.Rows L2
/-! o.m(e, ..) whose def may raise, in a try -/
def tMethS (C : Addr) (m : Str) (sp : Sp) (E : L2.St → XK) (ta : TE) (t : TA) : TE := fun σ H Q => ta σ H fun x H1 => ∃ a dx fs, x = .ref a ∧ H1 a = some (.ins C dx fs) ∧ fs.lookup m = none ∧ t σ H1 fun vs H2 => sp (x :: vs) H2 Q (E σ)
section
variable {X : Cx} {CX : CXT} {k : Nat} {f C : Addr} {fd : FuncData} {ps : List Str} {sp : Sp} {E : L2.St → XK} {m : Str} {apos pos : Pos} {o e : Expr} {es : List Expr} {ta : TE} {t : TA}
theorem pe_methS {pl : Sem Bool} (he : PE X o ta) (c : Cls X.K C) (hm : Meth X.K C m f) (F : FnOk X.prog X.w X.K X.mg X.base CX k f fd ps sp) (hr : Room k X.A) (hb : Binds X.K fd ps []) (hx : ∀ σ, PassesAt CX X σ (E σ)) (ha : PA X (e :: es) t)
    (hst : starEach (e :: es) X.env = (false, eval e X.env) :: starEach es X.env := by rfl) (hpl : (backTo pos (starEach es X.env)).any (·.1) = false := by rfl)
    (ht : eval (.Call (.Attribute o m apos) (e :: es) [] pos) X.env = (do
      let ov ← eval o X.env
      standAt apos.atName
      let (f, first) ← holding [ov] (getMethod ov m pl)
      callWith pos f first (backTo pos (starEach (e :: es) X.env)) (backToKw pos (keywordEach [] X.env))) := by rfl) :
    PE X (.Call (.Attribute o m apos) (e :: es) [] pos) (tMethS C m sp E ta t) := by
  refine ⟨fun pins s σ H Q I h => ?_⟩
  refine PySem.W.methodCall_KW (pl := pl) (thn (he.run pins s σ H _ I h) fun u s1 ⟨x, H1, I1, rx, a, dx, fs, ex, ea, l, q⟩ => ?_) ht
  subst ex
  obtain rfl : u = Value.ref a := rx
  refine getmeth_ok I1 ea c hm l ?_
  refine PySem.W.callWith_K (first := [.ref a]) (h₀ := X.base) I.ok.mod.kin hm.kp (thn (ha.run pos pins s1 σ H1 _ I1 q) fun us s2 ⟨vs, H2, I2, r, q2⟩ => ⟨I2.kIn, ?_⟩) hst hpl
  exact run_fnS (us := .ref a :: us) (vs := .ref a :: vs) F hr hb (hx σ) I2 (.cons rfl r) q2
end
end Vk
set_option Elab.async false
set_option linter.all false
set_option maxRecDepth 100000
set_option maxHeartbeats 4000000
namespace Vk
open PySem PySem.Spec PyProof.Rows L2
theorem ns_fun {h : Heap} {a : Addr} {m m' : Str → Option Value} (x : h.Ns a m) (y : h.Ns a m') (n : Str) : m n = m' n := by
  obtain ⟨o, es, ep, ho, hd, _, f⟩ := x
  obtain ⟨o', es', ep', ho', hd', _, f'⟩ := y
  rw [ho] at ho'
  cases ho'
  rw [hd] at hd'
  cases hd'
  rw [← f, f']
/-- the local y holds this very value -/
def RawAt (X : Cx) (s : Shared) (y : Str) (u : Value) : Prop := ∃ m, s.heap.Ns X.env.locals m ∧ m y = some u
section
variable {X : Cx} {pins : List (Addr × Obj)} {σ : L2.St} {H : Hp} {s : Shared}
theorem set_raw {M : Model} {A : Around} {E : Value → Shared → Prop} {i : Nat} {x : Str} {v : V} {u : Value} {Q : Unit → Shared → Prop} (I : Inv X pins σ H s) (hN : X.N.Nodup) (hi : X.N[i]? = some x) (hk : X.env.kindOf x = some .local) (r : RelV v u)
    (h : ∀ s', Inv X pins (σ.set i (some v)) H s' → RawAt X s' x u → (∀ y w, y ≠ x → RawAt X s y w → RawAt X s' y w) → s'.toks = s.toks + 1 → Q () s') : wpAny M A (storeName X.env x u) Q E s := by
  obtain ⟨m, hn, hl⟩ := id I.loc
  have hcls : (X.env.scope.kind == .class || (X.env.scope.kind == .module && X.env.locals != X.env.globals)) = false := by rw [I.ok.kind]; rfl
  have hiσ : i < σ.length := by rw [I.len]; exact (List.getElem?_eq_some_iff.mp hi).1
  refine wpAny_storeName_local hk hn (fun h' hn' hs => ?_) hcls
  obtain ⟨oL, _, _, hoL, _⟩ := id hn
  have old : ∀ b o, X.s_0.heap.get? b = some o → b ≠ X.env.locals := fun b o e => Nat.ne_of_lt (Nat.lt_of_lt_of_le (Heap.lt_size e) I.ok.above)
  refine h _ ⟨I.ok, I.os, I.bare, ⟨fun b o e n hb hx => (hs.2 b (old b o e)).trans (I.base.keep b o e n hb hx), fun b o e n hb hx => ?_, I.base.free, fun b o e hx => ?_, I.base.tups, I.base.frzs, I.base.tbls⟩, ⟨_, hn', fun j y v' e1 e2 e3 => ?_⟩, fun y c e => ?_, I.free, I.freeC, fun p hp => ?_, fun b ob e => ?_, by simpa using I.len⟩
    ⟨_, hn', if_pos rfl⟩ (fun y w hne ⟨m2, hn2, e2⟩ => ⟨_, hn', by rw [if_neg hne, ns_fun hn hn2 y, e2]⟩) rfl
  · obtain ⟨sl, e1⟩ := I.base.slot b o e n hb hx
    exact ⟨sl, (hs.2 b (old b o e)).trans e1⟩
  · obtain ⟨o', e1⟩ := I.base.there b o e hx
    exact ⟨o', (hs.2 b (old b o e)).trans e1⟩
  · by_cases hj : j = i
    · subst hj
      rw [hi] at e1
      cases e1
      rw [List.getElem?_set_self hiσ] at e2
      cases e2
      exact ⟨u, r, .inl ⟨hk, if_pos rfl⟩⟩
    · rw [List.getElem?_set_ne (Ne.symm hj)] at e2
      obtain ⟨u', r', q⟩ := hl j y v' e1 e2 e3
      refine ⟨u', r', ?_⟩
      rcases q with ⟨k, e⟩ | ⟨k, c, e, z⟩
      · have ny : y ≠ x := fun e => hj (nodup_ix hN e1 (e ▸ hi))
        exact .inl ⟨k, (if_neg ny).trans e⟩
      · exact .inr ⟨k, c, e, z.sameBut hs (I.cne y c e)⟩
  · obtain ⟨w', z⟩ := I.cell y c e
    exact ⟨w', z.sameBut hs (I.cne y c e)⟩
  · obtain ⟨e, n, ne, nf, d⟩ := I.pin p hp
    exact ⟨(hs.2 p.1 ne).trans e, n, ne, nf, d⟩
  · refine (I.hok b ob e).stay (fun c w' hc q => (hs.2 c ?_).trans q) (fun _ q => q) fun _ _ q => q
    intro z
    subst z
    rcases hc with hc | hc
    · rw [← hc, I.free] at e
      cases e
    · rw [I.free] at hc
      cases hc
theorem raw_var {M : Model} {A : Around} {y : Str} {u : Value} {pos : Pos} {Q E : Value → Shared → Prop} (I : Inv X pins σ H s) (r : RawAt X s y u) (hk : X.env.kindOf y = some .local) (h : Q u s) (hd : (y == ("__debug__" : Str)) = false := by decide) : wpAny M A (eval (.Name y pos) X.env) Q E s := by
  obtain ⟨m, hn, hm⟩ := r
  exact wpAny_Name (wpAny_loadName_local I.ok.kind hk hn hm h) hd
end
/-! a for whose body may know that a token is out -/
section
variable {X : Cx}
theorem pst_forT {tg iter : Expr} {body : List Stmt} {wi : TI} {g : TG} {tb : TS} {pos : Pos} (hp : PassesOwn (model X.prog X.w) X.A X.env X.xe) (hc : X.calm = true) (hi : PI X tg iter wi) (hg : PG X tg g) (hb : PSsT X body tb)
    (hs : ∀ x, foldedSetIterable iter X.env x = pure x := by intro _; rfl) : PST X (.For tg iter body [] pos) (tFor wi g tb) := by
  intro pins s σ H D h0 I h
  refine wpAny_For (wpAny_mono (PySem.wpAny_toks_of h0 (hi.run pins s σ H _ I h)) (fun v s1 h1 => wpAny_mono (PySem.wpAny_toks_of h1.1 h1.2) (fun itv s2 h2 => ?_) fun _ _ z => z.2) fun _ _ z => z.2) hs
  obtain ⟨k2, it, fp, tn, J, H2, e, I2, T, st2, f2, W, ⟨m0, w0⟩, turn⟩ := h2
  subst e
  have stat : ∀ {H' : Hp}, (∀ b ∈ fp, H' b = none) → ∀ b ∈ fp, FpOk X pins H' b := fun hn b hb => ⟨hn b hb, (f2 b hb).2⟩
  refine codeAny_forLoop_any (fun n s' => 1 ≤ s'.toks ∧ ∃ i σ' H', Inv X pins σ' H' s' ∧ tn i s'.heap ∧ (∀ b ∈ fp, H' b = none) ∧ W i n σ' H') ?_ m0 ⟨k2, 0, σ, H2, I2, st2, fun b hb => (f2 b hb).1, w0⟩
  rintro n s3 ⟨k3, i, σ3, H3, I3, st3, fr3, w3⟩
  rcases turn i n σ3 H3 w3 with ⟨stop, qn⟩ | ⟨go, N, hN, step⟩
  · refine wpAny_passesOwn hp (thn (T.done X rfl rfl rfl hc i pins s3 σ3 H3 X.xe I3 (stat fr3) st3 stop) fun r s4 ⟨hr, I4⟩ => ?_)
    subst hr
    exact wpAny_execs_nil ⟨σ3, H3, I4, qn⟩
  · refine wpAny_passesOwn hp (wpAny_mono (PySem.wpAny_toks_of k3 (T.item X rfl rfl rfl hc i pins s3 σ3 H3 X.xe I3 (stat fr3) st3 go)) (fun r s4 h4 => ?_) fun _ _ z => z.2)
    obtain ⟨k4, u, hr, h4⟩ := h4
    subst hr
    refine wpAny_passesOwn hp (wpAny_mono (PySem.wpAny_toks_of k4 h4) (fun _ s5 h5 => ?_) fun _ _ z => z.2)
    obtain ⟨k5, x, H5, I5, r5, y5, st5, fr5⟩ := h5
    have I5' := I5.pinned (stat fr5) (T.obj _ _ st5)
    refine wpAny_passesOwn hp (wpAny_mono (PySem.wpAny_toks_of k5 (hg.run _ s5 σ3 H5 x u _ I5' r5 (step x H5 y5))) (fun _ s6 h6 => ?_) fun _ _ z => z.2)
    obtain ⟨k6, σ6, H6, I6, q6⟩ := h6
    refine wpAny_passesOwn hp (wpAny_mono (PySem.wpAny_toks_of k6 (hb _ s6 σ6 H6 _ k6 I6 q6)) (fun f s7 q7 => ?_) fun _ _ z => z.2)
    obtain ⟨k7, q7⟩ := q7
    have again : ∀ {σ7 : L2.St} {H7 : Hp}, Inv X (pins ++ pinsAt fp s5.heap) σ7 H7 s7 → N σ7 H7 → ∃ m, m < n ∧ 1 ≤ s7.toks ∧ ∃ i σ' H', Inv X pins σ' H' s7 ∧ tn i s7.heap ∧ (∀ b ∈ fp, H' b = none) ∧ W i m σ' H' := fun {σ7 H7} I7 n7 => by
      obtain ⟨m', hm, w7⟩ := hN σ7 H7 n7
      refine ⟨m', hm, k7, i + 1, σ7, H7, I7.unpinned, T.keep _ _ _ st5 fun b hb o e => (I7.pin (b, o) (List.mem_append_right _ (List.mem_append_right _ (mem_pinsAt hb e)))).1, fun b hb => ?_, w7⟩
      obtain ⟨o, e, d⟩ := T.obj _ _ st5 b hb
      exact (I7.pin (b, o) (List.mem_append_right _ (List.mem_append_right _ (mem_pinsAt hb e)))).2.1
    cases f with
    | next => obtain ⟨σ7, H7, I7, n7⟩ := q7; exact again I7 n7
    | cont => obtain ⟨σ7, H7, I7, n7⟩ := q7; exact again I7 n7
    | brk => obtain ⟨σ7, H7, I7, q7⟩ := q7; exact ⟨σ7, H7, I7.unpinned, q7⟩
    | ret v => obtain ⟨x7, σ7, H7, I7, r7, q7⟩ := q7; exact ⟨x7, σ7, H7, I7.unpinned, r7, q7⟩
/-- letter = pool[e]; pool = pool.replace(letter, '') -/
def tPool (ip il : Nat) (te : TE) (u : TS) : TS := fun D σ H => ∃ l : List Nat, σ[ip]? = some (some (.str (S l))) ∧ l.length ≤ 1000 ∧ te σ H fun v H1 => ∃ (r c : Nat), v = .int (r : Int) ∧ l[r]? = some c ∧
  u D ((σ.set il (some (.str (S [c])))).set ip (some (.str (Txt.replace (S l) (S [c]) (S []))))) H1
theorem pss_pool {ip il : Nat} {xp xl : Str} {e : Expr} {te : TE} {rest : List Stmt} {u : TS} {j : Nat} {a1 a2 a3 a4 b1 b2 b3 b4 b5 b6 b7 : Pos} (hNd : X.N.Nodup) (hip : X.N[ip]? = some xp) (hil : X.N[il]? = some xl) (hne : ip ≠ il)
    (hvp : Vis X.env.scope xp) (hkp : X.env.kindOf xp = some .local) (hkl : X.env.kindOf xl = some .local) (he : PE X e te) (h2 : PSs X rest u)
    (hsl : PlainIx e) (dp : (xp == ("__debug__" : Str)) = false) (cp : (xp == ("__classdict__" : Str)) = false) (dl : (xl == ("__debug__" : Str)) = false)
    (hs1 : swapsWith (.Subscript (.Name xp a3) e a4) (some (.Name xl a1)) a2.line X.env = pure false := by rfl)
    (hs2 : swapsWith (.Call (.Attribute (.Name xp b3) "replace" b4) [.Name xl b5, .Constant (.str "") j b6] [] b7) (some (.Name xp b1)) b2.line X.env = pure false := by rfl) (hline : (b4.endLine == b7.line) = true := by rfl) :
    PSsT X (.Assign [.Name xl a1] (.Subscript (.Name xp a3) e a4) a2 :: .Assign [.Name xp b1] (.Call (.Attribute (.Name xp b3) "replace" b4) [.Name xl b5, .Constant (.str "") j b6] [] b7) b2 :: rest) (tPool ip il te u) := by
  intro pins s σ H D k0 I h
  obtain ⟨l, hl, hlen, h⟩ := h
  refine wpAny_execs_cons (wpAny_Assign_Name (Subscript_ (raw_name hip hvp I hl (fun u0 r0 => ?_) dp cp)) hs1)
  obtain ⟨tz, rfl⟩ := r0
  refine wpAny_mono (PySem.wpAny_toks_of k0 (he.run pins s σ H _ I h)) (fun u1 s1 h1 => ?_) fun _ _ z => z.2
  obtain ⟨k1, v, H1, I1, r1, r, c, rfl, hr, h⟩ := h1
  obtain ⟨t1, rfl⟩ := r1
  have hlt : r < l.length := (List.getElem?_eq_some_iff.mp hr).1
  have e1 : decide ((r : Int) < -(2 ^ 63 : Int)) = false := decide_eq_false (by omega)
  have e2 : decide ((r : Int) ≥ 2 ^ 63) = false := decide_eq_false (by omega)
  refine tail_any (typeIs_str s1 (S l) tz) slot_str_getitem.lookup (getItem_str (c := c) (by rw [e1, e2]; rfl) ?_ ?_) (hsl _ _)
  · obtain ⟨q, q1, q2, _⟩ := atI_get (atI_nat hr)
    rw [S_len, q1]
    exact S_get.mpr q2
  · refine set_raw (i := il) (v := .str (S [c])) (I1.tok _) hNd hil hkl ⟨_, rfl⟩ (fun s2 I2 ra ro ht => ?_)
    have ht' : s2.toks = s1.toks + 1 + 1 := ht
    have hl2 : (σ.set il (some (.str (S [c]))))[ip]? = some (some (.str (S l))) := by rw [List.getElem?_set_ne (fun z => hne z.symm)]; exact hl
    refine wpAny_execs_cons (wpAny_Assign_Name (PySem.Call_method2 rfl rfl hline (raw_name hip hvp I2 hl2 (fun u3 r3 => ?_) dp cp)) hs2)
    obtain ⟨tx, rfl⟩ := r3
    refine ⟨"str", _, F.plainAttrs_str, F.slot_str_replace, F.type_str_replace, typeIs_str _ _ _, (fun _ e => nomatch e), Calls.callWith_builtin rfl (Calls.evalArgs_plain (Calls.spliced_cons ?_))⟩
    refine raw_var I2 ra hkl (Calls.spliced_cons (Calls.Constant_str (Calls.spliced_nil ?_))) dl
    have e0 : (PySem.Str.ofString "") = S [] := by decide +kernel
    have h0 : (PySem.Str.ofString "").length = 0 := by rw [e0]; exact S_len []
    have z1 : s1.toks ≠ 0 := by omega
    have z2 : s2.toks ≠ 0 := by omega
    have z3 : s1.toks ≠ s2.toks := by omega
    refine PySem.SC.replace z1 z2 z3 ?_ (by rw [S_len, h0]; omega) fun t' k' => ?_
    · refine beq_eq_false_iff_ne.mpr fun e => ?_
      rw [e0] at e
      have e3 : [c] = [] := S_inj.mp e
      cases e3
    · rw [e0]
      exact set_raw (i := ip) (v := .str (Txt.replace (S l) (S [c]) (S []))) (I2.tok _) hNd hip hkp ⟨_, rfl⟩ (fun s4 I4 _ _ _ => h2.run pins s4 _ H1 D I4 h)
end
theorem joinL_nil (p : List Nat) (r : List (List Nat)) : TL.joinL [] (p :: r) = p ++ TL.joinL [] r := by
  cases r with
  | nil => show p = p ++ []; rw [List.append_nil]
  | cons q r => rfl
theorem spl_del {c : Nat} : ∀ (l acc : List Nat), (TL.joinL [] (TL.spl [c] 0 acc l)) = acc ++ l.filter (· != c)
  | [], acc => by
    show acc = acc ++ []
    rw [List.append_nil]
  | x :: r, acc => by
    show TL.joinL [] (if TL.pre [c] (x :: r) = true then acc :: TL.spl [c] 0 [] r else TL.spl [c] 0 (acc ++ [x]) r) = _
    have hp : TL.pre [c] (x :: r) = decide (x = c) := by
      show ([x] == [c]) = _
      by_cases h : x = c <;> simp [h]
    rw [hp]
    by_cases h : x = c
    · rw [decide_eq_true h, if_pos rfl, joinL_nil, spl_del r []]
      simp [h]
    · rw [decide_eq_false h, if_neg Bool.false_ne_true, spl_del r (acc ++ [x]), List.filter_cons_of_pos (by simpa using h)]
      simp
theorem repl_S {l : List Nat} {c : Nat} (hc : c < 256) : Txt.replace (S l) (S [c]) (S []) = S (l.filter (· != c)) := by
  have h := StrLaws.replace_one (S l) (S []) c
  rw [show (⟨#[c]⟩ : Str) = S [c] from rfl] at h
  rw [h]
  have e1 : TL.tl (S [c]) = [c] := by simp [TL.tl, S]
  have e2 : TL.tl (S l) = l := by simp [TL.tl, S]
  have e3 : TL.tl (S ([] : List Nat)) = [] := by simp [TL.tl, S]
  have q := TL.tl_join (S []) (Txt.split (S l) (S [c]))
  rw [TL.split_spl _ _ (by rw [e1]; simp) (TL.kind_ok (by simp [S, hc])), e1, e2, e3, spl_del, List.nil_append] at q
  rw [S_of (Str.join (S []) (Txt.split (S l) (S [c])))]
  congr 1
end Vk
set_option Elab.async false
set_option linter.all false
set_option maxRecDepth 100000
set_option maxHeartbeats 2000000
namespace Vk
open PySem PySem.Spec PyProof.Rows L2
/-! super().__init__(..) in a plain class: an own __init__ further along -/
/-- what the text has written of the class D whose cell is cc, of a def whose code is at cda; C: the object's class; g: the next m along -/
structure SupP (P : Program) (K : PySem.W.Frag) (mg : Str → Option Value) (C D cc cda : Addr) (m : Str) (g : Addr) : Prop where
  cell : ∃ cl cld csl, K.lookup cc = some ⟨cl, cld, .cell (some (.ref D)), csl⟩
  code : ∃ (ccl : Value) (cdd : Option Addr) (vs : Array Value) (ccs : Array (Option Value)) (file : Str) (tf : Tok), K.lookup cda = some ⟨ccl, cdd, .fields vs, ccs⟩ ∧ vs[2]? = some (.str file tf) ∧ ((P.main.file : Str) == file) = true
  clD : PySem.W.isClsIn K D = true
  sub : PySem.W.mroIn K C (.ref D) = some true
  sup : PySem.W.ks_superIn K C D m = some (some (.ref g))
  fnc : PySem.W.typeIn K (.ref g) = some (.type "function")
  fi : PySem.W.fnIn K g = true
  noTop : (P.main.scope.names.lookup ("super" : Str)).isSome = false
  noMg : mg "super" = none
  any : PySem.W.nsIn K cStatics "thirdparty.any" = some none
/-- what super().m(..) asks: the arguments, then m's promise at the object -/
def tSupP (a : Addr) (sp : Sp) (E : XK) (t : TA) : TS := fun D σ H => t σ H fun vs H1 => sp (.ref a :: vs) H1 (fun _ H2 => D.nx σ H2) E

theorem fn_superP {CX : CXT} {P : Program} {w : World} {K : PySem.W.Frag} {mg : Str → Option Value} {base : Heap} {k : Nat} {f C D cc cda g : Addr} {name qual self m : Str} {params : Arguments} {body : List Stmt} {scope : Scope} {dV kV doc pm ct oc : Value} {an od : Option Addr}
    {osl : Array (Option Value)} {N : List Str} {sp : Sp} {e0 : Expr} {es : List Expr} {rest : List Stmt} {p0 p1 p2 p3 p4 : Pos} {ar : Arg} {N' : List Str} {pl : Sem Bool}
    (T : SupP P K mg C D cc cda m g) (hm : (m == ("__class__" : Str)) = false)
    (lk : K.lookup f = some ⟨oc, od, .func (PySem.W.ksFn name qual params body scope dV kV doc pm an (.ref cda) ct cc), osl⟩) (hcd : PySem.W.codeIn K (.ref cda) qual = true) (S : SScope N scope) (hN : N = self :: N')
    (hpar : (params.posonlyargs ++ params.args).head? = some ar) (har : ar.arg = self)
    (hbd : body = .Expr (.Call (.Attribute (.Call (.Name "super" p0) [] [] p1) m p2) (e0 :: es) [] p3) p4 :: rest)
    (hcall : ∀ env : Env, eval (.Call (.Attribute (.Call (.Name "super" p0) [] [] p1) m p2) (e0 :: es) [] p3) env = (do
      let ov ← attributeBase (.Call (.Name "super" p0) [] [] p1) m env (eval (.Call (.Name "super" p0) [] [] p1) env)
      standAt p2.atName
      let (f, first) ← holding [ov] (getMethod ov m pl)
      callWith p3 f first (backTo p3 (starEach (e0 :: es) env)) []))
    (hsw : ∀ env : Env, swapsWith (.Call (.Attribute (.Call (.Name "super" p0) [] [] p1) m p2) (e0 :: es) [] p3) none p4.line env = pure false)
    (hst : ∀ env : Env, starEach (e0 :: es) env = (false, eval e0 env) :: starEach es env) (hpl : ∀ env : Env, (backTo p3 (starEach es env)).any (·.1) = false)
    (len : ∀ vs H Q E, sp vs H Q E → vs.length = N.length)
    (hbody : ∀ (A : Around) (outer : List Env) (s : Shared) (H : Hp) (vs : List V) (Q : VK) (E : XK), Room k (A.deeper (PySem.W.ksEnv qual scope s.heap.objs.size f (.ref cda) cc)) → sp vs H Q E →
      ∃ (ta : TA) (t : TS) (sp' : Sp) (j : Nat) (E' : XK) (CX' : CXT), PA (cxS CX P w K mg base N qual scope f cc (.ref cda) A outer s H E) (e0 :: es) ta ∧ PSs (cxS CX P w K mg base N qual scope f cc (.ref cda) A outer s H E) rest t ∧
        FnR P w K mg base CX' j g sp' ∧ Room j (A.deeper (PySem.W.ksEnv qual scope s.heap.objs.size f (.ref cda) cc)) ∧ Passes CX' (cxS CX P w K mg base N qual scope f cc (.ref cda) A outer s H E) E' ∧
        ∃ a dx fs, vs[0]? = some (.ref a) ∧ H a = some (.ins C dx fs) ∧ tSeq (tSupP a sp' E' ta) t { nx := fun _ H' => Q .non H', rt := Q } (vs.map some) H) :
    FnOk P w K mg base CX (k + 1) f (PySem.W.ksFn name qual params body scope dV kV doc pm an (.ref cda) ct cc) N sp := by
  refine ⟨len, fun A outer s H args us vs Q E hr e0' hb r hsp => ?_⟩
  have hl := len _ _ _ _ hsp
  have KX : K.In s.heap := e0'.mod.kin.keeps fun b o e => (e0'.bs b o e).1
  have lim : s.heap.NoLimit := e0'.mod.nolimit.keeps fun b o e => (e0'.bs b o e).1
  obtain ⟨cl, cld, csl, hcell⟩ := T.cell
  obtain ⟨ccl, cdd, vsC, ccs, file, tf, hcode, hvs2, hfile⟩ := T.code
  obtain ⟨cdD, hcdD⟩ := Option.isSome_iff_exists.mp (show (PySem.W.clsIn K D).isSome = true from T.clD)
  obtain ⟨ta, t, sp', j, E', CX', hpa, hps, FG, hrj, hx, a, dx, fs, ha0, hea, hq⟩ := hbody A outer s H vs Q E (hr.deeper _) hsp
  refine ks_codeAny_call_defAt (fd := PySem.W.ksFn name qual params body scope dV kV doc pm an (.ref cda) ct cc) (body := body) (binds := N.zip us) hr.depth (KX _ _ lk) rfl lim (PySem.W.codeRec_of KX hcd) rfl hb S.nocell (fun y hy => S.par y.1 (List.of_mem_zip (a := y.1) (b := y.2) hy).1) (fun h1 hns hk => ?_) S.co S.gen S.kind
  have I : Inv (cxS CX P w K mg base N qual scope f cc (.ref cda) A outer s H E) [] (vs.map some) H { s with heap := h1, toks := s.toks + (N.zip us).length } := inv_s S hr.hd e0' hl r hcell hns hk
  subst hbd
  subst hN
  have ka0 : ∃ u0 us', us = u0 :: us' := by
    cases us with
    | nil => have q := r.length; rw [hl] at q; exact absurd q (by simp)
    | cons u0 us' => exact ⟨u0, us', rfl⟩
  obtain ⟨u0, us', rfl⟩ := ka0
  have hu0 : u0 = Value.ref a := by
    cases r with
    | cons r0 rt =>
      rw [List.getElem?_cons_zero] at ha0
      cases ha0
      exact r0
  subst hu0
  have hL : ((self :: N').zip (Value.ref a :: us')).reverse.lookup self = some (Value.ref a) := rev_get (by rw [← r.length]; exact hl.symm) S.nd (i := 0) rfl rfl
  have hself : scope.names.lookup self = some .local := S.par self List.mem_cons_self
  generalize hs1 : s.toks + ((self :: N').zip (Value.ref a :: us')).length = tk1 at I ⊢
  obtain ⟨hp0, gs, d, tk, os⟩ := s
  let env := PySem.W.ksEnv qual scope hp0.objs.size f (.ref cda) cc
  show PySem.wpAt (model P w) (A.deeper env) (.func (.Expr (.Call (.Attribute (.Call (.Name "super" p0) [] [] p1) m p2) (e0 :: es) [] p3) p4 :: rest) env) (execs (.Expr (.Call (.Attribute (.Call (.Name "super" p0) [] [] p1) m p2) (e0 :: es) [] p3) p4 :: rest) env) _ _ _
  have hint : interactive env = false := by
    unfold interactive
    rw [show env.scope.kind = ScopeKind.function from S.kind]
    rfl
  refine ks_wpAt_execs_cons (ks_wpAt_Expr_any (ks_wpAt_MethodCall (pl := pl) ?_ (hcall env)) hint (hsw env))
  have KX1 : K.In h1 := KX.keeps hk
  obtain ⟨oD, hD1, hD2⟩ : ∃ oD, h1.get? D = some oD ∧ oD.data = .cls cdD := by
    unfold PySem.W.clsIn at hcdD
    split at hcdD
    · rename_i c d cd' sl ho
      cases hcdD
      exact ⟨_, KX1 _ _ ho, rfl⟩
    · cases hcdD
  refine ks_wpAt_super_base (env := env) S.sup S.cls hm rfl (hk _ _ (KX _ _ lk)) rfl hpar rfl (hk _ _ (KX _ _ hcode)) rfl hvs2 hfile T.noTop ?_
  obtain ⟨mb, hb1, hb2⟩ := I.mod.blt
  have hbs : mb ("super" : Str) = some (.type "super") := (hb2 _ (by decide)).trans (by decide +kernel)
  refine PySem.W.ks_loadName_global (env := env) S.kind S.sup (Calls.loadGlobal_builtin (env := env) (I.mod.glob.keeps I.bk) T.noMg (hb1.keeps I.bk) hbs ⟨rfl, ?_⟩)
  refine wpAny_loadName_free (env := env) S.kind S.cls rfl ⟨_, hk _ _ (KX _ _ hcell), rfl⟩ ?_
  rw [har]
  refine wpAny_loadName_local (env := env) S.kind hself hns hL ?_
  obtain ⟨mA, O, _, _, _, _⟩ := ins_get I.hok hea
  obtain ⟨odx, J, _⟩ := O.look
  refine ks_wpAny_isType_cls hD1 hD2 ⟨rfl, ?_⟩
  refine ks_wpAny_call_super hD1 hD2 J.at_ J.cls (fun c e => ?_) (PySem.W.looks_mroIn KX1 T.sub) (fun h2 e2 k2 => ?_)
  · have := J.no
    unfold PySem.W.notCls at this
    rw [e] at this
    exact Bool.noConfusion this
  have I1 : Inv (cxS CX P w K mg base (self :: N') qual scope f cc (.ref cda) A outer ⟨hp0, gs, d, tk, os⟩ H E) [] (vs.map some) H ⟨h2, gs, d, tk1, os⟩ := I.kept (t' := tk1) k2
  have KX2 : K.In h2 := KX1.keeps k2
  cases hc : PySem.W.clsIn K C with
  | none =>
    have z := T.sup
    unfold PySem.W.ks_superIn at z
    rw [hc] at z
    cases z
  | some cd =>
    have hsup := T.sup
    unfold PySem.W.ks_superIn at hsup
    rw [hc] at hsup
    obtain ⟨og, hog, hogc⟩ : ∃ og, h2.get? g = some og ∧ og.cls = .type "function" := by
      have ht' : (K.lookup g).map (·.cls) = some (.type "function") := T.fnc
      cases z : K.lookup g with
      | none => rw [z] at ht'; cases ht'
      | some og => rw [z] at ht'; exact ⟨og, KX2 _ _ z, Option.some.inj ht'⟩
    refine ks_wpAny_getMethod_super e2 (PySem.W.looks_opaque KX2 T.any) (l₀ := cd.mro) (fun A Q E s k q => wpAny_bind ((PySem.W.looks_clsIn KX2 hc) A _ E s k (wpAny_pure q))) rfl KX2 hsup hog hogc (PySem.W.ks_ne KX1 J hc) hm ?_
    have I2 := ClX.met_new (g := g) (C := a) I1
    refine ClX.callwith_cm I2 (ClX.base_none I1 (Nat.le_refl _)) T.fi (thn (hpa.run p3 _ _ (vs.map some) H _ I2 hq) fun us3 s3 hh => ?_) (hst env) (hpl env)
    obtain ⟨vs3, H3, I3, r3, q3⟩ := hh
    refine ⟨⟨ClX.pin_at I3, I3.kIn⟩, ?_⟩
    refine thn (ClX.run_cm FG hrj hx I3 r3 q3) fun u4 s4 h4 => ?_
    obtain ⟨v4, H4, J0, r4, q4⟩ := h4
    refine PySem.wpAt_of_wpAny ?_
    refine wpAny_mono (hps.run [] _ (vs.map some) H4 _ J0 q4) (fun fl s' hs => ?_) fun e s' hs => hs
    have fin : ∀ {σ' : L2.St} {H' : Hp} {v : V} {u : Value}, Inv (cxS CX P w K mg base (self :: N') qual scope f cc (.ref cda) A outer ⟨hp0, gs, d, tk, os⟩ H E) [] σ' H' s' → RelV v u → Q v H' → CE outer P w H ⟨hp0, gs, d, tk, os⟩ Q u s' :=
      fun {σ' H' v u} J rv q => ⟨v, H', J.os, J.bare, J.base, J.hok, rv, q⟩
    cases fl with
    | ret u =>
      obtain ⟨v, σ', H', J, rv, q⟩ := hs
      exact fin J rv q
    | next =>
      obtain ⟨σ', H', J, q⟩ := hs
      exact fin (v := V.non) (u := Value.none) J rfl q
    | brk =>
      obtain ⟨_, _, _, q⟩ := hs
      exact False.elim q
    | cont =>
      obtain ⟨_, _, _, q⟩ := hs
      exact False.elim q
end Vk
set_option Elab.async false
set_option linter.all false
set_option maxRecDepth 100000
set_option maxHeartbeats 2000000
namespace Vk
open PySem PySem.Spec PyProof.Rows L2
/-! o(e, ..): an own object whose class has a `__call__`; str(o): one whose class has a `__str__` -/
theorem callwith_i {M : Model} {A : Around} {E : Value → Shared → Prop} {s : Shared} {pos : Pos} {x C : Addr} {first : List Value} {Q : Value → Shared → Prop} {args : List (Bool × Sem Value)}
    (hp : args.any (·.1) = false)
    (h : wpAny M A (evalArgs (.ref x) true args []) (fun r s1 => (∃ ox od, PySem.W.InstAt s1.heap x ox C od ∧ ox.data = .plain) ∧ wpAny M A (call (.ref x) (first ++ r.pos) r.kw) Q E s1) E s) : wpAny M A (callWith pos (.ref x) first args []) Q E s := by
  unfold callWith
  refine wpAny_bind (wpAny_holding (wpAny_mono h (fun r s1 hr => wpAny_bind (wpAny_standAt ?_)) fun _ _ z => z))
  obtain ⟨⟨ox, od, J, hd⟩, hc⟩ := hr
  have L := PySem.W.kco_keeper (M := M) J hd
  simp only [hp, List.any_nil, Bool.or_false]
  refine wpAny_bind (L.here ?_)
  have behind : ∀ {m : Sem Value}, wpAny M A m Q E s1 → wpAny M A (m >>= fun v => holding [v] point >>= fun _ => pure v) Q E s1 := fun z =>
    wpAny_bind (wpAny_mono z (fun v s2 hv => wpAny_bind (wpAny_holding (wpAny_point (wpAny_pure hv)))) fun _ _ z => z)
  exact behind (wpAny_operateT hc)
def tCallI (C : Addr) (sp : Sp) (E : L2.St → XK) (tf : TE) (t : TA) : TE := fun σ H Q => tf σ H fun x H1 => ∃ a, x = .ref a ∧ t σ H1 fun vs H2 => (∃ dx fs, H2 a = some (.ins C dx fs)) ∧ sp (.ref a :: vs) H2 Q (E σ)
section
variable {X : Cx} {CX : CXT} {k : Nat} {f C : Addr} {fd : FuncData} {ps : List Str} {sp : Sp} {E : L2.St → XK} {x : Str} {p pos : Pos} {e : Expr} {es : List Expr} {tf ta : TE} {t : TA}
theorem code_fnS {pins : List (Addr × Obj)} {σ : L2.St} {H : Hp} {s : Shared} {Q : VK} {us : List Value} {vs : List V} (F : FnOk X.prog X.w X.K X.mg X.base CX k f fd ps sp) (hr : Room k X.A) (hb : Binds X.K fd ps []) (hx : PassesAt CX X σ (E σ))
    (I : Inv X pins σ H s) (r : Vals vs us) (h : sp vs H Q (E σ)) : codeAny (model X.prog X.w) X.A (.call (.ref f) ⟨us, []⟩) (fun r s' => match r with | .ok (.ret v) => EP X pins σ Q v s' | .ok _ => False | .error e => X.xe e s') s := by
  have hl : us.length = ps.length := by rw [← r.length]; exact F.len _ _ _ _ h
  have b := hb s us I.kIn (by rw [List.append_nil]; exact hl)
  rw [List.append_nil] at b
  refine codeAny_mono (F.run X.A X.stack s H ⟨us, []⟩ us vs Q (E σ) hr I.env0 b r h) fun r s' hq => ?_
  cases r with
  | error e => exact hx pins H s e s' I hq
  | ok fl =>
    cases fl with
    | ret u => exact I.after hq
    | next => exact False.elim hq
    | brk => exact False.elim hq
    | cont => exact False.elim hq
theorem pe_callI (he : PE X (.Name x p) tf) (hm : Meth X.K C "__call__" f) (hfn : PySem.W.fnIn X.K f = true) (F : FnOk X.prog X.w X.K X.mg X.base CX k f fd ps sp) (hr : Room k X.A) (hb : Binds X.K fd ps []) (hx : ∀ σ, PassesAt CX X σ (E σ)) (ha : PA X (e :: es) t)
    (hst : starEach (e :: es) X.env = (false, eval e X.env) :: starEach es X.env := by rfl) (hpl : (backTo pos (starEach es X.env)).any (·.1) = false := by rfl) :
    PE X (.Call (.Name x p) (e :: es) [] pos) (tCallI C sp E tf t) := by
  refine ⟨fun pins s σ H Q I h => ?_⟩
  refine wpAny_Call_Name_kw (thn (he.run pins s σ H _ I h) fun u s1 hh => ?_)
  obtain ⟨v, H1, I1, rv, a, ev, q⟩ := hh
  subst ev
  obtain rfl : u = Value.ref a := rv
  have hpl2 : (backTo pos (starEach (e :: es) X.env)).any (·.1) = false := by
    rw [hst]
    exact hpl
  refine callwith_i (C := C) (first := []) hpl2 ?_
  have z : wpAny (model X.prog X.w) X.A (spliced (backTo pos (starEach (e :: es) X.env))) (fun us s2 => (∃ ox od, PySem.W.InstAt s2.heap a ox C od ∧ ox.data = .plain) ∧ wpAny (model X.prog X.w) X.A (call (.ref a) ([] ++ us)) (EP X pins σ Q) X.xe s2) X.xe s1 := by
    refine thn (ha.run pos pins s1 σ H1 _ I1 q) fun us s2 hh => ?_
    obtain ⟨vs, H2, I2, r, ⟨dx, fs, e2⟩, q2⟩ := hh
    obtain ⟨mA, O, _, _, _, _⟩ := ins_get I2.hok e2
    obtain ⟨od, J, _⟩ := O.look
    refine ⟨⟨_, _, J, rfl⟩, ?_⟩
    exact wpAny_call (PySem.W.kco_code I2.kIn J rfl hm.at_ hm.fn hfn (code_fnS (us := .ref a :: us) (vs := .ref a :: vs) F hr hb (hx σ) I2 (.cons rfl r) q2))
  rw [hst] at z ⊢
  exact Calls.evalArgs_plain z
/-- str(o), by o's own `__str__` -/
def rStrI (C : Addr) (sp : Sp) (E : XK) : List V → Hp → VK → Prop := fun xs H Q => ∃ (a dx : Addr) (fs : List (Str × V)), xs = [V.ref a] ∧ H a = some (.ins C dx fs) ∧ sp [.ref a] H (fun z H' => ∃ y : Str, z = .str y ∧ Q z H') E
theorem call_strI {g : Addr} {n : Nat} {E : XK} (hs : PySem.W.findIn X.K (.ref C) "__str__" = some (some (.ref g))) (hf : PySem.W.isFn X.K (.ref g) = true) (F : FnR X.prog X.w X.K X.mg X.base CX n g sp) (hr : Room (n + 2) X.A) (hx : Passes CX X E) :
    CallR X (.type "str") (rStrI C sp E) := by
  intro pins s σ H xs us Q I r h
  obtain ⟨a, dx, fs, rfl, ha, q⟩ := h
  obtain ⟨u, rfl, ru⟩ := vals1 r
  cases (show u = Value.ref a from ru)
  obtain ⟨mA, O, _⟩ := ins_get I.hok ha
  obtain ⟨od, J, _⟩ := O.look
  have hr2 : Room n X.A.in1.in1 := Room.in1 (Room.in1 hr)
  refine PySem.W.kso_call hr2.units0 I.kIn J hs hf (wpAny_mono (wpAny_call (SlX.run_at (us := [.ref a]) (ws := [.ref a]) F hr2 I.env0.in1.in1 hx I (.cons rfl .nil) q)) (fun w s' z => ?_) fun _ _ x => x)
  obtain ⟨z', H', I', rz, y, ez, qz⟩ := z
  subst ez
  obtain ⟨t, e⟩ := (show ∃ t, w = Value.str y t from rz)
  cases e
  exact ⟨.str y, H', I', ⟨_, rfl⟩, qz⟩
end
end Vk
set_option Elab.async false
set_option linter.all false
set_option maxRecDepth 100000
set_option maxHeartbeats 2000000
namespace Vk
open PySem PySem.Spec PyProof.Rows L2 L2H
/-! an own error's __init__ that says super().__init__(f".."), called while an error is handled -/
/-- .. the context of its body -/
def cxSH (CX : CXT) (P : Program) (w : World) (K : PySem.W.Frag) (mg : Str → Option Value) (base : Heap) (N : List Str) (qual : Str) (scope : Scope) (f cc : Addr) (cd : Value) (A : Around) (outer : List Env) (s : Shared) (H : Hp) (E : XK) (p : Addr × Obj) : Cx where
  prog := P
  w := w
  K := K
  mg := mg
  base := base
  A := A.deeper (PySem.W.ksEnv qual scope s.heap.objs.size f cd cc)
  N := N
  s_0 := s
  H_0 := H
  env := PySem.W.ksEnv qual scope s.heap.objs.size f cd cc
  outer := outer
  stack := PySem.W.ksEnv qual scope s.heap.objs.size f cd cc :: outer
  ex := []
  calm := false
  fn := fun _ => false
  pn := [p]
  xe := fun e s' => wpAny (model P w) (A.deeper (PySem.W.ksEnv qual scope s.heap.objs.size f cd cc)) (leaving (PySem.W.ksEnv qual scope s.heap.objs.size f cd cc) e) (fun _ s'' => CX outer H s E e s'') (fun e' s'' => CX outer H s E e' s'') s'

theorem inv_sH {CX : CXT} {P : Program} {w : World} {K : PySem.W.Frag} {mg : Str → Option Value} {base : Heap} {N : List Str} {qual : Str} {scope : Scope} {f cc : Addr} {cd : Value} {A : Around} {outer : List Env} {s : Shared} {H : Hp} {E : XK} {us : List Value} {vs : List V} {h1 : Heap} {tk : Nat} {oc : Value} {ocd : Option Addr} {osl : Array (Option Value)} {cv : Option Value}
    (S : SScope N scope) {p : Addr × Obj} (hpin : PinOk outer H s p) (e0 : Env0 P w K mg base A outer s H) (hl : vs.length = N.length) (r : Vals vs us) (hcell : K.lookup cc = some ⟨oc, ocd, .cell cv, osl⟩)
    (hns : h1.Ns s.heap.objs.size (fun x => (N.zip us).reverse.lookup x)) (hk : ∀ b o, s.heap.get? b = some o → h1.get? b = some o) :
    Inv (cxSH CX P w K mg base N qual scope f cc cd A outer s H E p) [] (vs.map some) H { s with heap := h1, toks := tk } := by
  have noA : ∀ b : Addr, b ∉ (cxSH CX P w K mg base N qual scope f cc cd A outer s H E p).ex := fun b z => absurd (show b ∈ ([] : List Addr) from z) (by simp)
  have hcs : ∀ y c, (cxSH CX P w K mg base N qual scope f cc cd A outer s H E p).env.cells.lookup y = some c → y = "__class__" ∧ c = cc := fun y c h => by
    have h' : List.lookup y [(("__class__" : Str), cc)] = some c := h
    by_cases e : y = "__class__"
    · subst e
      simp [List.lookup] at h'
      exact ⟨rfl, h'.symm⟩
    · have q : (y == ("__class__" : Str)) = false := by simpa using e
      simp [List.lookup, q] at h'
  have hcb : ∃ o, base.get? cc = some o ∧ o.data = .cell cv := ⟨_, e0.mod.kin _ _ hcell, rfl⟩
  obtain ⟨ob, hb1, hb2⟩ := hcb
  refine ⟨⟨e0.mod, S.kind, rfl, rfl, Nat.le_refl _, fun y z c h1 h2 => ?_, fun y hy => ?_, fun y c h _ => absurd h (by show ¬ (false = true); decide), (fun z => Bool.noConfusion (show false = true from z)), Around.frames_deeper e0.frames, .inr ⟨rfl, rfl⟩, fun b z => absurd z (noA b), e0.bs, e0.bsz, fun b _ _ => noA b, fun b z => absurd z (noA b), e0.funs, e0.frf⟩,
    rfl, e0.bare, Un.kept hk, ⟨_, hns, fun i y v h1 h2 h3 => ?_⟩, fun y c h => ?_, e0.hok.fresh (Nat.le_refl _), fun y c h => ?_, fun q hq => ?_, e0.hok.kept hk, ?_⟩
  · exact (hcs y c h1).1.trans (hcs z c h2).1.symm
  · have hy : scope.names.lookup y = some .cell ∨ scope.names.lookup y = some .free := hy
    rcases hy with hy | hy
    · exact absurd rfl (S.nocell _ (PySem.mem_of_lookup hy))
    · have e := S.free y hy
      subst e
      exact ⟨cc, by show List.lookup ("__class__" : Str) [(("__class__" : Str), cc)] = _; simp [List.lookup]⟩
  · have h1' : N[i]? = some y := h1
    have ha : vs[i]? = some v := by
      rw [List.getElem?_map] at h2
      cases e : vs[i]? with
      | none => rw [e] at h2; cases h2
      | some a => rw [e] at h2; cases h2; rfl
    obtain ⟨u, hu, rv⟩ := r.get ha
    exact ⟨u, rv, .inl ⟨S.par y (List.mem_of_getElem? h1'), rev_get (hl.symm.trans r.length) S.nd h1' hu⟩⟩
  · obtain ⟨_, rfl⟩ := hcs y c h
    exact ⟨cv, ob, hk _ _ (e0.bs _ _ hb1).1, hb2⟩
  · obtain ⟨_, rfl⟩ := hcs y c h
    exact (e0.bs _ _ hb1).2
  · have eq : q = p := by simpa using (show q ∈ [p] ++ ([] : List (Addr × Obj)) from hq)
    rw [eq]
    exact ⟨hk p.1 p.2 hpin.get, hpin.free, Nat.ne_of_lt (Heap.lt_size hpin.get), hpin.nofs, hpin.nocell⟩
  · show (vs.map some).length = N.length
    rw [List.length_map, hl]

theorem fn_superH {CX : CXT} {P : Program} {w : World} {K : PySem.W.Frag} {mg : Str → Option Value} {base : Heap} {k : Nat} {f C cc cda : Addr} {name qual self : Str} {params : Arguments} {body : List Stmt} {scope : Scope} {dV kV doc pm ct oc : Value} {an od : Option Addr}
    {osl : Array (Option Value)} {N : List Str} {sp : Sp} {parts : List Expr} {rest : List Stmt} {p0 p1 p2 p3 p4 jp : Pos} {ar : Arg} {N' : List Str} {pl : Sem Bool}
    (T : SupC P K mg C cc cda)
    (lk : K.lookup f = some ⟨oc, od, .func (PySem.W.ksFn name qual params body scope dV kV doc pm an (.ref cda) ct cc), osl⟩) (hcd : PySem.W.codeIn K (.ref cda) qual = true) (S : SScope N scope) (hN : N = self :: N')
    (hpar : (params.posonlyargs ++ params.args).head? = some ar) (har : ar.arg = self)
    (hbd : body = .Expr (.Call (.Attribute (.Call (.Name "super" p0) [] [] p1) "__init__" p2) [.JoinedStr parts jp] [] p3) p4 :: rest)
    (hcall : ∀ env : Env, eval (.Call (.Attribute (.Call (.Name "super" p0) [] [] p1) "__init__" p2) [.JoinedStr parts jp] [] p3) env = (do
      let ov ← attributeBase (.Call (.Name "super" p0) [] [] p1) "__init__" env (eval (.Call (.Name "super" p0) [] [] p1) env)
      standAt p2.atName
      let (f, first) ← holding [ov] (getMethod ov "__init__" pl)
      callWith p3 f first (backTo p3 (starEach [.JoinedStr parts jp] env)) []))
    (hsw : ∀ env : Env, swapsWith (.Call (.Attribute (.Call (.Name "super" p0) [] [] p1) "__init__" p2) [.JoinedStr parts jp] [] p3) none p4.line env = pure false)
    (len : ∀ vs H Q E, sp vs H Q E → vs.length = N.length)
    (hbody : ∀ (A : Around) (outer : List Env) (s : Shared) (H : Hp) (vs : List V) (Q : VK) (E : XK) (p : Addr × Obj), Hot1 A p → RoomH k (A.deeper (PySem.W.ksEnv qual scope s.heap.objs.size f (.ref cda) cc)) → sp vs H Q E →
      ∃ te t, PE (cxSH CX P w K mg base N qual scope f cc (.ref cda) A outer s H E p) (.JoinedStr parts jp) te ∧ PSs (cxSH CX P w K mg base N qual scope f cc (.ref cda) A outer s H E p) rest t ∧
        (∃ a, vs[0]? = some (.ref a) ∧ H a = some (exo a C none)) ∧ tSeq (tSup C te) t { nx := fun _ H' => Q .non H', rt := Q } (vs.map some) H) :
    FnH P w K mg base CX (k + 1) f (PySem.W.ksFn name qual params body scope dV kV doc pm an (.ref cda) ct cc) N sp := by
  refine ⟨len, fun A outer s H args us vs Q E p hr hot hpin e0 hb r hsp => ?_⟩
  have hl := len _ _ _ _ hsp
  have KX : K.In s.heap := e0.mod.kin.keeps fun b o e => (e0.bs b o e).1
  have lim : s.heap.NoLimit := e0.mod.nolimit.keeps fun b o e => (e0.bs b o e).1
  obtain ⟨cl, cld, csl, hcell⟩ := T.cell
  obtain ⟨ccl, cdd, vsC, ccs, file, tf, hcode, hvs2, hfile⟩ := T.code
  obtain ⟨nm, q, Nc, bs, bm, sn, sub, ab, col, dd, k0, k1, k2, k3, k5, hC, hbm⟩ := T.oex.cls
  obtain ⟨te, t, hpe, hps, ⟨a, ha0, hea⟩, hq⟩ := hbody A outer s H vs Q E p hot (hr.deeper _) hsp
  refine ks_codeAny_call_defAt (fd := PySem.W.ksFn name qual params body scope dV kV doc pm an (.ref cda) ct cc) (body := body) (binds := N.zip us) hr.depth (KX _ _ lk) rfl lim (PySem.W.codeRec_of KX hcd) rfl hb S.nocell (fun y hy => S.par y.1 (List.of_mem_zip (a := y.1) (b := y.2) hy).1) (fun h1 hns hk => ?_) S.co S.gen S.kind
  have I : Inv (cxSH CX P w K mg base N qual scope f cc (.ref cda) A outer s H E p) [] (vs.map some) H { s with heap := h1, toks := s.toks + (N.zip us).length } := inv_sH S hpin e0 hl r hcell hns hk
  subst hbd
  subst hN
  have ka0 : ∃ u0 us', us = u0 :: us' := by
    cases us with
    | nil => have q := r.length; rw [hl] at q; exact absurd q (by simp)
    | cons u0 us' => exact ⟨u0, us', rfl⟩
  obtain ⟨u0, us', rfl⟩ := ka0
  have hu0 : u0 = Value.ref a := by
    cases r with
    | cons r0 rt =>
      rw [List.getElem?_cons_zero] at ha0
      cases ha0
      exact r0
  subst hu0
  have hL : ((self :: N').zip (Value.ref a :: us')).reverse.lookup self = some (Value.ref a) := rev_get (by rw [← r.length]; exact hl.symm) S.nd (i := 0) rfl rfl
  have hself : scope.names.lookup self = some .local := S.par self List.mem_cons_self
  have hne : a ≠ C := fun z => by
    obtain ⟨t1, ho⟩ := exo_at e0.hok hea
    rw [z, KX _ _ hC] at ho
    cases ho
  generalize hs1 : s.toks + ((self :: N').zip (Value.ref a :: us')).length = tk1 at I ⊢
  obtain ⟨hp0, g, d, tk, os⟩ := s
  let env := PySem.W.ksEnv qual scope hp0.objs.size f (.ref cda) cc
  show PySem.wpAt (model P w) (A.deeper env) (.func (.Expr (.Call (.Attribute (.Call (.Name "super" p0) [] [] p1) "__init__" p2) [.JoinedStr parts jp] [] p3) p4 :: rest) env) (execs (.Expr (.Call (.Attribute (.Call (.Name "super" p0) [] [] p1) "__init__" p2) [.JoinedStr parts jp] [] p3) p4 :: rest) env) _ _ _
  have hint : interactive env = false := by
    unfold interactive
    rw [show env.scope.kind = ScopeKind.function from S.kind]
    rfl
  refine ks_wpAt_execs_cons (ks_wpAt_Expr_any (ks_wpAt_MethodCall (pl := pl) ?_ (hcall env)) hint (hsw env))
  · refine ks_wpAt_super_base (env := env) S.sup S.cls (by decide) rfl (hk _ _ (KX _ _ lk)) rfl hpar rfl (hk _ _ (KX _ _ hcode)) rfl hvs2 hfile T.noTop ?_
    obtain ⟨mb, hb1, hb2⟩ := I.mod.blt
    have hbs : mb ("super" : Str) = some (.type "super") := (hb2 _ (by decide)).trans (by decide +kernel)
    refine PySem.W.ks_loadName_global (env := env) S.kind S.sup (Calls.loadGlobal_builtin (env := env) (I.mod.glob.keeps I.bk) T.noMg (hb1.keeps I.bk) hbs ⟨rfl, ?_⟩)
    refine wpAny_loadName_free (env := env) S.kind S.cls rfl ⟨_, hk _ _ (KX _ _ hcell), rfl⟩ ?_
    rw [har]
    refine wpAny_loadName_local (env := env) S.kind hself hns hL ?_
    have KX1 : K.In h1 := KX.keeps hk
    have hC1 := KX1 _ _ hC
    obtain ⟨t1, hx1⟩ := exo_at I.hok hea
    have hcl : PySem.W.clsIn K C = some { name := nm, bases := bs, mro := .ref C :: bm, ns := Nc, qualname := q, hasDict := true, slotNames := sn, subclasses := sub, abstract := ab, collection := col, hasDel := false } := by unfold PySem.W.clsIn; rw [hC] <;> rfl
    have hsup := T.sup
    unfold PySem.W.ks_superIn at hsup
    rw [hcl] at hsup
    refine ks_wpAny_isType_cls hC1 rfl ⟨rfl, ?_⟩
    refine ks_wpAny_call_super hC1 rfl hx1 rfl (fun c z => by cases z) (PySem.W.looks_mroIn KX1 T.sub) (fun h2 e2 k2 => ?_)
    have I1 : Inv (cxSH CX P w K mg base (self :: N') qual scope f cc (.ref cda) A outer ⟨hp0, g, d, tk, os⟩ H E p) [] (vs.map some) H ⟨h2, g, d, tk1, os⟩ := I.kept (t' := tk1) k2
    have KX2 : K.In h2 := KX1.keeps k2
    have J2 : PySem.W.InstAt h2 a ({ cls := .ref C, dict := none, data := .fields #[.ref t1, .none, .none, .none, .bool false, .none] } : Obj) C none := ⟨k2 _ _ hx1, rfl, rfl, trivial⟩
    refine PySem.W.kxs_getMethod PySem.W.kxs_ValueError e2 (PySem.W.looks_opaque KX2 T.any) (fun A Q E s k q => wpAny_bind ((PySem.W.looks_clsIn KX2 hcl) A _ E s k (wpAny_pure q))) rfl KX2 hsup (J2.type.andThen (PySem.W.looks_subIn KX2 T.subV)) hne (by decide) ?_
    have fp := I1.fpOk (b := h2.objs.size) (H' := H) (Nat.le_refl _) (I1.hok.fresh (Nat.le_refl _))
    have I2 : Inv (cxSH CX P w K mg base (self :: N') qual scope f cc (.ref cda) A outer ⟨hp0, g, d, tk, os⟩ H E p) [(h2.objs.size, PySem.W.kxs_mw "ValueError.__init__" a)] (vs.map some) H ⟨h2.push (PySem.W.kxs_mw "ValueError.__init__" a), g, d, tk1 + 1, os⟩ :=
      (I1.kept (t' := tk1 + 1) (h' := h2.push (PySem.W.kxs_mw "ValueError.__init__" a)) fun b o z => Heap.get?_push_of_some _ z).pins_of fun p hp => by
        have ep : p = (h2.objs.size, PySem.W.kxs_mw "ValueError.__init__" a) := by simpa using hp
        subst ep
        exact ⟨Heap.get?_push_at rfl rfl, fp.1, fp.2.1, fp.2.2.1, fun v z => by cases z⟩
    have hst : starEach [Expr.JoinedStr parts jp] env = (false, eval (.JoinedStr parts jp) env) :: starEach [] env := rfl
    rw [hst]
    refine PySem.W.kxs_callWith (i := "ValueError.__init__") (x := a) (by rfl) (Calls.evalArgs_plain ?_)
    refine Calls.spliced_cons (thn (hpe.run [(h2.objs.size, PySem.W.kxs_mw "ValueError.__init__" a)] _ (vs.map some) H _ I2 hq) fun u1 s3 hh => Calls.spliced_nil ?_)
    obtain ⟨v1, H3, I3, r3, ⟨a', ea', hea3⟩, q3⟩ := hh
    have ea2 : a' = a := by
      rw [List.getElem?_map, ha0] at ea'
      cases ea'
      rfl
    subst ea2
    have hu3 : s3.heap.get? h2.objs.size = some (PySem.W.kxs_mw "ValueError.__init__" a') := (I3.pin (h2.objs.size, PySem.W.kxs_mw "ValueError.__init__" a') (by simp)).1
    refine ⟨hu3, ?_⟩
    obtain ⟨t3, hx3⟩ := exo_at I3.hok hea3
    have KX3 := I3.kIn
    have hlen1 : [u1].length ≤ sizeLine := by
      rw [sizeLine_eq]
      exact (by decide : 1 ≤ 16777216)
    obtain ⟨hp3, g3, d3, tk3, os3⟩ := s3
    refine call_bv (KX3 _ _ hC) hx3 hu3 hlen1 fun h4 t4 k4 hx4 => ?_
    have J := I3.write (t' := tk3) (x := a') (e := a') (o := exo a' C none) (by rw [hea3]; exact True.intro) (.inl rfl) k4 ⟨_, hx4⟩ (exo_ok hx4)
    have eu : upd H3 a' (exo a' C none) = H3 := by
      funext b
      by_cases hb : b = a'
      · rw [hb, upd_same, hea3]
      · rw [upd_ne hb]
    rw [eu] at J
    have J0 : Inv (cxSH CX P w K mg base (self :: N') qual scope f cc (.ref cda) A outer ⟨hp0, g, d, tk, os⟩ H E p) [] (vs.map some) H3 ⟨h4, g3, d3, tk3, os3⟩ := Inv.unpinned (pins := []) J
    refine PySem.wpAt_of_wpAny ?_
    refine wpAny_mono (hps.run [] _ (vs.map some) H3 _ J0 q3) (fun fl s' hs => ?_) fun e s' hs => hs
    have fin : ∀ {σ' : L2.St} {H' : Hp} {v : V} {u : Value}, Inv (cxSH CX P w K mg base (self :: N') qual scope f cc (.ref cda) A outer ⟨hp0, g, d, tk, os⟩ H E p) [] σ' H' s' → RelV v u → Q v H' → CE outer P w H ⟨hp0, g, d, tk, os⟩ Q u s' :=
      fun {σ' H' v u} J rv q => ⟨v, H', J.os, J.bare, J.base, J.hok, rv, q⟩
    cases fl with
    | ret u =>
      obtain ⟨v, σ', H', J, rv, q⟩ := hs
      exact fin J rv q
    | next =>
      obtain ⟨σ', H', J, q⟩ := hs
      exact fin (v := V.non) (u := Value.none) J rfl q
    | brk =>
      obtain ⟨_, _, _, q⟩ := hs
      exact False.elim q
    | cont =>
      obtain ⟨_, _, _, q⟩ := hs
      exact False.elim q
end Vk
set_option Elab.async false
set_option linter.all false
set_option maxRecDepth 100000
set_option maxHeartbeats 2000000
namespace Vk
open PySem PySem.Spec PyProof.Rows L2
/-! defs whose errors bear no context, for a handler that raises -/
theorem okN {P : Program} {w : World} {K : PySem.W.Frag} {mg : Str → Option Value} {base : Heap} {nm qn : Str} {st : Stmt} {fa : Addr} {fd : FuncData} {N qs : List Str} {lv : Nat} {sp : Sp} (F : Fun K nm qn st fa fd) (S : FnScope N qs (defScope st))
    (hlen : ∀ us H Q E, sp us H Q E → us.length = qs.length)
    (hb : ∀ (cv : Value) (B : Around) (out : List Env) (s0 : Shared) (H : Hp) (us : List V) (Q : VK) (E : XK), Room lv (B.deeper (envOfC qn (defScope st) s0.heap.objs.size fa cv)) → sp us H Q E →
      ∃ z, PSs (cxOf (L2N.CX P w) P w K mg base N qn (defScope st) fa cv B out s0 H E) (defBody st) z ∧ z { nx := fun _ G => Q .non G, rt := Q } (start N us) H) : FnOk P w K mg base (L2N.CX P w) (lv + 1) fa fd qs sp := by
  obtain ⟨_, _, _, _, _, _, cv, _, _, rfl, h1, h2⟩ := F.ex
  exact fn_of h1 h2 S hlen fun B out s0 H us Q E r h => hb cv B out s0 H us Q E r h
/-- C(e, ..), C an own error with its own __init__; the new error bears no context -/
theorem pmk_oexN {X : Cx} {CX : CXT} {nm : Str} {C fi : Addr} {lv : Nat} {fd : FuncData} {qs : List Str} {sp : Sp} {e : Expr} {es : List Expr} {ta : TA} {p p' : Pos} (O : OexC X.K C) (hi : PySem.W.findIn X.K (.ref C) "__init__" = some (some (.ref fi))) (ht : PySem.W.typeIn X.K (.ref fi) = some (.type "function"))
    (FI : FnOk X.prog X.w X.K X.mg X.base CX lv fi fd qs sp) (hr : Room (lv + 1) X.A) (hb : Binds X.K fd qs []) (hp : Passes CX X (fun _ _ _ => False)) (hg : Gl X nm) (hm : X.mg nm = some (.ref C)) (ha : PA X (e :: es) ta)
    (hdb : (nm == ("__debug__" : Str)) = false := by decide) (hst : starEach (e :: es) X.env = (false, eval e X.env) :: starEach es X.env := by rfl) (hpl : (backTo p' (starEach es X.env)).any (·.1) = false := by rfl) :
    L2N.PMk X (.Call (.Name nm p) (e :: es) [] p') (tMkO C sp [] ta) := by
  intro pins s σ H Q I h
  obtain ⟨n1, n2, n3, n4, bm, n6, n7, n8, n9, n10, n11, n12, n13, n14, n15, hC, hbm⟩ := O.cls
  refine wpAny_Call_Name_kw (ld_glob I hg hm ?_ hdb)
  refine PySem.W.callWith_K (h₀ := X.base) I.ok.mod.kin O.kC (thn (ha.run p' pins s σ H _ I h) fun us s1 z1 => ?_) hst hpl
  obtain ⟨vs, H1, J, rv, hz, q⟩ := z1
  refine ⟨J.kIn, ?_⟩
  show wpAny _ _ (call (.ref C) us) _ _ _
  obtain ⟨g0, ga, dr, tk, os⟩ := s1
  have up1 : g0.objs.size ≤ g0.objs.size + 1 := Nat.le_succ _
  have q1 := q (g0.objs.size + 1) (J.hok.fresh up1)
  rw [List.append_nil] at q1
  have kp : ∀ b o, g0.get? b = some o → ((g0.push (PySem.W.kdv_tup us)).push (PySem.HandSPX.excO C g0.objs.size)).get? b = some o := fun _ _ y => Heap.get?_push_of_some _ (Heap.get?_push_of_some _ y)
  have at1 : ((g0.push (PySem.W.kdv_tup us)).push (PySem.HandSPX.excO C g0.objs.size)).get? (g0.objs.size + 1) = some (PySem.HandSPX.excO C g0.objs.size) := by heap_get
  have J2 := J.laid (t' := tk) (a := g0.objs.size + 1) (o := exo (g0.objs.size + 1) C none) kp up1 (exo_ok at1)
  have r2 : Vals (V.ref (g0.objs.size + 1) :: vs) (Value.ref (g0.objs.size + 1) :: us) := .cons rfl rv
  have ln : (Value.ref (g0.objs.size + 1) :: us ++ []).length = qs.length := by
    have y := r2.length
    rw [FI.len _ _ _ _ q1] at y
    rw [List.append_nil]
    exact y.symm
  have usz : us.length ≤ sizeLine := by
    rw [← Paired.length rv, sizeLine_eq]
    omega
  have b1 := hb _ (Value.ref (g0.objs.size + 1) :: us) J2.kIn ln
  rw [List.append_nil] at b1
  have run := FI.run _ X.stack _ _ ⟨Value.ref (g0.objs.size + 1) :: us, []⟩ (Value.ref (g0.objs.size + 1) :: us) _ _ (fun _ _ _ => False) (hr.make C us []) (J2.env0.make C us []) b1 r2 q1
  refine wpAny_call (PySem.HandSPX.call_own F.excBase_ValueError (fun Y => PySem.HandSPX.refsVE_contains Y bm hbm) (J.kIn _ _ hC) (PySem.W.looks_findIn J.kIn hi) (fun self => PySem.W.bind_fn J.kIn self ht) usz (codeAny_mono run fun r s2 z => ?_))
  cases r with
  | error er => exact hp pins σ _ _ er s2 J2 z
  | ok fl =>
    cases fl with
    | next => exact z.elim
    | brk => exact z.elim
    | cont => exact z.elim
    | ret u =>
      obtain ⟨v, H2, e1, e2, e3, e4, e5, ev, d, fs, e6, e7, e8, e9⟩ := z
      subst ev
      obtain ⟨g2, ga2, d2, t2, os2⟩ := s2
      obtain ⟨t0, G, J3, kG, gn, go, na⟩ := mk_end0 (d2 := d2) (t2 := t2) J up1 kp e3 e4 e1 e2 e6 e7 e8
      refine ⟨e5, g0.objs.size + 1, _, _, ⟨G, ga2, d2, t2, os2⟩, _, .ref C, some d, rfl, J3, kG, gn, go, ⟨rfl, rfl, fun vs hv => ?_⟩, rfl, rfl, na, rfl, e2, raises_own O.exC O.tyC, e9⟩
      cases hv
      rfl
end Vk
set_option Elab.async false
set_option linter.all false
set_option maxRecDepth 100000
set_option maxHeartbeats 4000000
namespace Vk
open PySem PySem.Spec PyProof.Rows L2
/-! enumerate over a text -/
/-- each sign of x in a new pair with its place -/
def IteS (x : Str) : It :=
  ⟨fun i _ => i < x.cps.size, fun i H v H' => ∃ (T : Addr) (c : Nat), v = .ref T ∧ H T = none ∧ x.cps[i]? = some c ∧ H' = upd H T (.tup [.int (i : Nat), .str ⟨#[c]⟩]), fun i _ => x.cps.size ≤ i⟩
theorem draws_txt {P : Program} {w : World} {A : Around} (hh : A.handled = none) (it : Addr) (x : Str) (t : Tok) {ty : String} (hty : ty = "str_ascii_iterator" ∨ ty = "str_iterator") :
    Draws P w A it [it] x.cps.size (fun i v => ∃ c u, x.cps[i]? = some c ∧ v = .str ⟨#[c]⟩ u) (fun i h => h.IsStrIter it ty x t i) := by
  rcases hty with z | z
  · rw [z]
    exact Draws.strAscii hh it x t
  · rw [z]
    exact Draws.strWide hh it x t
theorem turn_enumS {P : Program} {w : World} {K : PySem.W.Frag} {elts : List Expr} {kk : Nat} {tpos : Pos} (e it : Addr) (x : Str) (t : Tok) (ty : String) (hei : e ≠ it) (hty : ty = "str_ascii_iterator" ∨ ty = "str_iterator") :
    Turn P w K (.Tuple elts kk tpos) (IteS x) [e, it] e (fun i h => (∃ old, IsEnum h e it ((i : Nat) : Int) old) ∧ h.IsStrIter it ty x t i) where
  mem := by simp
  obj := fun i h st b hb => by
    obtain ⟨⟨old, he⟩, o, ho, hc, hd⟩ := st
    have e' : b = e ∨ b = it := by simpa using hb
    rcases e' with z | z
    · rw [z]
      exact ⟨_, he, fun v q => nomatch q⟩
    · rw [z]
      exact ⟨o, ho, fun v q => by rw [hd] at q; cases q⟩
  keep := fun i h h' st k => by
    obtain ⟨⟨old, he⟩, o, ho, r⟩ := st
    exact ⟨⟨old, k e (by simp) _ he⟩, o, k it (by simp) o ho, r⟩
  item := by
    intro X hP hw hK hc i pins s σ H E I hf st hg
    subst hP hw hK
    obtain ⟨⟨old, he⟩, hit⟩ := st
    have hel : e < s.heap.objs.size := Heap.lt_size he
    have hil : it < s.heap.objs.size := by
      obtain ⟨_, q, _⟩ := hit
      exact Heap.lt_size q
    refine wpAny_pyNext_enum_itemD (draws_txt (A := X.A.in1) (I.ok.hd hc) it x t hty) he hit hg hei (by simp [hei]) fun y h' tk hy ho hst hT hsz hk => ?_
    obtain ⟨c, u, hcx, rfl⟩ := hy
    refine ⟨_, rfl, wpAny_letOwnedTupleGo_enum (s := { s with heap := h', toks := tk + 1 }) ho fun h'' he' sb => ?_⟩
    have hT2 := (sb.2 _ (Nat.ne_of_gt hel)).trans hT
    have new : ObjOk X.prog X.w (upd H s.heap.objs.size (.tup [.int (i : Nat), .str ⟨#[c]⟩])) h'' s.heap.objs.size (.tup [.int (i : Nat), .str ⟨#[c]⟩]) :=
      ⟨by show 2 ≤ sizeLine; decide, [.int i tk, .str ⟨#[c]⟩ u], .cons ⟨_, rfl⟩ (.cons ⟨u, rfl⟩ .nil), ⟨_, hT2, rfl, _, rfl⟩⟩
    have I1 : Inv X pins σ (upd H s.heap.objs.size (.tup [.int (i : Nat), .str ⟨#[c]⟩])) { s with heap := h'', toks := tk + 1 } :=
      I.turnedNew (ch := [e, it]) (fun b ob hb q => (sb.2 b (fun z => hb (by simp [z]))).trans (hk b ob (fun z => hb (by simp [z])) (fun z => hb (by simp [z])) q)) hf (Nat.le_refl _) new
    refine ⟨.ref s.heap.objs.size, _, I1, rfl, ⟨_, c, rfl, I.hok.fresh (Nat.le_refl _), hcx, rfl⟩, ⟨⟨.str ⟨#[c]⟩ u, ?_⟩, ?_⟩, fun b hb => ?_⟩
    · have e1 : ((i + 1 : Nat) : Int) = (i : Int) + 1 := by omega
      rw [e1]
      exact he'
    · obtain ⟨o2, q2, r2⟩ := hst
      exact ⟨o2, (sb.2 it (Ne.symm hei)).trans q2, r2⟩
    · have hb' : b < s.heap.objs.size := by
        have e' : b = e ∨ b = it := by simpa using hb
        rcases e' with z | z
        · rw [z]
          exact hel
        · rw [z]
          exact hil
      rw [upd_ne (Nat.ne_of_lt hb')]
      exact (hf b hb).1
  done := by
    intro X hP hw hK hc i pins s σ H E I hf st hg
    subst hP hw hK
    obtain ⟨⟨old, he⟩, hit⟩ := st
    obtain ⟨f0, f1, f2, f3, f4, f5⟩ := hf it (by simp)
    have hg : x.cps.size ≤ i := hg
    have hx : x.cps[i]? = none := Array.getElem?_eq_none hg
    have hT : s.TypeIs (.ref e) "enumerate" := ⟨_, he, rfl⟩
    unfold pyNext
    refine wpAny_bind (wpAny_attempt (wpAny_callSpecial?_slot (name := Str.ofString "__next__") hT F.slot_enumerate_next
      (wpAny_call_entry F.slot_enumerate_next hT F.entry_enumerate_next ?_ (F.args_enumerate_next_1 _))))
    show wpAny _ _ (field (.ref e) 2 >>= _) _ _ _
    refine wpAny_bind (wpAny_field he rfl (x := .ref it) rfl ?_)
    have stop : ∀ {Q : Value → Shared → Prop} {E : Value → Shared → Prop}, (∀ h' y, Heap.ExtBut it s.heap h' → (∃ o, h'.get? y = some o ∧ o.cls = .type "StopIteration") → E (.ref y) { s with heap := h' }) →
        wpAny (model X.prog X.w) X.A.in1 (Builtin.SmallTypes.nextOf (.ref it)) Q E s := fun {Q E} q => by
      rcases hty with z | z
      · rw [z] at hit
        exact wpAny_nextOf_ascii_end (I.ok.hd hc) hit hx q
      · rw [z] at hit
        exact wpAny_nextOf_wide_end (I.ok.hd hc) hit hx q
    refine wpAny_bind (stop fun h' y he' hx' => ?_)
    obtain ⟨o, ho, hcl⟩ := hx'
    refine wpAny_bind (wpAny_isInstance (T := "StopIteration") (b := true) ⟨o, ho, hcl⟩ isSubtype_stop ?_)
    exact wpAny_pure ⟨rfl, I.turned (t' := s.toks) (fun b o hb q => he' b o hb q) f0 f1 f3 f4 f5⟩
  self := fun A i s Q E st h => let ⟨⟨_, he⟩, _⟩ := st; wpAny_pyIter_enum he h
def iEnumS (ta : TA) : TI := fun σ H R => ta σ H fun vs H1 => ∃ x, vs = [.str x] ∧ R (IteS x) H1
theorem pi_enumS {X : Cx} {e : Expr} {ta : TA} {p pos tpos : Pos} {elts : List Expr} {kk : Nat} (hg : Gl X "enumerate") (hm : X.mg "enumerate" = none) (ha : PA X [e] ta) (hs : starEach [e] X.env = [(false, eval e X.env)] := by rfl) :
    PI X (.Tuple elts kk tpos) (.Call (.Name "enumerate" p) [e] [] pos) (iEnumS ta) := by
  refine ⟨fun pins s σ H R I h => ?_⟩
  refine Call_ (ld_blt I hg hm boot_enumerate (PyProof.Rows.callWith_type1 (thn (ha.run pos pins s σ H _ I h) fun us s1 z => ?_) hs rfl))
  obtain ⟨vs, H1, I1, r1, x, ex, q⟩ := z
  subst ex
  cases r1 with
  | cons r rr =>
    cases rr
    obtain ⟨t, rfl⟩ := r
    refine call_enumerate_str fun h' he hit hsz hk => wpAny_pyIter_enum he ?_
    have I2 : Inv X pins σ H1 { s1 with heap := h' } := I1.kept (t' := s1.toks) hk
    have hty : strIterType x = "str_ascii_iterator" ∨ strIterType x = "str_iterator" := by
      unfold strIterType
      split
      · exact .inl rfl
      · exact .inr rfl
    refine ⟨s1.heap.objs.size + 1, [s1.heap.objs.size + 1, s1.heap.objs.size], _, _, H1, rfl, I2, turn_enumS (s1.heap.objs.size + 1) s1.heap.objs.size x t (strIterType x) (Nat.succ_ne_self _) hty, ⟨⟨.none, he⟩, hit⟩, fun b hb => ?_, q⟩
    have e' : b = s1.heap.objs.size + 1 ∨ b = s1.heap.objs.size := by simpa using hb
    have hle : s1.heap.objs.size ≤ b := by
      rcases e' with z | z
      · rw [z]
        exact Nat.le_add_right _ _
      · rw [z]
        exact Nat.le_refl _
    exact I1.fpOk hle (I1.hok.fresh hle)
theorem walk_enumS {x : Str} : Walk (IteS x) x.cps.size (fun _ => True) (fun i H v H' => ∃ (T : Addr) (c : Nat), v = .ref T ∧ H T = none ∧ x.cps[i]? = some c ∧ H' = upd H T (.tup [.int (i : Nat), .str ⟨#[c]⟩])) :=
  ⟨fun i _ hi _ => hi, fun _ _ => Nat.le_refl _, fun _ _ _ _ _ _ y => y⟩
end Vk
set_option Elab.async false
set_option linter.all false
set_option maxRecDepth 100000
set_option maxHeartbeats 4000000
namespace Vk
open PySem PySem.Spec PyProof.Rows L2
/-! zip of a text and a list -/
def IzS (K : PySem.W.Frag) (x : Str) (b : Addr) : It :=
  ⟨fun i H => ∃ (ys : List V) (y : V), SqL K H b ys ∧ ys[i]? = some y ∧ i < x.cps.size,
    fun i H v H' => ∃ (T : Addr) (c : Nat) (y : V), v = .ref T ∧ H T = none ∧ x.cps[i]? = some c ∧ H' = upd H T (.tup [.str ⟨#[c]⟩, y]) ∧ ∀ ys, SqL K H b ys → ys[i]? = some y,
    fun i H => ∃ ys : List V, SqL K H b ys ∧ i ≤ x.cps.size ∧ i ≤ ys.length ∧ (i = x.cps.size ∨ i = ys.length)⟩
theorem turn_zipS {P : Program} {w : World} {K : PySem.W.Frag} {elts : List Expr} {kk : Nat} {tpos : Pos} {b z TI TO i1 i2 : Addr} (x : Str) (t : Tok) (ty : String) (D : ZipSep2 z TI TO i1 i2 [i1] [i2, b]) (hbi : b ≠ i2) (hty : ty = "str_ascii_iterator" ∨ ty = "str_iterator") :
    Turn P w K (.Tuple elts kk tpos) (IzS K x b) [z, TI, TO, i1, i2] z (fun i h => IsZip h z TI TO .none ∧ IsTupOf2 h TI (.ref i1) (.ref i2) ∧ (∃ u v, IsTupOf2 h TO u v) ∧ h.IsStrIter i1 ty x t i ∧ h.IsListIter i2 b i) where
  mem := by simp
  obj := fun i h st c hc => by
    obtain ⟨hz, hTI, ⟨u, v, hTO⟩, ⟨o1, e1, _, d1⟩, ⟨o2, e2, _, d2⟩⟩ := st
    have e' : c = z ∨ c = TI ∨ c = TO ∨ c = i1 ∨ c = i2 := by simpa using hc
    rcases e' with q | q | q | q | q
    · rw [q]
      exact ⟨_, hz, fun v q => nomatch q⟩
    · rw [q]
      exact ⟨_, hTI, fun v q => nomatch q⟩
    · rw [q]
      exact ⟨_, hTO, fun v q => nomatch q⟩
    · rw [q]
      exact ⟨o1, e1, fun v q => by rw [d1] at q; cases q⟩
    · rw [q]
      exact ⟨o2, e2, fun v q => by rw [d2] at q; cases q⟩
  keep := fun i h h' st k => by
    obtain ⟨hz, hTI, ⟨u, v, hTO⟩, ⟨o1, e1, r1⟩, h2⟩ := st
    exact ⟨k z (by simp) _ hz, k TI (by simp) _ hTI, ⟨u, v, k TO (by simp) _ hTO⟩, ⟨o1, k i1 (by simp) _ e1, r1⟩, h2.at fun o q => k i2 (by simp) o q⟩
  item := by
    intro X hP hw hK hc i pins s σ H E I hf st hg
    subst hP hw hK
    obtain ⟨hz, hTI, ⟨u0, v0, hTO⟩, h1, h2⟩ := st
    obtain ⟨ys, y, hqy, hy, hix⟩ := hg
    obtain ⟨its2, rv2, p2, _⟩ := I.list hqy
    obtain ⟨u2, hu2, ru2⟩ := rv2.get hy
    have hzl : z < s.heap.objs.size := Heap.lt_size hz
    have hi2 : i < its2.toArray.size := by
      have := (List.getElem?_eq_some_iff.mp hu2).1
      simpa using this
    refine wpAny_pyNext_zipD2_item D (draws_txt (A := X.A.in1) (I.ok.hd hc) i1 x t hty) (Draws.list (A := X.A.in1) (I.ok.hd hc) i2 b hbi its2.toArray) hz hTI hTO h1 ⟨h2, p2.isList⟩ hix hi2 fun q1 q2 h' tk hq1 hq2 z' TO' st1 st2 hT hsz hk => ?_
    obtain ⟨c, u, hcx, rfl⟩ := hq1
    have hq2' : q2 = u2 := by
      have e1 : its2[i]? = some q2 := by simpa using hq2
      rw [hu2] at e1
      exact (Option.some.inj e1).symm
    subst hq2'
    refine ⟨_, rfl, wpAny_letOwnedTupleGo_zip (s := { s with heap := h', toks := tk }) z' fun h'' z'' sb => ?_⟩
    have hT2 : h''.get? s.heap.objs.size = some { cls := .type "tuple", data := .seq #[.str ⟨#[c]⟩ u, q2] } := (sb.2 _ (Nat.ne_of_gt hzl)).trans hT
    have new : ObjOk X.prog X.w (upd H s.heap.objs.size (.tup [.str ⟨#[c]⟩, y])) h'' s.heap.objs.size (.tup [.str ⟨#[c]⟩, y]) :=
      ⟨by show 2 ≤ sizeLine; decide, [.str ⟨#[c]⟩ u, q2], .cons ⟨u, rfl⟩ (.cons ru2 .nil), ⟨_, hT2, rfl, _, rfl⟩⟩
    have I1 : Inv X pins σ (upd H s.heap.objs.size (.tup [.str ⟨#[c]⟩, y])) { s with heap := h'', toks := tk } :=
      I.turnedNew (ch := [z, TI, TO, i1, i2]) (fun a o hb q => (sb.2 a (fun q' => hb (by simp [q']))).trans (hk a o (fun q' => hb (by simp [q'])) (fun q' => hb (by simp [q'])) (fun q' => hb (by simp [q'])) (fun q' => hb (by simp [q'])) q)) hf (Nat.le_refl _) new
    refine ⟨.ref s.heap.objs.size, _, I1, rfl, ⟨_, c, y, rfl, I.hok.fresh (Nat.le_refl _), hcx, rfl, fun l hl => by rw [I.list_inj hl hqy]; exact hy⟩, ⟨z'', ?_, ⟨.str ⟨#[c]⟩ u, q2, ?_⟩, ?_, ?_⟩, fun a hcm => ?_⟩
    · exact (sb.2 _ D.TIz).trans (hk _ _ D.TIz D.TITO D.TIi1 D.TIi2 hTI)
    · exact (sb.2 _ D.TOz).trans TO'
    · obtain ⟨o1, e1, r1⟩ := st1
      exact ⟨o1, (sb.2 _ (Ne.symm D.zi1)).trans e1, r1⟩
    · exact st2.1.at fun o q => (sb.2 _ (Ne.symm D.zi2)).trans q
    · have hlt : a < s.heap.objs.size := by
        have e' : a = z ∨ a = TI ∨ a = TO ∨ a = i1 ∨ a = i2 := by simpa using hcm
        rcases e' with q | q | q | q | q
        · rw [q]
          exact hzl
        · rw [q]
          exact Heap.lt_size hTI
        · rw [q]
          exact Heap.lt_size hTO
        · rw [q]
          obtain ⟨_, e1, _⟩ := h1
          exact Heap.lt_size e1
        · rw [q]
          obtain ⟨_, e2, _⟩ := h2
          exact Heap.lt_size e2
      rw [upd_ne (Nat.ne_of_lt hlt)]
      exact (hf a hcm).1
  done := by
    intro X hP hw hK hc i pins s σ H E I hf st hg
    subst hP hw hK
    obtain ⟨hz, hTI, ⟨u0, v0, hTO⟩, h1, h2⟩ := st
    obtain ⟨ys, hqy, hi1, hi2, hend⟩ := hg
    obtain ⟨its2, rv2, p2, _⟩ := I.list hqy
    have l2 := rv2.length
    exact wpAny_pyNext_zipD2_end D (draws_txt (A := X.A.in1) (I.ok.hd hc) i1 x t hty) (Draws.list (A := X.A.in1) (I.ok.hd hc) i2 b hbi its2.toArray) hz hTI hTO h1 ⟨h2, p2.isList⟩ hi1 (by simpa [← l2] using hi2) (hend.imp id fun e => by simpa [← l2] using e)
      fun h' tk hk => ⟨rfl, I.turnedL (t' := tk) (ch := [z, TI, TO, i1, i2]) (fun c o hb q => hk c o (fun q' => hb (by simp [q'])) (fun q' => hb (by simp [q'])) (fun q' => hb (by simp [q'])) (fun q' => hb (by simp [q'])) q) hf⟩
  self := fun A i s Q E st h => wpAny_pyIter_zip st.1 h
def iZipS (K : PySem.W.Frag) (ta : TA) : TI := fun σ H R => ta σ H fun vs H1 => ∃ (x : Str) (b : Addr) (ys : List V), vs = [.str x, .ref b] ∧ SqL K H1 b ys ∧ R (IzS K x b) H1
theorem sep5 (I b : Nat) (h : b < I) : ZipSep2 (I + 4) (I + 2) (I + 3) I (I + 1) [I] [I + 1, b] := by
  refine ⟨?_, ?_, ?_, ?_, ?_, ?_, ?_, ?_, ?_, ?_, ?_, ?_, ?_⟩
  all_goals first | (intro e; have e : (_ : Nat) = _ := e; omega) | (simp; done) | (intro e; simp at e; grind) | (simp; grind)
theorem pi_zipS {X : Cx} {e e2 : Expr} {ta : TA} {p pos tpos : Pos} {elts : List Expr} {kk : Nat} (hg : Gl X "zip") (hm : X.mg "zip" = none) (ha : PA X [e, e2] ta)
    (hs : starEach [e, e2] X.env = (false, eval e X.env) :: starEach [e2] X.env := by rfl) (hpl : (backTo pos (starEach [e2] X.env)).any (·.1) = false := by rfl) :
    PI X (.Tuple elts kk tpos) (.Call (.Name "zip" p) [e, e2] [] pos) (iZipS X.K ta) := by
  refine ⟨fun pins s σ H R I h => ?_⟩
  refine Call_ (ld_blt I hg hm PyProof.Rows.boot_zip (PyProof.Rows.callWith_type1 (thn (ha.run pos pins s σ H _ I h) fun us s1 z => ?_) hs hpl))
  obtain ⟨vs, H1, I1, r1, x, b, ys, ex, hqy, q⟩ := z
  subst ex
  cases r1 with
  | cons r rr =>
    cases rr with
    | cons r' rr =>
      cases rr
      obtain ⟨t, rfl⟩ := r
      cases r'
      obtain ⟨its2, rv2, p2, _⟩ := I1.list hqy
      refine zip_begins2 (begins_text x t) (begins_list b its2.toArray) trivial p2.isList fun h' hz hTI hTO h1 h2 hsz hk => wpAny_pyIter_zip hz ?_
      have I2 : Inv X pins σ H1 { s1 with heap := h' } := I1.kept (t' := s1.toks) hk
      have hty : strIterType x = "str_ascii_iterator" ∨ strIterType x = "str_iterator" := by
        unfold strIterType
        split
        · exact .inl rfl
        · exact .inr rfl
      refine ⟨s1.heap.objs.size + 4, [s1.heap.objs.size + 4, s1.heap.objs.size + 2, s1.heap.objs.size + 3, s1.heap.objs.size, s1.heap.objs.size + 1], _, _, H1, rfl, I2, turn_zipS x t (strIterType x) (sep5 s1.heap.objs.size b p2.lt) (Nat.ne_of_lt (Nat.lt_succ_of_lt p2.lt)) hty, ⟨hz, hTI, ⟨_, _, hTO⟩, ⟨_, h1, rfl, rfl⟩, ⟨_, h2, rfl, rfl⟩⟩, fun c hcm => ?_, q⟩
      have e' : c = s1.heap.objs.size + 4 ∨ c = s1.heap.objs.size + 2 ∨ c = s1.heap.objs.size + 3 ∨ c = s1.heap.objs.size ∨ c = s1.heap.objs.size + 1 := by simpa using hcm
      have hle : s1.heap.objs.size ≤ c := by
        rcases e' with z | z | z | z | z
        · rw [z]
          exact Nat.le_add_right _ _
        · rw [z]
          exact Nat.le_add_right _ _
        · rw [z]
          exact Nat.le_add_right _ _
        · rw [z]
          exact Nat.le_refl _
        · rw [z]
          exact Nat.le_add_right _ _
      exact I1.fpOk hle (I1.hok.fresh hle)
end Vk
set_option Elab.async false
set_option linter.all false
set_option maxRecDepth 100000
set_option maxHeartbeats 2000000
namespace Vk
open PySem PySem.Spec PyProof.Rows L2
/-! C(e, .., k = v, ..) in a try: what its __init__ raises is wished for at the slots -/
def tMakeKS (C : Addr) (n m : Nat) (sp : Sp) (gV : List V → List V → List V) (E : L2.St → XK) (t tk : TA) : TE := fun σ H Q => t σ H fun vs H1 => tk σ H1 fun zs H2 => (vs.length = n ∧ zs.length = m) ∧ ∀ x dx, H2 x = none → H2 dx = none → dx ≠ x →
  sp (gV (.ref x :: vs) zs) (upd (upd H2 dx (.own x)) x (.ins C dx [])) (fun v H3 => v = .non ∧ Q (.ref x) H3) (E σ)
section
variable {X : Cx} {CX : CXT} {k n : Nat} {f C : Addr} {fd : FuncData} {ps ks : List Str} {sp : Sp} {E : L2.St → XK} {x : Str} {p pos : Pos} {e : Expr} {es : List Expr} {kws : List Keyword} {t tk : TA} {g : List Value → List Value → List Value} {gV : List V → List V → List V}
theorem pe_makeKS (M : Mk X.K C f) (F : FnOk X.prog X.w X.K X.mg X.base CX k f fd ps sp) (hr : Room (k + 1) X.A) (hg : Gl X x) (hm : X.mg x = some (.ref C)) (hb : KBn X.K fd ps (n + 1) ks g gV) (hx : ∀ σ, PassesAt CX X σ (E σ)) (ha : PA X (e :: es) t) (hkw : PK X kws tk)
    (hall : (backToKw pos (keywordEach kws X.env)).all (·.1.isSome) = true := by rfl) (hks : (backToKw pos (keywordEach kws X.env)).filterMap (·.1) = ks := by rfl) (hdb : (x == ("__debug__" : Str)) = false := by decide)
    (he : starEach (e :: es) X.env = (false, eval e X.env) :: starEach es X.env := by rfl) (hpl : ((backTo pos (starEach (e :: es) X.env)).any (·.1) || (backToKw pos (keywordEach kws X.env)).any (·.1.isNone)) = false := by rfl) :
    PE X (.Call (.Name x p) (e :: es) kws pos) (tMakeKS C n ks.length sp gV E t tk) := by
  refine ⟨fun pins s σ H Q I h => wpAny_Call_Name_kw (ld_glob I hg hm ?_ hdb)⟩
  refine PySem.W.callWith_KW (h₀ := X.base) I.ok.mod.kin M.kp hall (thn (ha.run pos pins s σ H _ I h) fun us s1 z1 => ?_) hpl he
  obtain ⟨vs, H1, I1, r, q⟩ := z1
  refine thn (hkw.run pos pins s1 σ H1 _ I1 q) fun ws s2 z2 => ?_
  obtain ⟨zs, H2, I2, rz, ⟨n1, n2⟩, q2⟩ := z2
  refine ⟨I2.kIn, ?_⟩
  rw [hks]
  have hq := q2 (s2.heap.objs.size + 1) s2.heap.objs.size (I2.hok.fresh (Nat.le_succ _)) (I2.hok.fresh (Nat.le_refl _)) (Nat.ne_of_lt (Nat.lt_succ_self _))
  have J := Inv.made (C := C) I2
  have ra : Vals (V.ref (s2.heap.objs.size + 1) :: vs) (Value.ref (s2.heap.objs.size + 1) :: us) := .cons rfl r
  have la : (Value.ref (s2.heap.objs.size + 1) :: us).length = n + 1 := by
    rw [List.length_cons, ← r.length, n1]
  refine wpAny_call (make_map (f := f) I2.kIn M.makes M.init (beq_iff_eq.mp M.fn) (codeAny_mono (F.run _ X.stack _ _ ⟨Value.ref (s2.heap.objs.size + 1) :: us, ks.zip ws⟩ _ _ _ (E σ) (hr.make C us (ks.zip ws))
    (J.env0.make C us (ks.zip ws)) (hb.to _ _ ws J.kIn la (rz.length.symm.trans n2)) (hb.rel ra rz) hq) fun r3 s3 hq3 => ?_))
  cases r3 with
  | error e => exact hx σ _ _ _ e s3 J hq3
  | ok fl =>
    cases fl with
    | ret u =>
      obtain ⟨v, H3, I3, rv, ev, q3⟩ := J.after hq3
      subst ev
      exact ⟨rv, ⟨V.ref (s2.heap.objs.size + 1), H3, I3, rfl, q3⟩⟩
    | next => exact False.elim hq3
    | brk => exact False.elim hq3
    | cont => exact False.elim hq3
end
end Vk
set_option Elab.async false
set_option linter.all false
set_option maxRecDepth 100000
set_option maxHeartbeats 4000000
namespace Vk
open PySem PySem.Spec PyProof.Rows L2
def top (i : Nat) : Stmt := PySem.Challenge.pw_talepost_k38_stages_read.main.body.getD i (.Pass ⟨0, 0, 0, 0⟩)
abbrev sDiff : Stmt := top 10
/-- the built-in names stand for themselves -/
structure Zs (mg : Str → Option Value) : Prop where
  z_len : mg "len" = none
  z_set : mg "set" = none
  z_all : mg "all" = none
  z_abs : mg "abs" = none
  z_int : mg "int" = none
  z_range : mg "range" = none
  z_sorted : mg "sorted" = none
  z_isinstance : mg "isinstance" = none
  z_str : mg "str" = none
  z_bool : mg "bool" = none
  z_list : mg "list" = none
  z_tuple : mg "tuple" = none
  z_any : mg "any" = none
  z_enum : mg "enumerate" = none
  z_min : mg "min" = none
  z_max : mg "max" = none
  z_VE : mg "ValueError" = none
structure TxA (K : PySem.W.Frag) (mg : Str → Option Value) (aDiff : Addr) : Prop extends Zs mg where
  gDiff : mg "differ_within" = some (.ref aDiff)
theorem sz4 {n : Nat} (h : n ≤ 4000) : n ≤ sizeLine := by rw [sizeLine_eq]; omega
section
variable {P : Program} {w : World} {K : PySem.W.Frag} {mg : Str → Option Value} {base : Heap} {aDiff : Addr}
/-! differ_within -/
def Differ (t a : List Nat) : Prop := t.Nodup ∧ ∀ c ∈ t, c ∈ a
instance (t a : List Nat) : Decidable (Differ t a) := inferInstanceAs (Decidable (_ ∧ _))
def spDiff : Sp := fun vs H Q _ => ∃ t a : List Nat, vs = [.str (S t), .str (S a)] ∧ t.length ≤ 4000 ∧ ∀ H', Same H H' → Q (.bl (decide (Differ t a))) H'
theorem scDiff : FnScope ["text", "allowed", "letter"] ["text", "allowed"] (defScope sDiff) := ⟨rfl, rfl, rfl, by decide +kernel, rfl, by decide +kernel, by decide +kernel⟩
theorem ok_diff {f : Addr} {fd : FuncData} (F : Fun K "differ_within" "differ_within" sDiff f fd) (T : TxA K mg aDiff) : FnOk P w K mg base CX0 1 f fd ["text", "allowed"] spDiff := by
  refine F.ok scDiff (fun vs H Q E h => ?_) (fun cdv A outer s H vs Q E hr h => ?_)
  · obtain ⟨t, a, rfl, _⟩ := h
    rfl
  · obtain ⟨t, a, rfl, hl, k⟩ := h
    refine ⟨_, (pss_one (ps_ret (pe_and (pe_cmpR op_eq (pe_lenSetT (by rfl) T.z_len (by rfl) T.z_set (pv 0)) (pe_callB call_len_str (by rfl) T.z_len (by decide +kernel) (pa_cons (pv 0) pa_nil)) (nomark _)) (pe_one (pe_callB (cr_all rfl) (by rfl) T.z_all (by decide +kernel) (pa_cons (pe_lc (own := [("letter", 2)]) (g := gName 2) (by rfl) scDiff.nd (pi_str (pv 0)) (blkOk_by (own := [("letter", 2)]) (N := ["text", "allowed", "letter"]) (sc := defScope sDiff) (by decide +kernel)) (fun _ _ _ _ _ => pg_name (i := 2) scDiff.nd rfl (Or.inl rfl)) (fun _ _ _ _ _ => pts_nil) (fun _ _ _ _ _ => (pe_cmpR op_in_sign (pv 2) (pv 1) rfl))) pa_nil)))))), ?_⟩
    have e1 : ((metAt (S t).cps.toList (S t).cps.toList.length).length = t.length) ↔ t.Nodup := by
      rw [S_cps]
      exact metAt_end t
    refine ⟨_, rfl, _, rfl, by rw [S_len]; exact hl, _, rfl, _, rfl, sz4 (by rw [S_len]; exact hl), rfl, _, rfl, ?_⟩
    have e2 : ((V.int ((metAt (S t).cps.toList (S t).cps.toList.length).length : Nat)) = V.int ((S t).length : Nat)) ↔ t.Nodup := by
      rw [S_len, ← e1]
      constructor
      · intro h
        have h2 := V.int.inj h
        omega
      · intro h
        rw [h]
    refine ite2 (fun hn => ?_) (fun hn => ?_)
    · have hnd : t.Nodup := e2.mp (of_decide_eq_true hn)
      refine ⟨_, rfl, _, rfl, fun D hD => lc_text (fun _ => true) (fun c => V.bl (decide (c ∈ a))) hl (fun _ => rfl) (fun _ _ _ _ _ q => q) (fun c hc _ H2 Q2 _ q => ⟨_, rfl, _, rfl, c, S a, rfl, rfl, by rw [S_cps]; exact q⟩) ?_⟩
      refine ⟨D, t.map (fun c => decide (c ∈ a)), rfl, ?_, ?_⟩
      · rw [List.map_map]
        refine SqL.of ?_
        rw [upd_same, List.filter_eq_self.mpr (fun _ _ => rfl)]
        rfl
      · have e3 : (t.map fun c => decide (c ∈ a)).all id = decide (Differ t a) := by
          rw [Bool.eq_iff_iff]
          simp [Differ, hnd]
        rw [e3]
        exact k _ fun b o e => by rw [upd_ne (ne_of_none e hD)]; exact e
    · have hnd : ¬ t.Nodup := fun z => hn (decide_eq_true (e2.mpr z))
      have e3 : decide (Differ t a) = false := decide_eq_false fun z => hnd z.1
      have q := k H (Same.refl H)
      rw [e3] at q
      exact q
end
def Kp (b : Addr) (H H' : Hp) : Prop := ∀ c o, c ≠ b → H c = some o → H' c = some o
theorem Kp.refl (b : Addr) (H : Hp) : Kp b H H := fun _ _ _ h => h
theorem Kp.trans {b : Addr} {H H1 H2 : Hp} (a : Kp b H H1) (c : Kp b H1 H2) : Kp b H H2 := fun d o h e => c d o h (a d o h e)
theorem Kp.upd (b : Addr) (H : Hp) (o : HO) : Kp b H (upd H b o) := fun c u h e => by rw [upd_ne h]; exact e
def azL : List Nat := (PySem.Str.ofString "abcdefghijklmnopqrstuvwxyz").cps.toList
theorem az_S : PySem.Str.ofString "abcdefghijklmnopqrstuvwxyz" = S azL := S_of _
theorem az_len : azL.length = 26 := by decide +kernel
theorem az_nodup : azL.Nodup := by decide +kernel
theorem Differ.take {l a : List Nat} (h : Differ l a) (i : Nat) : Differ (l.take i) a := ⟨h.1.sublist (List.take_sublist i l), fun c hc => h.2 c (List.mem_of_mem_take hc)⟩
theorem differ_step {l a : List Nat} {i c : Nat} (hc : l[i]? = some c) : Differ (l.take (i + 1)) a ↔ (Differ (l.take i) a ∧ c ∈ a ∧ c ∉ l.take i) := by
  have hi : i < l.length := (List.getElem?_eq_some_iff.mp hc).1
  have e : l.take (i + 1) = l.take i ++ [c] := by
    rw [List.take_succ, hc]
    rfl
  unfold Differ
  rw [e, List.nodup_append]
  constructor
  · rintro ⟨⟨h1, _, h3⟩, h2⟩
    refine ⟨⟨h1, fun d hd => h2 d (List.mem_append_left _ hd)⟩, h2 c (List.mem_append_right _ (List.mem_singleton.mpr rfl)), fun z => h3 c z c (List.mem_singleton.mpr rfl) rfl⟩
  · rintro ⟨⟨h1, h2⟩, h3, h4⟩
    refine ⟨⟨h1, by simp, fun x hx y hy exy => ?_⟩, fun d hd => ?_⟩
    · rw [List.mem_singleton] at hy
      subst hy exy
      exact h4 hx
    · rcases List.mem_append.mp hd with h | h
      · exact h2 d h
      · rw [List.mem_singleton] at h
        subst h
        exact h3
def dueT (l v : List Nat) : Str := if l.length < 1 ∨ 4 < l.length ∨ ¬ Differ l azL then "letters" else if ¬ Differ v l then "vowels" else ""
abbrev sAlph : Stmt := top 9
abbrev sEq : Stmt := inClass (top 9) 3
def consL (l v : List Nat) : List Nat := (srtL l).filter fun c => !decide (c ∈ v)
/-- what an alphabet shows: letters, vowels, consonants, signs -/
def four (l v : List Nat) : List Str := [S (srtL l), S (srtL v), S (consL l v), S (45 :: srtL l)]
def alF (l v : List Nat) : List (Str × V) := [("letters", .str (S (srtL l))), ("vowels", .str (S (srtL v))), ("consonants", .str (S (consL l v))), ("signs", .str (S (45 :: srtL l)))]
def IsAl (C : Addr) (H : Hp) (a : Addr) (l v : List Nat) : Prop := ∃ dx, H a = some (.ins C dx (alF l v))
theorem IsAl.same {C a : Addr} {H H' : Hp} {l v : List Nat} (h : IsAl C H a l v) (s : Same H H') : IsAl C H' a l v := by
  obtain ⟨dx, e⟩ := h
  exact ⟨dx, s _ _ e⟩
structure AlF (K : PySem.W.Frag) (C : Addr) : Prop where
  cl : Cls K C
  nL : NoAttr K C "letters"
  nV : NoAttr K C "vowels"
  nC : NoAttr K C "consonants"
  nS : NoAttr K C "signs"
  ic : PySem.W.findIn K (.ref C) "__class__" = some (some (.builtin "object.__class__"))
  ig : PySem.W.specialIn K (.builtin "object.__class__") "__get__" = some (some (.builtin "getset_descriptor.__get__"))
  it : PySem.W.takesIn K (.builtin "object.__class__") = some true
  im : PySem.W.mroIn K C (.type "object") = some true
theorem joined {l : List Nat} {ys : List Str} (hl : l.length < 64) (hp : ys.Perm (signsOf (S l))) (hs : sortedS ys = true) :
    ((ys.map (·.length)).sum + ys.length * (PySem.Str.ofString "").length ≤ 16777216) ∧ Txt.join (PySem.Str.ofString "") ys = S (srtL l) := by
  rw [signs_S] at hp
  have e := sorted_signs hp hs
  subst e
  have e0 : PySem.Str.ofString "" = S [] := by decide +kernel
  rw [e0]
  refine ⟨?_, join_signs _⟩
  rw [S_len, List.length_nil, Nat.mul_zero, Nat.add_zero, List.map_map]
  have e1 : (srtL l).map ((fun x : Str => x.length) ∘ fun c => S [c]) = (srtL l).map fun _ => 1 := List.map_congr_left fun c _ => S_len [c]
  rw [e1]
  have e2 : ((srtL l).map fun _ => 1).sum = (srtL l).length := by
    induction srtL l with
    | nil => rfl
    | cons x xs ih => rw [List.map_cons, List.sum_cons, ih, List.length_cons, Nat.add_comm]
  rw [e2, srtL_len]
  omega
theorem joinedL {l : List Nat} (hl : l.length < 1000) : (((l.map fun c => S [c]).map (·.length)).sum + (l.map fun c => S [c]).length * (PySem.Str.ofString "").length ≤ 16777216) ∧ Txt.join (PySem.Str.ofString "") (l.map fun c => S [c]) = S l := by
  have e0 : PySem.Str.ofString "" = S [] := by decide +kernel
  rw [e0]
  refine ⟨?_, join_signs _⟩
  rw [S_len, List.length_nil, Nat.mul_zero, Nat.add_zero, List.map_map]
  have e1 : l.map ((fun x : Str => x.length) ∘ fun c => S [c]) = l.map fun _ => 1 := List.map_congr_left fun c _ => S_len [c]
  rw [e1]
  have e2 : (l.map fun _ => 1).sum = l.length := by
    clear hl e1
    induction l with
    | nil => rfl
    | cons x xs ih => rw [List.map_cons, List.sum_cons, ih, List.length_cons, Nat.add_comm]
  rw [e2]
  omega
theorem upd_laid {H : Hp} {p : Addr} {o : HO} (h : H p = none) : Same H (upd H p o) := fun b u e => by rw [upd_ne (ne_of_none e h)]; exact e
theorem Same.trans {A B C : Hp} (h : Same A B) (k : Same B C) : Same A C := fun b u e => k b u (h b u e)
section
variable {P : Program} {w : World} {K : PySem.W.Frag} {mg : Str → Option Value} {base : Heap} {aDiff : Addr}
end
theorem S_eq_iff {a b : List Nat} : decide ((V.str (S a)) = V.str (S b)) = decide (a = b) := by
  have e : ((V.str (S a)) = V.str (S b)) ↔ a = b := ⟨fun h => S_inj.mp (V.str.inj h), fun h => by rw [h]⟩
  rw [Bool.eq_iff_iff, decide_eq_true_iff, decide_eq_true_iff]
  exact e
def AlEq (l v l2 v2 : List Nat) : Bool := decide (srtL l = srtL l2) && decide (srtL v = srtL v2)
section
variable {P : Program} {w : World} {K : PySem.W.Frag} {mg : Str → Option Value} {base : Heap} {aDiff : Addr}
def spEq (C : Addr) : Sp := fun vs H Q _ => ∃ (a b : Addr) (l v l2 v2 : List Nat), vs = [.ref a, .ref b] ∧ IsAl C H a l v ∧ IsAl C H b l2 v2 ∧ Q (.bl (AlEq l v l2 v2)) H
theorem scEq : FnScope ["self", "other"] ["self", "other"] (defScope sEq) := ⟨rfl, rfl, rfl, by decide +kernel, rfl, by decide +kernel, by decide +kernel⟩
theorem ok_eq {f C : Addr} {fd : FuncData} (F : Fun K "__eq__" "Alphabet.__eq__" sEq f fd) (T : TxA K mg aDiff) (A : AlF K C) (hC : mg "Alphabet" = some (.ref C)) : FnOk P w K mg base CX0 1 f fd ["self", "other"] (spEq C) := by
  refine F.ok scEq (fun vs H Q E h => ?_) (fun cdv A0 outer s H vs Q E hr h => ?_)
  · obtain ⟨a, b, l, v, l2, v2, rfl, _⟩ := h
    rfl
  · obtain ⟨a, b, l, v, l2, v2, rfl, ⟨dx, ha⟩, ⟨dy, hb⟩, k⟩ := h
    refine ⟨_, pss_one (ps_ret (pe_and (pe_callB call_isi (by rfl) T.z_isinstance (by decide +kernel) (pa_cons (pv 1) (pa_cons (pe_glob (v := .ref C) (by rfl) hC rfl) pa_nil)))
      (pe_and (pe_cmpR op_eq (pe_fld (pv 0) rfl) (pe_fld (pv 1) rfl) (nomark _)) (pe_one (pe_cmpR op_eq (pe_fld (pv 0) rfl) (pe_fld (pv 1) rfl) (nomark _)))))), ?_⟩
    refine ⟨_, rfl, _, _, _, _, true, rfl, .own C, .base (.ins hb A.cl A.ic A.ig A.it A.im), ?_, true, rfl, iteT ?_⟩
    · show PySem.W.kitOne K (.ref C) (.ref C) = some true
      unfold PySem.W.kitOne
      rw [if_pos (beq_iff_eq.mpr rfl)]
    refine ⟨_, rfl, a, C, dx, _, _, rfl, ha, A.cl, A.nL, rfl, _, rfl, b, C, dy, _, _, rfl, hb, A.cl, A.nL, rfl, rfl, _, rfl, ?_⟩
    have q := k
    unfold AlEq at q
    rw [← S_eq_iff, ← S_eq_iff] at q
    refine ite2 (fun h => ?_) (fun h => ?_)
    · refine ⟨_, rfl, a, C, dx, _, _, rfl, ha, A.cl, A.nV, rfl, _, rfl, b, C, dy, _, _, rfl, hb, A.cl, A.nV, rfl, rfl, ?_⟩
      rw [h, Bool.true_and] at q
      exact q
    · rw [Bool.eq_false_iff.mpr h, Bool.false_and] at q
      exact q
end
abbrev sBA : Stmt := inClass (top 3) 0
def spBA (C : Addr) : Sp := fun vs H Q _ => ∃ (a : Addr) (z : Str), vs = [.ref a, .str z] ∧ z.length ≤ 100 ∧ H a = some (exo a C none) ∧
  ∀ dx, H dx = none → dx ≠ a → Q .non (upd (upd H dx (exd dx [("part", .str z)])) a (exo a C (some dx)))
theorem scBA : SScope ["self", "part"] (defScope sBA) := ⟨rfl, rfl, rfl, by decide +kernel, by decide +kernel, by decide +kernel, fun x h => (show ∀ y ∈ (defScope sBA).names, y.2 = .free → y.1 = "__class__" by decide +kernel) _ (PySem.mem_of_lookup h) rfl, by decide +kernel, by decide +kernel⟩
section
variable {P : Program} {w : World} {K : PySem.W.Frag} {mg : Str → Option Value} {base : Heap}
theorem ok_ba {f C cc cda : Addr} {dV kV doc pm ct oc : Value} {an od : Option Addr} {osl : Array (Option Value)} (T : SupC P K mg C cc cda) (hp : PySem.W.findIn K (.ref C) "part" = some none)
    (lk : K.lookup f = some ⟨oc, od, .func (PySem.W.ksFn "__init__" "BadAlphabet.__init__" (defArgs sBA) (defBody sBA) (defScope sBA) dV kV doc pm an (.ref cda) ct cc), osl⟩) (hcd : PySem.W.codeIn K (.ref cda) "BadAlphabet.__init__" = true) :
    FnOk P w K mg base CX0 1 f (PySem.W.ksFn "__init__" "BadAlphabet.__init__" (defArgs sBA) (defBody sBA) (defScope sBA) dV kV doc pm an (.ref cda) ct cc) ["self", "part"] (spBA C) := by
  refine fn_super (self := "self") (N' := ["part"]) T lk hcd scBA rfl rfl rfl rfl (fun _ => rfl) (fun _ => rfl) (fun vs H Q E h => ?_) (fun A outer s H vs Q E hr h => ?_)
  · obtain ⟨a, z, rfl, _⟩ := h
    rfl
  · obtain ⟨a, z, rfl, hz, ha, k⟩ := h
    refine ⟨_, _, pe_joined (.cons pe_str (.cons (pe_fmt (pv 1)) (.cons pe_str .nil))), pss_one (ps_ost (pv 0) (pv 1)), ⟨a, rfl, ha⟩, ?_⟩
    have e1 : (PySem.Str.ofString "not the ").length = 8 := by decide +kernel
    have e2 : (PySem.Str.ofString " of an alphabet").length = 15 := by decide +kernel
    have e3 : Str.empty.length = 0 := by decide +kernel
    have sl : ∀ {n : Nat}, n ≤ 1000 → n ≤ sizeLine := fun h => by rw [sizeLine_eq]; omega
    have al : ∀ a b : Str, (a ++ b).length = a.length + b.length := fun a b => by
      show (a.cps ++ b.cps).size = _
      rw [Array.size_append]
      rfl
    refine ⟨_, rfl, sl ?_, _, rfl, .inl ⟨z, rfl, sl (by omega), _, rfl, sl ?_, _, rfl, sl ?_, ⟨a, rfl, ha⟩, ?_⟩⟩
    · rw [al, e1, e3]
      decide
    · rw [al, al, e1, e3]
      omega
    · rw [al, al, al, e1, e2, e3]
      omega
    · exact ⟨_, rfl, _, rfl, a, C, rfl, T.oex, hp, .inl ⟨ha, fun dx hd hn => k dx hd hn⟩⟩
end
abbrev sAI : Stmt := inClass (top 9) 2
/-- BadAlphabet as the written part holds it -/
structure BaF (P : Program) (K : PySem.W.Frag) (mg : Str → Option Value) (B fB : Addr) : Prop where
  ox : OexC K B
  iC : PySem.W.findIn K (.ref B) "__init__" = some (some (.ref fB))
  tI : PySem.W.typeIn K (.ref fB) = some (.type "function")
  gB : mg "BadAlphabet" = some (.ref B)
/-- what else stands of Alphabet: its class values -/
structure AlV (K : PySem.W.Frag) (mg : Str → Option Value) (C : Addr) (mc : Value) (tm tj tl : Tok) : Prop where
  gC : mg "Alphabet" = some (.ref C)
  gL : mg "SMALL_LETTERS" = some (.str (S azL) tl)
  rd : ClX.CRead K C mc
  most : ClX.CVal K C mc "MOST" (.int 4) (.int 4 tm)
  joint : ClX.CVal K C mc "JOINT" (.str "-") (.str "-" tj)
def spAl (C B : Addr) : Sp := fun vs H Q E => ∃ (a dx : Addr) (l v : List Nat), vs = [.ref a, .str (S l), .str (S v)] ∧ H a = some (.ins C dx []) ∧ l.length ≤ 1000 ∧ v.length ≤ 1000 ∧
  (dueT l v = "" → ∀ H', IsAl C H' a l v → Kp a H H' → Q .non H') ∧
  (dueT l v ≠ "" → ∀ d H', H d = none → H' d = some (.xd [("part", .str (dueT l v))]) → Kp a H H' → E (.ref B) (some d) H')
theorem kp_exc {H : Hp} {b dx : Addr} {o : HO} {e0 e1 e2 : HO} (ha : H b = none) (hd : (upd H b e0) dx = none) (hn : dx ≠ b) : Same H (upd (del (upd (upd (upd H b e0) dx e1) b e2) b) dx o) := fun c u e => by
  have h1 : c ≠ b := ne_of_none e ha
  have h2 : c ≠ dx := fun z => by
    subst z
    rw [upd_ne h1, e] at hd
    cases hd
  rw [upd_ne h2, del_ne h1, upd_ne h1, upd_ne h2, upd_ne h1]
  exact e
theorem Same.kp {H H' : Hp} (h : Same H H') (a : Addr) : Kp a H H' := fun c o _ e => h c o e
theorem len_of_sub : ∀ {v l : List Nat}, v.Nodup → (∀ c ∈ v, c ∈ l) → v.length ≤ l.length
  | [], l, _, _ => Nat.zero_le _
  | c :: v, l, hn, hs => by
    obtain ⟨h1, h2⟩ := List.nodup_cons.mp hn
    have hc : c ∈ l := hs c List.mem_cons_self
    have ih := len_of_sub (v := v) (l := l.erase c) h2 fun d hd => (List.mem_erase_of_ne (fun (z : d = c) => h1 (z ▸ hd))).mpr (hs d (List.mem_cons_of_mem _ hd))
    rw [List.length_erase_of_mem hc] at ih
    have := List.length_pos_of_mem hc
    rw [List.length_cons]
    omega
theorem differ_len {v l : List Nat} (h : Differ v l) : v.length ≤ l.length := len_of_sub h.1 h.2
theorem put2 (x y : V) : putF "vowels" y [("letters", x)] = ([("letters", x), ("vowels", y)] : List (Str × V)) := by
  show (if ("letters" : Str) = "vowels" then _ else (("letters" : Str), x) :: putF "vowels" y []) = _
  rw [if_neg (by decide +kernel)]
  rfl
theorem put3 (x y z : V) : putF "consonants" z [("letters", x), ("vowels", y)] = ([("letters", x), ("vowels", y), ("consonants", z)] : List (Str × V)) := by
  show (if ("letters" : Str) = "consonants" then _ else (("letters" : Str), x) :: (if ("vowels" : Str) = "consonants" then _ else (("vowels" : Str), y) :: putF "consonants" z [])) = _
  rw [if_neg (by decide +kernel), if_neg (by decide +kernel)]
  rfl
theorem put4 (x y z t : V) : putF "signs" t [("letters", x), ("vowels", y), ("consonants", z)] = ([("letters", x), ("vowels", y), ("consonants", z), ("signs", t)] : List (Str × V)) := by
  show (if ("letters" : Str) = "signs" then _ else (("letters" : Str), x) :: (if ("vowels" : Str) = "signs" then _ else (("vowels" : Str), y) :: (if ("consonants" : Str) = "signs" then _ else (("consonants" : Str), z) :: putF "signs" t []))) = _
  rw [if_neg (by decide +kernel), if_neg (by decide +kernel), if_neg (by decide +kernel)]
  rfl
theorem scAI : FnScope ["self", "letters", "vowels", "letter"] ["self", "letters", "vowels"] (defScope sAI) := ⟨rfl, rfl, rfl, by decide +kernel, rfl, by decide +kernel, by decide +kernel⟩
section
variable {P : Program} {w : World} {K : PySem.W.Frag} {mg : Str → Option Value} {base : Heap} {aDiff : Addr}
theorem ok_alph {f C B fB : Addr} {mc : Value} {tm tj tl : Tok} {fd fdD fdB : FuncData} (F : FunD K "__init__" "Alphabet.__init__" (defArgs sAI) (defBody sAI) (defScope sAI) [.str ""] [] f fd) (T : TxA K mg aDiff) (A : AlF K C) (AV : AlV K mg C mc tm tj tl) (BA : BaF P K mg B fB)
    (FDiff : Fun K "differ_within" "differ_within" sDiff aDiff fdD) (bDiff : Binds K fdD ["text", "allowed"] []) (GB : FnOk P w K mg base CX0 1 fB fdB ["self", "part"] (spBA B)) (bB : Binds K fdB ["self", "part"] []) :
    FnOk P w K mg base (L2.CX P w) 3 f fd ["self", "letters", "vowels"] (spAl C B) := by
  have GDiff : FnOk P w K mg base CX0 1 aDiff fdD ["text", "allowed"] spDiff := ok_diff FDiff T
  refine F.ok scAI (fun vs H Q E h => ?_) (fun cdv A0 outer s H vs Q E hr h => ?_)
  · obtain ⟨a, dx, l, v, rfl, _⟩ := h
    rfl
  · obtain ⟨a, dx, l, v, rfl, ha, hl, hv, kq, ke⟩ := h
    refine ⟨_, (pss_cons (ps_if (PW.pt (pw_or (pt_not (pt_chain op_le op_le pe_int (pe_callB call_len_str (by rfl) T.z_len (by decide +kernel) (pa_cons (pv 1) pa_nil)) (ClX.pe_cval (pe_glob (v := .ref C) (by rfl) AV.gC rfl)))) (pw_or1 (pt_not (pt_val (pe_call GDiff (hr.mono (by decide)) (by rfl) T.gDiff FDiff.kp bDiff .nil pass0 (pa_cons (pv 1) (pa_cons (pe_glob (v := .str (S azL)) (by rfl) AV.gL ⟨_, rfl⟩) pa_nil)))))))) (pss_one (ps_raise rfl (takes_of rfl rfl rfl rfl) (pmk_oex BA.ox BA.iC BA.tI GB (hr.mono (by decide)) bB .nil pass0 (by rfl) BA.gB (pa_cons pe_str pa_nil)))) pss_nil)
      (pss_cons (ps_if (pt_not (pt_val (pe_call GDiff (hr.mono (by decide)) (by rfl) T.gDiff FDiff.kp bDiff .nil pass0 (pa_cons (pv 2) (pa_cons (pv 1) pa_nil))))) (pss_one (ps_raise rfl (takes_of rfl rfl rfl rfl) (pmk_oex BA.ox BA.iC BA.tI GB (hr.mono (by decide)) bB .nil pass0 (by rfl) BA.gB (pa_cons pe_str pa_nil)))) pss_nil)
      (pss_cons (ps_fld (pv 0) (pe_join pe_str (pe_callB (cr_sortT rfl) (by rfl) T.z_sorted (by decide +kernel) (pa_cons (pv 1) pa_nil))) rfl)
      (pss_cons (ps_fld (pv 0) (pe_join pe_str (pe_callB (cr_sortT rfl) (by rfl) T.z_sorted (by decide +kernel) (pa_cons (pv 2) pa_nil))) rfl)
      (pss_cons (ps_fld (pv 0) (pe_join pe_str (pe_lc (own := [("letter", 3)]) (g := gName 3) (by rfl) scAI.nd (pi_str (pe_fld (pv 0) rfl)) (blkOk_by (own := [("letter", 3)]) (N := ["self", "letters", "vowels", "letter"]) (sc := defScope sAI) (by decide +kernel)) (fun _ _ _ _ _ => pg_name (i := 3) scAI.nd rfl (Or.inl rfl)) (fun _ _ _ _ _ => (pts_one (pt_cmpR op_notIn_sign (pv 3) (pv 2) rfl))) (fun _ _ _ _ _ => (pv 3)))) rfl)
      (pss_one (ps_fld (pv 0) (pe_op op_add_str (ClX.pe_cval (pe_glob (v := .ref C) (by rfl) AV.gC rfl)) (pe_fld (pv 0) rfl)) rfl))))))), ?_⟩
    have hll : (S l).length ≤ sizeLine := sz4 (by rw [S_len]; omega)
    -- what a raise leaves
    have rz : ∀ (z : Str) (H1 : Hp), z.length ≤ 100 → z ≠ "" → dueT l v = z → Same H H1 → ∀ b, H1 b = none → spBA B [.ref b, .str z] (upd H1 b (exo b B none)) (fun v H2 => v = .non ∧ ∃ (d : Addr) (fs : List (Str × V)), H2 b = some (exo b B (some d)) ∧ H2 d = some (exd d fs) ∧ H1 d = none ∧ E (.ref B) (some d) (upd (del H2 b) d (.xd fs))) (fun _ _ _ => False) := by
      intro z H1 hz hne hdue hs b hb
      refine ⟨b, z, rfl, hz, upd_same, fun d hd hn => ⟨rfl, d, [("part", .str z)], upd_same, ?_, ?_, ?_⟩⟩
      · rw [upd_ne hn, upd_same]
      · rw [upd_ne hn] at hd
        exact hd
      · have h0 : H d = none := by
          cases e : H d with
          | none => rfl
          | some u =>
            have q := hs _ _ e
            rw [upd_ne hn, q] at hd
            cases hd
        refine ke (by rw [hdue]; exact hne) d _ h0 ?_ (Same.kp (Same.trans hs (kp_exc hb hd hn)) a)
        rw [hdue]
        exact upd_same
    have rl : dueT l v = "letters" → ∀ H1, Same H H1 → ([V.str "letters"] : List V).length ≤ 1000 ∧ ∀ b, H1 b = none → spBA B [.ref b, .str "letters"] (upd H1 b (exo b B none)) (fun v H2 => v = .non ∧ ∃ (d : Addr) (fs : List (Str × V)), H2 b = some (exo b B (some d)) ∧ H2 d = some (exd d fs) ∧ H1 d = none ∧ E (.ref B) (some d) (upd (del H2 b) d (.xd fs))) (fun _ _ _ => False) :=
      fun hd H1 hs => ⟨by show 1 ≤ 1000; decide, rz "letters" H1 (by decide +kernel) (by decide +kernel) hd hs⟩
    have rv : dueT l v = "vowels" → ∀ H1, Same H H1 → ([V.str "vowels"] : List V).length ≤ 1000 ∧ ∀ b, H1 b = none → spBA B [.ref b, .str "vowels"] (upd H1 b (exo b B none)) (fun v H2 => v = .non ∧ ∃ (d : Addr) (fs : List (Str × V)), H2 b = some (exo b B (some d)) ∧ H2 d = some (exd d fs) ∧ H1 d = none ∧ E (.ref B) (some d) (upd (del H2 b) d (.xd fs))) (fun _ _ _ => False) :=
      fun hd H1 hs => ⟨by show 1 ≤ 1000; decide, rz "vowels" H1 (by decide +kernel) (by decide +kernel) hd hs⟩
    have dl : (l.length < 1 ∨ 4 < l.length ∨ ¬ Differ l azL) → dueT l v = "letters" := fun h => if_pos h
    refine ⟨_, rfl, _, rfl, hll, _, _, rfl, rfl, _, rfl, ite2 (fun h1 => ⟨C, mc, _, _, rfl, AV.rd, AV.most, _, _, rfl, rfl, _, rfl, ?_⟩) (fun h1 => ⟨_, rfl, iteT (iteT (rl (dl (.inl ?_)) H (Same.refl H)))⟩)⟩
    rotate_left
    · have : ¬ (1 : Int) ≤ ((S l).length : Int) := fun z => h1 (decide_eq_true z)
      rw [S_len] at this
      omega
    refine ite2 (fun h2 => iteT (rl (dl (.inr (.inl ?_))) H (Same.refl H))) (fun h2 => ?_)
    · have h3 : decide (((S l).length : Int) ≤ 4) = false := by
        cases e : decide (((S l).length : Int) ≤ 4) with
        | false => rfl
        | true =>
          have h2' : (!decide (((S l).length : Int) ≤ 4)) = true := h2
          rw [e] at h2'
          cases h2'
      have := of_decide_eq_false h3
      rw [S_len] at this
      omega
    have g1 : 1 ≤ l.length := by
      have := of_decide_eq_true h1
      rw [S_len] at this
      omega
    have g2 : l.length ≤ 4 := by
      have h3 : decide (((S l).length : Int) ≤ 4) = true := by
        cases e : decide (((S l).length : Int) ≤ 4) with
        | true => rfl
        | false => exact absurd (show (!decide (((S l).length : Int) ≤ 4)) = true by rw [e]; rfl) h2
      have := of_decide_eq_true h3
      rw [S_len] at this
      omega
    refine ⟨_, rfl, l, azL, rfl, by omega, fun H1 s1 => ⟨_, rfl, ite2 (fun h3 => rl (dl (.inr (.inr ?_))) H1 s1) (fun h3 => ?_)⟩⟩
    · intro z
      rw [decide_eq_true z] at h3
      cases h3
    have hDl : Differ l azL := Classical.byContradiction fun z => h3 (by rw [decide_eq_false z]; rfl)
    have hnl : ¬ (l.length < 1 ∨ 4 < l.length ∨ ¬ Differ l azL) := fun z => z.elim (fun z => by omega) fun z => z.elim (fun z => by omega) fun z => z hDl
    refine ⟨_, rfl, _, rfl, v, l, rfl, by omega, fun H2 s2' => ⟨_, rfl, ite2 (fun h4 => rv ?_ H2 (Same.trans s1 s2')) (fun h4 => ?_)⟩⟩
    · unfold dueT
      rw [if_neg hnl, if_pos ?_]
      intro z
      rw [decide_eq_true z] at h4
      cases h4
    have hDv : Differ v l := Classical.byContradiction fun z => h4 (by rw [decide_eq_false z]; rfl)
    have hdue : dueT l v = "" := by
      unfold dueT
      rw [if_neg hnl, if_neg (fun z => z hDv)]
    have hvl := differ_len hDv
    have s2 := Same.trans s1 s2'
    have ha2 := s2 _ _ ha
    -- letters
    refine ⟨⟨_, rfl⟩, _, rfl, S l, rfl, (by rw [S_len]; omega), fun ys p1 hp hs n1 => ?_⟩
    obtain ⟨b1, e1⟩ := joined (by omega) hp hs
    refine ⟨_, p1, ys, rfl, rfl, .inl (SqL.of upd_same), b1, ?_⟩
    rw [e1]
    have k3 := Same.kp (Same.trans s2 (upd_laid (o := .lst (ys.map V.str)) n1)) a
    have ha3 : (upd H2 p1 (.lst (ys.map V.str))) a = some (.ins C dx []) := upd_laid n1 _ _ ha2
    generalize upd H2 p1 (.lst (ys.map V.str)) = H3 at k3 ha3
    refine ⟨_, rfl, a, C, dx, [], rfl, ha3, A.cl, A.nL, (by show 0 < 1000; decide), ?_⟩
    have k4 := k3.trans (Kp.upd a H3 (.ins C dx (putF "letters" (.str (S (srtL l))) [])))
    have ha4 : (upd H3 a (.ins C dx (putF "letters" (.str (S (srtL l))) []))) a = some (.ins C dx [("letters", .str (S (srtL l)))]) := upd_same
    generalize upd H3 a (.ins C dx (putF "letters" (.str (S (srtL l))) [])) = H4 at k4 ha4
    -- vowels
    refine ⟨⟨_, rfl⟩, _, rfl, S v, rfl, (by rw [S_len]; omega), fun zs p2 hp2 hs2 n2 => ?_⟩
    obtain ⟨b2, e2⟩ := joined (by omega) hp2 hs2
    refine ⟨_, p2, zs, rfl, rfl, .inl (SqL.of upd_same), b2, ?_⟩
    rw [e2]
    have k5 := k4.trans (Same.kp (upd_laid (o := .lst (zs.map V.str)) n2) a)
    have ha5 : (upd H4 p2 (.lst (zs.map V.str))) a = some (.ins C dx [("letters", .str (S (srtL l)))]) := upd_laid n2 _ _ ha4
    generalize upd H4 p2 (.lst (zs.map V.str)) = H5 at k5 ha5
    refine ⟨_, rfl, a, C, dx, _, rfl, ha5, A.cl, A.nV, (by show 1 < 1000; decide), ?_⟩
    rw [put2]
    have k6 := k5.trans (Kp.upd a H5 (.ins C dx [("letters", .str (S (srtL l))), ("vowels", .str (S (srtL v)))]))
    have ha6 : (upd H5 a (.ins C dx [("letters", .str (S (srtL l))), ("vowels", .str (S (srtL v)))])) a = some (.ins C dx [("letters", .str (S (srtL l))), ("vowels", .str (S (srtL v)))]) := upd_same
    generalize upd H5 a (.ins C dx [("letters", .str (S (srtL l))), ("vowels", .str (S (srtL v)))]) = H6 at k6 ha6
    -- consonants
    have hk4 : (srtL l).length ≤ 4000 := by rw [srtL_len]; omega
    refine ⟨⟨_, rfl⟩, _, rfl, a, C, dx, _, _, rfl, ha6, A.cl, A.nL, rfl, _, rfl, fun D hD => lc_text (fun c => !decide (c ∈ v)) (fun c => V.str (S [c])) hk4 (fun _ => rfl) (fun c hc H3 Q3 _ q => ⟨_, rfl, _, rfl, c, S v, rfl, rfl, _, rfl, by rw [S_cps]; exact q⟩) (fun c hc _ H3 Q3 _ q => ⟨_, rfl, q⟩) ?_⟩
    have hc64 : (consL l v).length < 1000 := by
      have := List.length_filter_le (fun c => !decide (c ∈ v)) (srtL l)
      rw [srtL_len] at this
      unfold consL
      omega
    obtain ⟨b3, e3⟩ := joinedL hc64
    refine ⟨_, D, (consL l v).map fun c => S [c], rfl, rfl, .inl (SqL.of (by rw [List.map_map]; exact upd_same)), b3, ?_⟩
    rw [e3]
    have k7 := k6.trans (Same.kp (upd_laid (o := .lst (((srtL l).filter fun c => !decide (c ∈ v)).map fun c => V.str (S [c]))) hD) a)
    have ha7 := upd_laid (o := .lst (((srtL l).filter fun c => !decide (c ∈ v)).map fun c => V.str (S [c]))) hD _ _ ha6
    generalize upd H6 D (.lst (((srtL l).filter fun c => !decide (c ∈ v)).map fun c => V.str (S [c]))) = H7 at k7 ha7
    refine ⟨_, rfl, a, C, dx, _, rfl, ha7, A.cl, A.nC, (by show 2 < 1000; decide), ?_⟩
    rw [put3]
    have k8 := k7.trans (Kp.upd a H7 (.ins C dx [("letters", .str (S (srtL l))), ("vowels", .str (S (srtL v))), ("consonants", .str (S (consL l v)))]))
    have ha8 : (upd H7 a (.ins C dx [("letters", .str (S (srtL l))), ("vowels", .str (S (srtL v))), ("consonants", .str (S (consL l v)))])) a = some (.ins C dx [("letters", .str (S (srtL l))), ("vowels", .str (S (srtL v))), ("consonants", .str (S (consL l v)))]) := upd_same
    generalize upd H7 a (.ins C dx [("letters", .str (S (srtL l))), ("vowels", .str (S (srtL v))), ("consonants", .str (S (consL l v)))]) = H8 at k8 ha8
    -- signs
    refine ⟨C, mc, _, _, rfl, AV.rd, AV.joint, _, rfl, a, C, dx, _, _, rfl, ha8, A.cl, A.nL, rfl, _, _, rfl, rfl, ?_, _, rfl, a, C, dx, _, rfl, ha8, A.cl, A.nS, (by show 3 < 1000; decide), ?_⟩
    · refine sz4 ?_
      rw [S_len, srtL_len]
      have : (PySem.Str.ofString "-").length = 1 := by decide +kernel
      omega
    have e4 : PySem.Str.ofString "-" ++ S (srtL l) = S (45 :: srtL l) := by
      have : PySem.Str.ofString "-" = S [45] := by decide +kernel
      rw [this, S_app]
      rfl
    rw [e4, put4]
    exact kq hdue _ ⟨dx, upd_same⟩ (k8.trans (Kp.upd a H8 _))
end
end Vk
set_option Elab.async false
set_option linter.all false
set_option maxRecDepth 100000
set_option maxHeartbeats 8000000
namespace Vk
open PySem PySem.Spec PyProof.Rows L2
/-! the walk over a reading -/
open L2 in
local macro_rules | `(tactic| walk_at "lk") => `(tactic| (refine Fr.get (by assumption) (by first | assumption | (simp only [List.mem_cons, List.not_mem_nil, or_false, not_or]; first | assumption | (refine ⟨?_, ?_⟩ <;> assumption) | (apply Ne.symm; assumption))) ?_; walk_at "lk"))
local macro_rules | `(tactic| walk_at "lk") => `(tactic| (refine Same.get (by assumption) ?_; walk_at "lk"))
local macro_rules | `(tactic| walk_at "lk") => `(tactic| (refine upd_oth (by first | assumption | (apply Ne.symm; assumption)) ?_; walk_at "lk"))
local macro_rules | `(tactic| walk_at "lk") => `(tactic| (refine upd_old (by assumption) ?_; walk_at "lk"))
local macro_rules | `(tactic| walk_at "lk") => `(tactic| exact upd_same)
local macro_rules | `(tactic| walk_at "lk") => `(tactic| assumption)
local macro_rules | `(tactic| walk_at "len") => `(tactic| (simp only [S_len, sizeLine_eq, List.length_take, List.length_drop, List.length_append, List.length_cons, List.length_nil]; omega))
local macro_rules | `(tactic| walk_at "len") => `(tactic| (simp only [S_len, sizeLine_eq]; omega))
local macro_rules | `(tactic| walk_at "len") => `(tactic| (simp only [List.length_cons, List.length_nil, sizeLine_eq]; omega))
local macro_rules | `(tactic| walk_at "num") => `(tactic| first | assumption | omega | (simp only [List.length_take, List.length_drop, List.length_append, List.length_cons, List.length_nil]; omega))
local macro_rules | `(tactic| walk_at "ix") => `(tactic| first | exact rfl | assumption | exact atI_nat (by assumption))
local macro_rules | `(tactic| walk_at "putq") => `(tactic| exact rfl)
local macro_rules | `(tactic| walk_at "sq") => `(tactic| exact .inr (SqT.of (by walk_at "lk")))
local macro_rules | `(tactic| walk_at "sq") => `(tactic| exact .inl (SqL.of (by walk_at "lk")))
local macro_rules | `(tactic| walk_at "sq") => `(tactic| exact .inl (by assumption))
local macro_rules | `(tactic| walk_at "sq") => `(tactic| exact .inr (by assumption))
local macro_rules | `(tactic| walk_at "mapq") => `(tactic| exact (rfl : _ = List.map (fun l => V.str (S l)) [_, _, _, _, _]))
local macro_rules | `(tactic| walk_at "mapq") => `(tactic| exact (rfl : _ = List.map (fun l => V.str (S l)) [_, _, _, _]))
local macro_rules | `(tactic| walk_at "mapq") => `(tactic| exact (rfl : _ = List.map (fun l => V.str (S l)) [_, _, _]))
local macro_rules | `(tactic| walk_at "mapq") => `(tactic| exact (rfl : _ = List.map (fun l => V.str (S l)) [_, _]))
local macro_rules | `(tactic| walk_at "mapq") => `(tactic| exact (rfl : _ = List.map (fun l => V.str (S l)) [_]))
local macro_rules | `(tactic| walk_at "mapq") => `(tactic| exact rfl)
local macro_rules | `(tactic| walk_at "setq") => `(tactic| ((try simp only [Int.reduceToNat, List.set_cons_succ, List.set_cons_zero]); exact rfl))
local macro_rules | `(tactic| walk_at "toN") => `(tactic| first | exact rfl | exact (Int.natCast_add _ _).symm | exact (Int.natCast_add _ 1).symm)
local macro_rules | `(tactic| walk_at "cond") => `(tactic| first | omega | (simp only [List.length_map]; omega) | (refine Or.inl ⟨?_, ?_⟩ <;> omega) | (refine Or.inr ⟨?_, ?_⟩ <;> omega) | (refine ⟨?_, ?_⟩ <;> omega))
local macro_rules | `(tactic| walk_at "side") => `(tactic| omega)
local macro_rules | `(tactic| walk_at "side") => `(tactic| (walk_at "len"))
local macro_rules | `(tactic| walk_at "side") => `(tactic| exact ⟨_, by assumption⟩)
local macro_rules | `(tactic| walk_at "side") => `(tactic| exact ⟨_, SqL.of (by walk_at "lk")⟩)
local macro_rules | `(tactic| walk_at "side") => `(tactic| exact ⟨_, rfl⟩)
local macro_rules | `(tactic| walk_at "side") => `(tactic| exact .inl ⟨rfl, _, SqL.of (by walk_at "lk")⟩)
local macro_rules | `(tactic| walk_at "side") => `(tactic| exact .inr (SqT.of (by walk_at "lk")))
local macro_rules | `(tactic| walk_at "side") => `(tactic| exact .inl (SqL.of (by walk_at "lk")))
local macro_rules | `(tactic| walk_at "side") => `(tactic| exact SqT.of (by walk_at "lk"))
local macro_rules | `(tactic| walk_at "side") => `(tactic| exact SqL.of (by walk_at "lk"))
local macro_rules | `(tactic| walk_at "side") => `(tactic| (walk_at "lk"))
local macro_rules | `(tactic| walk_at "side") => `(tactic| rfl)
local macro_rules | `(tactic| walk_at "go1") => `(tactic| ((with_reducible apply Or.inr); (with_reducible apply Exists.intro); (with_reducible apply And.intro); exact rfl))
local macro_rules | `(tactic| walk_at "go1") => `(tactic| ((with_reducible apply Or.inl); (with_reducible apply Exists.intro); (with_reducible apply And.intro); exact rfl))
local macro_rules | `(tactic| walk_at "go1") => `(tactic| ((with_reducible apply And.intro); walk_at "side"))
local macro_rules | `(tactic| walk_at "go1") => `(tactic| ((with_reducible apply And.intro); exact rfl))
local macro_rules | `(tactic| walk_at "go1") => `(tactic| (with_reducible apply Exists.intro))
local macro_rules | `(tactic| walk_at "go1") => `(tactic| (walk_at "proj"))
local macro_rules | `(tactic| walk_at "go1") => `(tactic| ((with_reducible apply eSFld); (walk_at "lk"); assumption; assumption; (simp only [List.length_cons, List.length_nil]; decide); (walk_at "putq")))
local macro_rules | `(tactic| walk_at "go1") => `(tactic| (with_reducible refine iNFF ?_))
local macro_rules | `(tactic| walk_at "go1") => `(tactic| (with_reducible refine iNTT ?_))
local macro_rules | `(tactic| walk_at "go1") => `(tactic| (with_reducible refine iFF ?_))
local macro_rules | `(tactic| walk_at "go1") => `(tactic| (with_reducible refine iTT ?_))
local macro_rules | `(tactic| walk_at "go1") => `(tactic| ((with_reducible apply iListT); (walk_at "num")))
local macro_rules | `(tactic| walk_at "go1") => `(tactic| ((with_reducible apply iTruL); (first | assumption | exact SqL.of (by walk_at "lk"))))
local macro_rules | `(tactic| walk_at "go1") => `(tactic| ((with_reducible apply iTruCons); exact SqL.of (by walk_at "lk")))
local macro_rules | `(tactic| walk_at "go1") => `(tactic| ((with_reducible apply iTruNil); exact SqL.of (by walk_at "lk")))
local macro_rules | `(tactic| walk_at "go1") => `(tactic| ((with_reducible apply iAppend); (walk_at "lk"); (walk_at "len")))
local macro_rules | `(tactic| walk_at "go1") => `(tactic| ((with_reducible apply iCat); (walk_at "lk"); (walk_at "lk"); (walk_at "len")))
local macro_rules | `(tactic| walk_at "go1") => `(tactic| ((with_reducible apply iSlL); (first | assumption | exact SqL.of (by walk_at "lk"))))
local macro_rules | `(tactic| walk_at "go1") => `(tactic| (with_reducible refine iYes ?_))
local macro_rules | `(tactic| walk_at "go1") => `(tactic| (with_reducible refine iForR2 ?_))
local macro_rules | `(tactic| walk_at "go1") => `(tactic| (with_reducible refine iForR1 ?_))
local macro_rules | `(tactic| walk_at "go1") => `(tactic| (with_reducible refine iForS ?_))
local macro_rules | `(tactic| walk_at "go1") => `(tactic| (with_reducible refine iForL ?_))
local macro_rules | `(tactic| walk_at "go1") => `(tactic| (with_reducible refine iLcR1 ?_))
local macro_rules | `(tactic| walk_at "go1") => `(tactic| (with_reducible refine iLcS ?_))
local macro_rules | `(tactic| walk_at "go1") => `(tactic| (with_reducible refine iLcL ?_))
local macro_rules | `(tactic| walk_at "go1") => `(tactic| ((with_reducible apply iNInL); (walk_at "sq"); (walk_at "mapq")))
local macro_rules | `(tactic| walk_at "go1") => `(tactic| ((with_reducible apply iInL); (walk_at "sq"); (walk_at "mapq")))
local macro_rules | `(tactic| walk_at "go1") => `(tactic| (with_reducible refine iWF ?_))
local macro_rules | `(tactic| walk_at "go1") => `(tactic| (with_reducible refine iWT ?_))
local macro_rules | `(tactic| walk_at "go1") => `(tactic| (with_reducible refine iMeth ?_))
local macro_rules | `(tactic| walk_at "go1") => `(tactic| (with_reducible refine iMeth0 ?_))
local macro_rules | `(tactic| walk_at "go1") => `(tactic| (with_reducible refine iProp ?_))
local macro_rules | `(tactic| walk_at "go1") => `(tactic| (with_reducible refine iCon ?_))
local macro_rules | `(tactic| walk_at "go1") => `(tactic| (with_reducible refine iSFld ?_))
local macro_rules | `(tactic| walk_at "go1") => `(tactic| (with_reducible refine iFld ?_))
local macro_rules | `(tactic| walk_at "go1") => `(tactic| (with_reducible refine isi_bl_str ?_))
local macro_rules | `(tactic| walk_at "go1") => `(tactic| (with_reducible refine isi_bl_int ?_))
local macro_rules | `(tactic| walk_at "go1") => `(tactic| (with_reducible refine isi_bl_bool ?_))
local macro_rules | `(tactic| walk_at "go1") => `(tactic| (with_reducible refine isi_str_bool ?_))
local macro_rules | `(tactic| walk_at "go1") => `(tactic| (with_reducible refine isi_str_int ?_))
local macro_rules | `(tactic| walk_at "go1") => `(tactic| (with_reducible refine isi_str_str ?_))
local macro_rules | `(tactic| walk_at "go1") => `(tactic| (with_reducible refine isi_int_str ?_))
local macro_rules | `(tactic| walk_at "go1") => `(tactic| (with_reducible refine isi_int_bool ?_))
local macro_rules | `(tactic| walk_at "go1") => `(tactic| (with_reducible refine isi_int_int ?_))
local macro_rules | `(tactic| walk_at "go1") => `(tactic| (with_reducible refine iLst ?_))
local macro_rules | `(tactic| walk_at "go1") => `(tactic| (with_reducible refine iTup ?_))
local macro_rules | `(tactic| walk_at "go1") => `(tactic| (with_reducible refine iPart ?_))
local macro_rules | `(tactic| walk_at "go1") => `(tactic| (with_reducible refine iNoPart ?_))
local macro_rules | `(tactic| walk_at "go1") => `(tactic| ((with_reducible apply iSetL); (walk_at "lk"); exact rfl; (walk_at "setq")))
local macro_rules | `(tactic| walk_at "go1") => `(tactic| ((with_reducible apply iPartS); walk_at "num"))
local macro_rules | `(tactic| walk_at "go1") => `(tactic| (with_reducible refine iStartS ?_))
local macro_rules | `(tactic| walk_at "go1") => `(tactic| (with_reducible refine iFindS ?_))
local macro_rules | `(tactic| walk_at "go1") => `(tactic| ((with_reducible apply iFindNo); assumption))
local macro_rules | `(tactic| walk_at "go1") => `(tactic| ((with_reducible apply iFindYes); assumption))
local macro_rules | `(tactic| walk_at "go1") => `(tactic| (with_reducible refine iNotInS ?_))
local macro_rules | `(tactic| walk_at "go1") => `(tactic| (with_reducible refine iInS ?_))
local macro_rules | `(tactic| walk_at "go1") => `(tactic| ((with_reducible apply iLenS1); walk_at "num"))
local macro_rules | `(tactic| walk_at "go1") => `(tactic| ((with_reducible apply iAddS); walk_at "num"))
local macro_rules | `(tactic| walk_at "go1") => `(tactic| ((with_reducible apply iSlS); walk_at "num"))
local macro_rules | `(tactic| walk_at "go1") => `(tactic| ((with_reducible apply iSlMid); walk_at "num"; walk_at "toN"; walk_at "toN"))
local macro_rules | `(tactic| walk_at "go1") => `(tactic| ((with_reducible apply iSlFrom); walk_at "num"; walk_at "toN"))
local macro_rules | `(tactic| walk_at "go1") => `(tactic| ((with_reducible apply iSlTo); walk_at "num"; walk_at "toN"))
local macro_rules | `(tactic| walk_at "go1") => `(tactic| ((with_reducible apply iIxS); walk_at "num"; walk_at "ix"))
local macro_rules | `(tactic| walk_at "go1") => `(tactic| ((with_reducible apply iIxT); exact SqT.of (by walk_at "lk"); walk_at "ix"))
local macro_rules | `(tactic| walk_at "go1") => `(tactic| ((with_reducible apply iIxL); exact SqL.of (by walk_at "lk"); walk_at "ix"))
local macro_rules | `(tactic| walk_at "go1") => `(tactic| (with_reducible refine iSl ?_))
local macro_rules | `(tactic| walk_at "go1") => `(tactic| (with_reducible refine iBM ?_))
local macro_rules | `(tactic| walk_at "go1") => `(tactic| (with_reducible refine iM1 ?_))
local macro_rules | `(tactic| walk_at "go1") => `(tactic| ((with_reducible apply iI); walk_at "cond"))
local macro_rules | `(tactic| walk_at "go1") => `(tactic| ((with_reducible apply iNe); exact rfl))
local macro_rules | `(tactic| walk_at "go1") => `(tactic| ((with_reducible apply iEq); exact rfl))
local macro_rules | `(tactic| walk_at "go1") => `(tactic| (with_reducible refine iNext ?_))
local macro_rules | `(tactic| walk_at "go1") => `(tactic| (with_reducible refine iDrop ?_))
local macro_rules | `(tactic| walk_at "go1") => `(tactic| (with_reducible refine iRetN ?_))
local macro_rules | `(tactic| walk_at "go1") => `(tactic| (with_reducible refine iRet ?_))
local macro_rules | `(tactic| walk_at "go1") => `(tactic| (with_reducible refine iIfE ?_))
local macro_rules | `(tactic| walk_at "go1") => `(tactic| (with_reducible refine iNotV ?_))
local macro_rules | `(tactic| walk_at "go1") => `(tactic| (with_reducible refine iOrV ?_))
local macro_rules | `(tactic| walk_at "go1") => `(tactic| (with_reducible refine iAndV ?_))
local macro_rules | `(tactic| walk_at "go1") => `(tactic| (with_reducible refine iNot ?_))
local macro_rules | `(tactic| walk_at "go1") => `(tactic| (with_reducible refine iOr ?_))
local macro_rules | `(tactic| walk_at "go1") => `(tactic| (with_reducible refine iAnd ?_))
local macro_rules | `(tactic| walk_at "go1") => `(tactic| (with_reducible refine iTest ?_))
local macro_rules | `(tactic| walk_at "go1") => `(tactic| (with_reducible refine iB ?_))
local macro_rules | `(tactic| walk_at "go1") => `(tactic| (with_reducible refine iIfS ?_))
local macro_rules | `(tactic| walk_at "go1") => `(tactic| (with_reducible refine iUn ?_))
local macro_rules | `(tactic| walk_at "go1") => `(tactic| (with_reducible refine iU ?_))
local macro_rules | `(tactic| walk_at "go1") => `(tactic| (with_reducible refine iI0 ?_))
local macro_rules | `(tactic| walk_at "go1") => `(tactic| (with_reducible refine iCall ?_))
local macro_rules | `(tactic| walk_at "go1") => `(tactic| (with_reducible refine iCall0 ?_))
local macro_rules | `(tactic| walk_at "go1") => `(tactic| (with_reducible refine iCB ?_))
local macro_rules | `(tactic| walk_at "go1") => `(tactic| (with_reducible refine iNil ?_))
local macro_rules | `(tactic| walk_at "go1") => `(tactic| (with_reducible refine iCons ?_))
local macro_rules | `(tactic| walk_at "go1") => `(tactic| (with_reducible refine iSub ?_))
local macro_rules | `(tactic| walk_at "go1") => `(tactic| (with_reducible refine iName ?_))
local macro_rules | `(tactic| walk_at "go1") => `(tactic| (with_reducible refine iAsg ?_))
local macro_rules | `(tactic| walk_at "go1") => `(tactic| (with_reducible refine iOp ?_))
local macro_rules | `(tactic| walk_at "go1") => `(tactic| (with_reducible refine iC ?_))
local macro_rules | `(tactic| walk_at "go1") => `(tactic| ((with_reducible apply iVar); exact rfl))
local macro_rules | `(tactic| walk_at "go1") => `(tactic| (with_reducible refine iSeq ?_))
local macro_rules | `(tactic| walk_at "fr") => `(tactic| (refine Fr.trans ?_ (Fr.wk (Fr.wk (by assumption))); walk_at "fr"))
local macro_rules | `(tactic| walk_at "fr") => `(tactic| (refine Fr.trans ?_ (Fr.wk1 (by assumption)); walk_at "fr"))
local macro_rules | `(tactic| walk_at "fr") => `(tactic| (refine Fr.trans ?_ (Fr.wk (by assumption)); walk_at "fr"))
local macro_rules | `(tactic| walk_at "fr") => `(tactic| (refine Fr.trans ?_ (by assumption); walk_at "fr"))
local macro_rules | `(tactic| walk_at "fr") => `(tactic| (refine Fr.trans ?_ (Fr.of_same (by assumption)); walk_at "fr"))
local macro_rules | `(tactic| walk_at "fr") => `(tactic| (refine Fr.trans ?_ (Fr.upd_new (by assumption)); walk_at "fr"))
local macro_rules | `(tactic| walk_at "fr") => `(tactic| (refine Fr.trans ?_ Fr.in2; walk_at "fr"))
local macro_rules | `(tactic| walk_at "fr") => `(tactic| (refine Fr.trans ?_ Fr.in1; walk_at "fr"))
local macro_rules | `(tactic| walk_at "fr") => `(tactic| (refine Fr.trans ?_ Fr.in0; walk_at "fr"))
local macro_rules | `(tactic| walk_at "fr") => `(tactic| assumption)
local macro_rules | `(tactic| walk_at "fr") => `(tactic| exact Fr.refl _ _)
local macro_rules | `(tactic| walk_at "proj") => `(tactic| (with_reducible refine (show (Ends.mk _ _ _ _).rt _ _ from ?_); dsimp only))
local macro_rules | `(tactic| walk_at "proj") => `(tactic| (with_reducible refine (show (Ends.mk _ _ _ _).nx _ _ from ?_); dsimp only))
local macro_rules | `(tactic| walk_at "br0") => `(tactic| (with_reducible apply iWDN))
local macro_rules | `(tactic| walk_at "br0") => `(tactic| (with_reducible apply iWD))
local macro_rules | `(tactic| walk_at "br0") => `(tactic| (with_reducible apply iBbn))
local macro_rules | `(tactic| walk_at "br0") => `(tactic| (with_reducible apply iBb))
local macro_rules | `(tactic| walk_at "br0") => `(tactic| (with_reducible apply iBnd))
local macro_rules | `(tactic| walk_at "br0") => `(tactic| (with_reducible apply iBd))
local macro_rules | `(tactic| walk_at "dead") => `(tactic| first | (exfalso; omega) | contradiction)
local macro_rules | `(tactic| walk_at "br") => `(tactic| (walk_at "br0" <;> (intro hbr; (try simp only [V.str.injEq, V.int.injEq, V.bl.injEq, Vk.S_inj, reduceCtorEq, List.cons.injEq, and_true, not_true_eq_false, not_false_eq_true, decide_eq_true_eq, decide_eq_false_iff_not, Nat.reduceEqDiff, List.length_cons, List.length_nil, and_false, false_and, eq_self] at hbr); (try walk_at "dead"))))
local macro_rules | `(tactic| walk_at "new") => `(tactic| (refine fun (p : Addr) (hp : _ = none) => ?_))
local macro_rules | `(tactic| walk_at "go") => `(tactic| repeat' (first | walk_at "go1" | walk_at "br" | walk_at "new" | (refine fun (y z : V) => ?_)))
section
set_option Elab.async false
set_option linter.all false
set_option maxRecDepth 100000
set_option maxHeartbeats 4000000
open PySem PySem.Spec PyProof.Rows L2

local macro_rules | `(tactic| walk_at "side") => `(tactic| exact .inl (by assumption))
/-- an error class and its own __init__ -/
structure EF (K : PySem.W.Frag) (mg : Str → Option Value) (N : Str) (B fB : Addr) (fd : FuncData) (ps : List Str) : Prop where
  ox : OexC K B
  iC : PySem.W.findIn K (.ref B) "__init__" = some (some (.ref fB))
  tI : PySem.W.typeIn K (.ref fB) = some (.type "function")
  gB : mg N = some (.ref B)
  bB : Binds K fd ps []
structure Ad where
  aDiff : Addr
  aAsc : Addr
  aIsSign : Addr
  aSignsOf : Addr
  aIsText : Addr
  aCheck : Addr
  aPCheckSign : Addr
  aPSignsOfSet : Addr
  aPNumberAfter : Addr
  aPIsDropped : Addr
  aPMarked : Addr
  aPDropWords : Addr
  aDropCall : Addr
  aDropStr : Addr
  aLastDropCall : Addr
  aLastDropStr : Addr
  aWriteCall : Addr
  aWriteStr : Addr
  aOnceCall : Addr
  aOnceStr : Addr
  aAddCall : Addr
  aAddStr : Addr
  aPReadDrop : Addr
  aPReadStage : Addr
  aBox : Addr
  aTake : Addr
  aWorld : Addr
  aName : Addr
  aMembers : Addr
  aText : Addr
  aSignWord : Addr
  aSetWord : Addr
  aNumberWord : Addr
  aWords : Addr
  aSpoilt : Addr
  aParts : Addr
  aIsSet : Addr
  aWrong : Addr
  aRefusal : Addr
  aObject : Addr
  aDue : Addr
  aRightKind : Addr
  aLaw : Addr
  aAlEq : Addr
  cStage : Addr
  cDrop : Addr
  cLastDrop : Addr
  cWrite : Addr
  cOnce : Addr
  cAdd : Addr
  cAlphabet : Addr
  cTale : Addr
  cBadText : Addr
  eBadText : Addr
  cBadSet : Addr
  eBadSet : Addr
  cBadStage : Addr
  eBadStage : Addr
  fSI : Addr
  fDI : Addr
  fWI : Addr
  fOI : Addr
  fAI : Addr
  tJoint : Tok
  tMost : Tok
structure Fd where
  dDiff : FuncData
  dAsc : FuncData
  dIsSign : FuncData
  dSignsOf : FuncData
  dIsText : FuncData
  dCheck : FuncData
  dPCheckSign : FuncData
  dPSignsOfSet : FuncData
  dPNumberAfter : FuncData
  dPIsDropped : FuncData
  dPMarked : FuncData
  dPDropWords : FuncData
  dDropCall : FuncData
  dDropStr : FuncData
  dLastDropCall : FuncData
  dLastDropStr : FuncData
  dWriteCall : FuncData
  dWriteStr : FuncData
  dOnceCall : FuncData
  dOnceStr : FuncData
  dAddCall : FuncData
  dAddStr : FuncData
  dPReadDrop : FuncData
  dPReadStage : FuncData
  dBox : FuncData
  dTake : FuncData
  dWorld : FuncData
  dName : FuncData
  dMembers : FuncData
  dText : FuncData
  dSignWord : FuncData
  dSetWord : FuncData
  dNumberWord : FuncData
  dWords : FuncData
  dSpoilt : FuncData
  dParts : FuncData
  dIsSet : FuncData
  dWrong : FuncData
  dRefusal : FuncData
  dObject : FuncData
  dDue : FuncData
  dRightKind : FuncData
  dLaw : FuncData
  dAlEq : FuncData
  eBadText : FuncData
  eBadSet : FuncData
  eBadStage : FuncData
  fSI : FuncData
  fDI : FuncData
  fWI : FuncData
  fOI : FuncData
  fAI : FuncData
abbrev sAsc : Stmt := inClass (top 9) 5
abbrev sIsSign : Stmt := inClass (top 9) 6
abbrev sSignsOf : Stmt := inClass (top 9) 4
abbrev sIsText : Stmt := inClass (top 9) 7
abbrev sCheck : Stmt := inClass (top 9) 8
abbrev sPCheckSign : Stmt := top 19
abbrev sPSignsOfSet : Stmt := top 20
abbrev sPNumberAfter : Stmt := top 21
abbrev sPIsDropped : Stmt := top 22
abbrev sPMarked : Stmt := top 23
abbrev sPDropWords : Stmt := top 24
abbrev sDropCall : Stmt := inClass (top 14) 1
abbrev sDropStr : Stmt := inClass (top 14) 2
abbrev sLastDropCall : Stmt := inClass (top 15) 0
abbrev sLastDropStr : Stmt := inClass (top 15) 1
abbrev sWriteCall : Stmt := inClass (top 16) 1
abbrev sWriteStr : Stmt := inClass (top 16) 2
abbrev sOnceCall : Stmt := inClass (top 17) 1
abbrev sOnceStr : Stmt := inClass (top 17) 2
abbrev sAddCall : Stmt := inClass (top 18) 1
abbrev sAddStr : Stmt := inClass (top 18) 2
abbrev sPReadDrop : Stmt := top 26
abbrev sPReadStage : Stmt := top 25
abbrev sBox : Stmt := top 28
abbrev sTake : Stmt := top 29
abbrev sWorld : Stmt := top 30
abbrev sName : Stmt := top 31
abbrev sMembers : Stmt := top 32
abbrev sText : Stmt := top 33
abbrev sSignWord : Stmt := top 34
abbrev sSetWord : Stmt := top 35
abbrev sNumberWord : Stmt := top 36
abbrev sWords : Stmt := top 37
abbrev sSpoilt : Stmt := top 38
abbrev sParts : Stmt := top 39
abbrev sIsSet : Stmt := top 40
abbrev sWrong : Stmt := top 41
abbrev sRefusal : Stmt := top 42
abbrev sObject : Stmt := top 43
abbrev sDue : Stmt := top 44
abbrev sRightKind : Stmt := top 45
abbrev sLaw : Stmt := top 46
abbrev sAlEq : Stmt := inClass (top 9) 3
structure Fns (K : PySem.W.Frag) (mg : Str → Option Value) (a : Ad) (d : Fd) : Prop extends TxA K mg a.aDiff where
  FDiff : Fun K "differ_within" "differ_within" sDiff a.aDiff d.dDiff
  bDiff : Binds K d.dDiff ["text", "allowed"] []
  mAsc : Meth K a.cAlphabet "are_ascending" a.aAsc
  FAsc : Fun K "are_ascending" "Alphabet.are_ascending" sAsc a.aAsc d.dAsc
  bAsc : Binds K d.dAsc ["self", "text"] []
  mIsSign : Meth K a.cAlphabet "is_sign" a.aIsSign
  FIsSign : Fun K "is_sign" "Alphabet.is_sign" sIsSign a.aIsSign d.dIsSign
  bIsSign : Binds K d.dIsSign ["self", "text"] []
  mSignsOf : Meth K a.cAlphabet "signs_of" a.aSignsOf
  FSignsOf : Fun K "signs_of" "Alphabet.signs_of" sSignsOf a.aSignsOf d.dSignsOf
  bSignsOf : Binds K d.dSignsOf ["self", "name"] []
  mIsText : Meth K a.cAlphabet "is_text" a.aIsText
  FIsText : Fun K "is_text" "Alphabet.is_text" sIsText a.aIsText d.dIsText
  bIsText : Binds K d.dIsText ["self", "text"] []
  mCheck : Meth K a.cAlphabet "check" a.aCheck
  FCheck : Fun K "check" "Alphabet.check" sCheck a.aCheck d.dCheck
  bCheck : Binds K d.dCheck ["self", "text"] []
  gPCheckSign : mg "check_sign" = some (.ref a.aPCheckSign)
  FPCheckSign : Fun K "check_sign" "check_sign" sPCheckSign a.aPCheckSign d.dPCheckSign
  bPCheckSign : Binds K d.dPCheckSign ["alphabet", "sign"] []
  gPSignsOfSet : mg "signs_of_set" = some (.ref a.aPSignsOfSet)
  FPSignsOfSet : Fun K "signs_of_set" "signs_of_set" sPSignsOfSet a.aPSignsOfSet d.dPSignsOfSet
  bPSignsOfSet : Binds K d.dPSignsOfSet ["alphabet", "name"] []
  gPNumberAfter : mg "number_after" = some (.ref a.aPNumberAfter)
  FPNumberAfter : Fun K "number_after" "number_after" sPNumberAfter a.aPNumberAfter d.dPNumberAfter
  bPNumberAfter : Binds K d.dPNumberAfter ["stage", "sign", "before"] []
  gPIsDropped : mg "is_dropped" = some (.ref a.aPIsDropped)
  FPIsDropped : Fun K "is_dropped" "is_dropped" sPIsDropped a.aPIsDropped d.dPIsDropped
  bPIsDropped : Binds K d.dPIsDropped ["stage", "sign", "before"] []
  gPMarked : mg "marked" = some (.ref a.aPMarked)
  FPMarked : Fun K "marked" "marked" sPMarked a.aPMarked d.dPMarked
  bPMarked : Binds K d.dPMarked ["stage", "text"] []
  gPDropWords : mg "drop_words" = some (.ref a.aPDropWords)
  FPDropWords : Fun K "drop_words" "drop_words" sPDropWords a.aPDropWords d.dPDropWords
  bPDropWords : Binds K d.dPDropWords ["stage", "ending"] []
  mDropCall : Meth K a.cDrop "__call__" a.aDropCall
  FDropCall : Fun K "__call__" "Drop.__call__" sDropCall a.aDropCall d.dDropCall
  bDropCall : Binds K d.dDropCall ["self", "text"] []
  mDropStr : Meth K a.cDrop "__str__" a.aDropStr
  FDropStr : Fun K "__str__" "Drop.__str__" sDropStr a.aDropStr d.dDropStr
  bDropStr : Binds K d.dDropStr ["self"] []
  mLastDropCall : Meth K a.cLastDrop "__call__" a.aLastDropCall
  FLastDropCall : Fun K "__call__" "LastDrop.__call__" sLastDropCall a.aLastDropCall d.dLastDropCall
  bLastDropCall : Binds K d.dLastDropCall ["self", "text"] []
  mLastDropStr : Meth K a.cLastDrop "__str__" a.aLastDropStr
  FLastDropStr : Fun K "__str__" "LastDrop.__str__" sLastDropStr a.aLastDropStr d.dLastDropStr
  bLastDropStr : Binds K d.dLastDropStr ["self"] []
  mWriteCall : Meth K a.cWrite "__call__" a.aWriteCall
  FWriteCall : Fun K "__call__" "Write.__call__" sWriteCall a.aWriteCall d.dWriteCall
  bWriteCall : Binds K d.dWriteCall ["self", "text"] []
  mWriteStr : Meth K a.cWrite "__str__" a.aWriteStr
  FWriteStr : Fun K "__str__" "Write.__str__" sWriteStr a.aWriteStr d.dWriteStr
  bWriteStr : Binds K d.dWriteStr ["self"] []
  mOnceCall : Meth K a.cOnce "__call__" a.aOnceCall
  FOnceCall : Fun K "__call__" "Once.__call__" sOnceCall a.aOnceCall d.dOnceCall
  bOnceCall : Binds K d.dOnceCall ["self", "text"] []
  mOnceStr : Meth K a.cOnce "__str__" a.aOnceStr
  FOnceStr : Fun K "__str__" "Once.__str__" sOnceStr a.aOnceStr d.dOnceStr
  bOnceStr : Binds K d.dOnceStr ["self"] []
  mAddCall : Meth K a.cAdd "__call__" a.aAddCall
  FAddCall : Fun K "__call__" "Add.__call__" sAddCall a.aAddCall d.dAddCall
  bAddCall : Binds K d.dAddCall ["self", "text"] []
  mAddStr : Meth K a.cAdd "__str__" a.aAddStr
  FAddStr : Fun K "__str__" "Add.__str__" sAddStr a.aAddStr d.dAddStr
  bAddStr : Binds K d.dAddStr ["self"] []
  gPReadDrop : mg "read_drop" = some (.ref a.aPReadDrop)
  FPReadDrop : Fun K "read_drop" "read_drop" sPReadDrop a.aPReadDrop d.dPReadDrop
  bPReadDrop : Binds K d.dPReadDrop ["alphabet", "words"] []
  gPReadStage : mg "read_stage" = some (.ref a.aPReadStage)
  FPReadStage : Fun K "read_stage" "read_stage" sPReadStage a.aPReadStage d.dPReadStage
  bPReadStage : Binds K d.dPReadStage ["alphabet", "written"] []
  gBox : mg "_law_box" = some (.ref a.aBox)
  FBox : Fun K "_law_box" "_law_box" sBox a.aBox d.dBox
  bBox : Binds K d.dBox ["_law_script", "_law_at"] []
  gTake : mg "_law_take" = some (.ref a.aTake)
  FTake : Fun K "_law_take" "_law_take" sTake a.aTake d.dTake
  bTake : Binds K d.dTake ["_law_box_here", "_law_many"] []
  gWorld : mg "_law_world" = some (.ref a.aWorld)
  FWorld : Fun K "_law_world" "_law_world" sWorld a.aWorld d.dWorld
  bWorld : Binds K d.dWorld ["_law_box_here", "_law_count"] []
  gName : mg "_law_name" = some (.ref a.aName)
  FName : Fun K "_law_name" "_law_name" sName a.aName d.dName
  bName : Binds K d.dName ["_law_box_here", "_law_signs"] []
  gMembers : mg "_law_members" = some (.ref a.aMembers)
  FMembers : Fun K "_law_members" "_law_members" sMembers a.aMembers d.dMembers
  bMembers : Binds K d.dMembers ["_law_name_here", "_law_signs", "_law_vowels"] []
  gText : mg "_law_text" = some (.ref a.aText)
  FText : Fun K "_law_text" "_law_text" sText a.aText d.dText
  bText : Binds K d.dText ["_law_box_here", "_law_signs"] []
  gSignWord : mg "_law_sign_word" = some (.ref a.aSignWord)
  FSignWord : Fun K "_law_sign_word" "_law_sign_word" sSignWord a.aSignWord d.dSignWord
  bSignWord : Binds K d.dSignWord ["_law_box_here", "_law_signs", "_law_pool"] []
  gSetWord : mg "_law_set_word" = some (.ref a.aSetWord)
  FSetWord : Fun K "_law_set_word" "_law_set_word" sSetWord a.aSetWord d.dSetWord
  bSetWord : Binds K d.dSetWord ["_law_box_here", "_law_signs", "_law_pool"] []
  gNumberWord : mg "_law_number_word" = some (.ref a.aNumberWord)
  FNumberWord : Fun K "_law_number_word" "_law_number_word" sNumberWord a.aNumberWord d.dNumberWord
  bNumberWord : Binds K d.dNumberWord ["_law_box_here"] []
  gWords : mg "_law_words" = some (.ref a.aWords)
  FWords : Fun K "_law_words" "_law_words" sWords a.aWords d.dWords
  bWords : Binds K d.dWords ["_law_box_here", "_law_signs", "_law_pool"] []
  gSpoilt : mg "_law_spoilt" = some (.ref a.aSpoilt)
  FSpoilt : Fun K "_law_spoilt" "_law_spoilt" sSpoilt a.aSpoilt d.dSpoilt
  bSpoilt : Binds K d.dSpoilt ["_law_box_here", "_law_words_here"] []
  gParts : mg "_law_parts" = some (.ref a.aParts)
  FParts : Fun K "_law_parts" "_law_parts" sParts a.aParts d.dParts
  bParts : Binds K d.dParts ["_law_words_here"] []
  gIsSet : mg "_law_is_set" = some (.ref a.aIsSet)
  FIsSet : Fun K "_law_is_set" "_law_is_set" sIsSet a.aIsSet d.dIsSet
  bIsSet : Binds K d.dIsSet ["_law_name_here", "_law_signs"] []
  gWrong : mg "_law_wrong" = some (.ref a.aWrong)
  FWrong : Fun K "_law_wrong" "_law_wrong" sWrong a.aWrong d.dWrong
  bWrong : Binds K d.dWrong ["_law_parts_here", "_law_signs"] []
  gRefusal : mg "_law_refusal" = some (.ref a.aRefusal)
  FRefusal : Fun K "_law_refusal" "_law_refusal" sRefusal a.aRefusal d.dRefusal
  bRefusal : Binds K d.dRefusal ["_law_alpha", "_law_written"] []
  gObject : mg "_law_object" = some (.ref a.aObject)
  FObject : Fun K "_law_object" "_law_object" sObject a.aObject d.dObject
  bObject : Binds K d.dObject ["_law_alpha", "_law_parts_here"] []
  gDue : mg "_law_due" = some (.ref a.aDue)
  FDue : Fun K "_law_due" "_law_due" sDue a.aDue d.dDue
  bDue : Binds K d.dDue ["_law_parts_here", "_law_members_here", "_law_text_here"] []
  gRightKind : mg "_law_right_kind" = some (.ref a.aRightKind)
  FRightKind : Fun K "_law_right_kind" "_law_right_kind" sRightKind a.aRightKind d.dRightKind
  bRightKind : Binds K d.dRightKind ["_law_stage", "_law_kind"] []
  gLaw : mg "law" = some (.ref a.aLaw)
  FLaw : Fun K "law" "law" sLaw a.aLaw d.dLaw
  bLaw : Binds K d.dLaw ["_law_script"] []
  mAlEq : Meth K a.cAlphabet "__eq__" a.aAlEq
  FAlEq : Fun K "__eq__" "Alphabet.__eq__" sAlEq a.aAlEq d.dAlEq
  bAlEq : Binds K d.dAlEq ["self", "other"] []
  gcTaleError : mg "TaleError" = some (.ref a.cTale)
  gcStage : mg "Stage" = some (.ref a.cStage)
  gcDrop : mg "Drop" = some (.ref a.cDrop)
  gcLastDrop : mg "LastDrop" = some (.ref a.cLastDrop)
  gcWrite : mg "Write" = some (.ref a.cWrite)
  gcOnce : mg "Once" = some (.ref a.cOnce)
  gcAdd : mg "Add" = some (.ref a.cAdd)
  gMost : mg "MOST_AFTER" = some (.int 3 a.tMost)
  xBadText : EF K mg "BadText" a.cBadText a.eBadText d.eBadText ["self", "text"]
  xBadSet : EF K mg "BadSet" a.cBadSet a.eBadSet d.eBadSet ["self", "name"]
  xBadStage : EF K mg "BadStage" a.cBadStage a.eBadStage d.eBadStage ["self", "what"]
  clA : Cls K a.cAlphabet
  nL : NoAttr K a.cAlphabet "letters"
  nV : NoAttr K a.cAlphabet "vowels"
  nC : NoAttr K a.cAlphabet "consonants"
  nS : NoAttr K a.cAlphabet "signs"
  joint : Con K a.cAlphabet "JOINT" (.str (S [45])) (.str "-" a.tJoint)
  clS : Cls K a.cStage
  clW : Cls K a.cDrop
  clO : Cls K a.cLastDrop
  clWr : Cls K a.cWrite
  clOn : Cls K a.cOnce
  clAd : Cls K a.cAdd
  nSal : NoAttr K a.cStage "alphabet"
  nWal : NoAttr K a.cDrop "alphabet"
  nWsg : NoAttr K a.cDrop "signs"
  nWnm : NoAttr K a.cDrop "name"
  nWaf : NoAttr K a.cDrop "after"
  nWea : NoAttr K a.cDrop "each"
  nOal : NoAttr K a.cLastDrop "alphabet"
  nOsg : NoAttr K a.cLastDrop "signs"
  nOnm : NoAttr K a.cLastDrop "name"
  nOaf : NoAttr K a.cLastDrop "after"
  nOea : NoAttr K a.cLastDrop "each"
  nWral : NoAttr K a.cWrite "alphabet"
  nWrsg : NoAttr K a.cWrite "signs"
  nWrsi : NoAttr K a.cWrite "sign"
  nWrnm : NoAttr K a.cWrite "name"
  nOnal : NoAttr K a.cOnce "alphabet"
  nOnsg : NoAttr K a.cOnce "signs"
  nOnnm : NoAttr K a.cOnce "name"
  nAdal : NoAttr K a.cAdd "alphabet"
  nAdsi : NoAttr K a.cAdd "sign"
  eqN : PySem.W.notFirst K a.cAlphabet (.ref a.cAlphabet) = true
/-- the box of draws -/
def IsBox (H : Hp) (b : Addr) : Prop := ∃ (c : Int) (bb : Bool) (n r : Int), H b = some (.lst [.int c, .bl bb, .int n, .int r])
theorem IsBox.fr {H H' : Hp} {b : Addr} {L : List Addr} (h : IsBox H b) (f : Fr L H H') (h1 : b ∉ L) : IsBox H' b := by
  obtain ⟨c, bb, n, r, e⟩ := h
  exact ⟨c, bb, n, r, f _ _ h1 e⟩
theorem IsBox.same {H H' : Hp} {b : Addr} (h : IsBox H b) (f : Same H H') : IsBox H' b := h.fr (L := []) (Fr.of_same f) (by simp)
theorem IsBox.ne {H : Hp} {b p : Addr} (h : IsBox H b) (hp : H p = none) : b ≠ p := by
  obtain ⟨c, bb, n, r, e⟩ := h
  exact ne_of_none e hp
theorem IsBox.laid {H : Hp} {b p : Addr} {o : HO} (h : IsBox H b) (hp : H p = none) : IsBox (upd H p o) b := h.same (Same.upd_new hp)
theorem IsBox.upd {H : Hp} {b p : Addr} {o : HO} (h : IsBox H b) (h1 : b ≠ p) : IsBox (upd H p o) b := by
  obtain ⟨c, bb, n, r, e⟩ := h
  exact ⟨c, bb, n, r, upd_oth h1 e⟩
section
variable {P : Program} {w : World} {K : PySem.W.Frag} {mg : Str → Option Value} {base : Heap} {a : Ad} {d : Fd}
def spTake : Sp := fun vs H Q _ => ∃ (b : Addr) (n : Nat), vs = [.ref b, .int (n : Int)] ∧ IsBox H b ∧ 0 < n ∧ n < 2 ^ 30 ∧ ∀ (r : Nat) (H' : Hp), r < n → IsBox H' b → Fr [b] H H' → Q (.int (r : Int)) H'
theorem scTake : FnScope ["_law_box_here", "_law_many", "_law_digit", "_law_one", "_law_two"] ["_law_box_here", "_law_many"] (defScope sTake) := ⟨rfl, rfl, rfl, by decide +kernel, rfl, by decide +kernel, by decide +kernel⟩
theorem ok_take (T : Fns K mg a d) : FnOk P w K mg base CX0 1 a.aTake d.dTake ["_law_box_here", "_law_many"] spTake := by
  refine T.FTake.ok scTake (fun vs H Q E h => ?_) (fun cdv A outer s H vs Q E hr h => ?_)
  · obtain ⟨b, n, rfl, _⟩ := h
    rfl
  · obtain ⟨b, n, rfl, ⟨c, bb, m, r, hb⟩, hn, hn2, k⟩ := h
    have fin : ∀ (z : Int) (H' : Hp), IsBox H' b → Fr [b] H H' → Q (.int (z % (n : Int))) H' := fun z H' h1 h2 => by
      have e0 := Int.emod_nonneg z (b := (n : Int)) (by omega)
      have e1 := Int.emod_lt_of_pos z (b := (n : Int)) (by omega)
      obtain ⟨r, hr⟩ : ∃ r : Nat, z % (n : Int) = (r : Int) := ⟨(z % (n : Int)).toNat, by omega⟩
      rw [hr]
      exact k r H' (by omega) h1 h2
    clear k
    refine ⟨_, ((pss_cons (ps_asg (pe_op op_add (pe_ix (r := rIxL K) ix_list (pv 0) pe_int (fun _ _ => rfl)) pe_int) (pg_sub (pv 0) pe_int set_list))
      (pss_cons (ps_if (PW.pt (pw_and (pt_val (pe_ix (r := rIxL K) ix_list (pv 0) pe_int (fun _ _ => rfl))) (pw_and1 (pt_cmpR op_gt (pe_ix (r := rIxL K) ix_list (pv 0) pe_int (fun _ _ => rfl)) pe_int (nomark _))))) (pss_cons (ps_set (i := 2) scTake.nd rfl (Or.inl rfl) (pe_op op_mod (pe_callTy call_int1 (by rfl) T.z_int (by decide +kernel) (pa_cons (pe_ix (r := rIxL K) ix_list (pv 0) pe_int (fun _ _ => rfl)) pa_nil)) (pv 1)))
      (pss_cons (ps_asg (pe_op op_fdivN (pe_ix (r := rIxL K) ix_list (pv 0) pe_int (fun _ _ => rfl)) (pv 1)) (pg_sub (pv 0) pe_int set_list))
      (pss_one (ps_ret (pv 2))))) pss_nil)
      (pss_cons (ps_set (i := 3) scTake.nd rfl (Or.inl rfl) (pe_op op_mod (pe_callTy call_int1 (by rfl) T.z_int (by decide +kernel) (pa_cons (pe_op op_add (pe_op op_add (pe_op op_mul (pe_ix (r := rIxL K) ix_list (pv 0) pe_int (fun _ _ => rfl)) pe_int) (pe_op op_mul (pe_ix (r := rIxL K) ix_list (pv 0) pe_int (fun _ _ => rfl)) pe_int)) pe_int) pa_nil)) pe_int))
      (pss_cons (ps_set (i := 4) scTake.nd rfl (Or.inl rfl) (pe_op op_mod (pe_callTy call_int1 (by rfl) T.z_int (by decide +kernel) (pa_cons (pe_op op_add (pe_op op_add (pe_op op_mul (pv 3) (pv 3)) (pe_ix (r := rIxL K) ix_list (pv 0) pe_int (fun _ _ => rfl))) (pe_op op_mul (pe_ix (r := rIxL K) ix_list (pv 0) pe_int (fun _ _ => rfl)) pe_int)) pa_nil)) pe_int))
      (pss_one (ps_ret (pe_op op_mod (pe_op op_mod (pe_callTy call_int1 (by rfl) T.z_int (by decide +kernel) (pa_cons (pe_op op_add (pe_op op_mul (pv 4) (pv 4)) (pe_op op_mul (pv 3) pe_int)) pa_nil)) pe_int) (pv 1))))))))), ?_⟩
    cases bb
    · walk_at "go"
      exact fin _ _ ⟨_, _, _, _, upd_same⟩ (by walk_at "fr")
    · walk_at "go"
      · exact fin _ _ ⟨_, _, _, _, upd_same⟩ (by walk_at "fr")
      · exact fin _ _ ⟨_, _, _, _, upd_same⟩ (by walk_at "fr")
def spBox (K : PySem.W.Frag) : Sp := fun vs H Q _ => ∃ (x : Addr) (ns : List Int) (k : Nat), vs = [.ref x, .int (k : Int)] ∧ SqL K H x (ns.map V.int) ∧ ns.length ≤ 63 ∧ k ≤ 63 ∧ ∀ (b : Addr) (H' : Hp), H b = none → IsBox H' b → Same H H' → Q (.ref b) H'
theorem scBox : FnScope ["_law_script", "_law_at", "_law_cell"] ["_law_script", "_law_at"] (defScope sBox) := ⟨rfl, rfl, rfl, by decide +kernel, rfl, by decide +kernel, by decide +kernel⟩
theorem ok_box (T : Fns K mg a d) : FnOk P w K mg base CX0 1 a.aBox d.dBox ["_law_script", "_law_at"] (spBox K) := by
  refine T.FBox.ok scBox (fun vs H Q E h => ?_) (fun cdv A outer s H vs Q E hr h => ?_)
  · obtain ⟨x, ns, k, rfl, _⟩ := h
    rfl
  · obtain ⟨x, ns, kk, rfl, hS, hl, hk, k⟩ := h
    have fin : ∀ (c : Int) (bb : Bool) (n r : Int) (b : Addr), H b = none → Q (.ref b) (upd H b (.lst [.int c, .bl bb, .int n, .int r])) := fun c bb n r b hb => k b _ hb ⟨_, _, _, _, upd_same⟩ (Same.upd_new hb)
    clear k
    refine ⟨_, ((pss_cons (ps_if (pt_cmpR op_lt (pv 1) (pe_callB call_len_seq (by rfl) T.z_len (by decide +kernel) (pa_cons (pv 0) pa_nil)) (nomark _)) (pss_one (ps_set (i := 2) scBox.nd rfl (Or.inl rfl) (pe_ix (r := rIxL K) ix_list (pv 0) (pv 1) (fun _ _ => rfl)))) (pss_one (ps_if (pt_cmpR op_eq (pe_callB call_len_seq (by rfl) T.z_len (by decide +kernel) (pa_cons (pv 0) pa_nil)) pe_int (nomark _)) (pss_one (ps_set (i := 2) scBox.nd rfl (Or.inl rfl) (pv 1))) (pss_one (ps_set (i := 2) scBox.nd rfl (Or.inl rfl) (pe_op op_add (pe_op op_mod (pe_callTy call_int1 (by rfl) T.z_int (by decide +kernel) (pa_cons (pe_ix (r := rIxL K) ix_list (pv 0) (pe_op op_mod (pe_callTy call_int1 (by rfl) T.z_int (by decide +kernel) (pa_cons (pv 1) pa_nil)) (pe_callB call_len_seq (by rfl) T.z_len (by decide +kernel) (pa_cons (pv 0) pa_nil))) (fun _ _ => rfl)) pa_nil)) pe_int) (pe_op op_mul pe_int (pv 1))))))))
      (pss_one (ps_ret (pe_lst (pa_cons (pv 2) (pa_cons (pe_cmpR op_ge (pv 2) (pe_op op_pow pe_int pe_int) (nomark _)) (pa_cons pe_int (pa_cons (pe_op op_mod (pe_callTy call_int1 (by rfl) T.z_int (by decide +kernel) (pa_cons (pv 2) pa_nil)) pe_int) pa_nil))))))))), ?_⟩
    walk_at "go"
    · rename_i hbr
      rw [List.length_map] at hbr
      have hlt : kk < ns.length := by omega
      refine iIxL hS (atI_nat (j := kk) (by rw [List.getElem?_map, List.getElem?_eq_getElem hlt]; rfl)) ?_
      walk_at "go"
      exact fin _ _ _ _ _ (by assumption)
    · exact fin _ _ _ _ _ (by assumption)
    · rename_i h1 h2
      rw [List.length_map] at h1 h2 ⊢
      have hlt : kk % ns.length < ns.length := Nat.mod_lt _ (by omega)
      refine iIxL hS (v := .int (ns[kk % ns.length]'hlt)) ?_ ?_
      · rw [← Int.natCast_emod]
        exact atI_nat (j := kk % ns.length) (by rw [List.getElem?_map, List.getElem?_eq_getElem hlt]; rfl)
      walk_at "go"
      exact fin _ _ _ _ _ (by assumption)
end
end
section
set_option Elab.async false
set_option linter.all false
set_option maxRecDepth 100000
set_option maxHeartbeats 2000000
open PySem PySem.Spec PyProof.Rows L2

local macro_rules | `(tactic| walk_at "side") => `(tactic| exact .inl (by assumption))
def kStrU2_0 : List Nat := [97, 98, 99, 100, 101, 102, 103, 104, 105, 106, 107, 108, 109, 110, 111, 112, 113, 114, 115, 116, 117, 118, 119, 120, 121, 122]
theorem kStrU2_0_eq : PySem.Str.ofString "abcdefghijklmnopqrstuvwxyz" = S kStrU2_0 := by decide +kernel
/-! the law's draws: a world of letters -/
theorem iPopAt {l : Addr} {xs : List V} {r : Nat} {y : V} {H : Hp} {Q : VK} (hH : H l = some (.lst xs)) (hy : xs[r]? = some y) (hz : xs.length ≤ 1000) (h : Q y (upd H l (.lst (xs.eraseIdx r)))) : rPopAt (.ref l) [.int (r : Int)] H Q := by
  have hr : r < xs.length := (List.getElem?_eq_some_iff.mp hy).1
  refine ⟨l, xs, r, r, y, rfl, rfl, hH, by omega, by omega, ?_, hy, h⟩
  unfold seqIndex?
  simp
  omega
def chV (l : List Nat) : List V := l.map fun c => V.str (S [c])
theorem chV_erase (l : List Nat) (r : Nat) : (chV l).eraseIdx r = chV (l.eraseIdx r) := by
  unfold chV
  rw [List.eraseIdx_eq_take_drop_succ, List.eraseIdx_eq_take_drop_succ, List.map_append, List.map_take, List.map_drop]
theorem erase_perm {l : List Nat} {r : Nat} (h : r < l.length) : (l[r] :: l.eraseIdx r).Perm l := by
  rw [List.eraseIdx_eq_take_drop_succ]
  have e : l = l.take r ++ l[r] :: l.drop (r + 1) := by
    rw [← List.drop_eq_getElem_cons h, List.take_append_drop]
  have p : (l[r] :: (l.take r ++ l.drop (r + 1))).Perm (l.take r ++ l[r] :: l.drop (r + 1)) := List.perm_middle.symm
  rw [← e] at p
  exact p
section
variable {P : Program} {w : World} {K : PySem.W.Frag} {mg : Str → Option Value} {base : Heap} {a : Ad} {d : Fd}
def spWorld : Sp := fun vs H Q _ => ∃ (b : Addr) (n : Nat), vs = [.ref b, .int (n : Int)] ∧ IsBox H b ∧ 0 < n ∧ n ≤ 4 ∧ ∀ (t p : Addr) (l v pool : List Nat) (H' : Hp), H t = none → H p = none → t ≠ p → t ≠ b → p ≠ b → H' t = some (.tup [.str (S l), .str (S v), .ref p]) → H' p = some (.lst (chV pool)) →
  (l ++ pool).Perm azL → 1 ≤ l.length → l.length ≤ n → v.Nodup → (∀ c ∈ v, c ∈ l) → IsBox H' b → Fr [b] H H' → Q (.ref t) H'
theorem scWorld : FnScope ["_law_box_here", "_law_count", "_law_pool", "_law_letters", "_law_vowels", "_law_k", "_law_one"] ["_law_box_here", "_law_count"] (defScope sWorld) := ⟨rfl, rfl, rfl, by decide +kernel, rfl, by decide +kernel, by decide +kernel⟩
theorem ok_world (T : Fns K mg a d) : FnOk P w K mg base CX0 2 a.aWorld d.dWorld ["_law_box_here", "_law_count"] spWorld := by
  have GTake : FnOk P w K mg base CX0 1 a.aTake d.dTake ["_law_box_here", "_law_many"] spTake := ok_take T
  refine T.FWorld.ok scWorld (fun vs H Q E h => ?_) (fun cdv A outer s H vs Q E hr h => ?_)
  · obtain ⟨b, n, rfl, _⟩ := h
    rfl
  · obtain ⟨b, n, rfl, hb, hn0, hn4, k⟩ := h
    refine ⟨_, ((pss_cons (ps_set (i := 2) scWorld.nd rfl (Or.inl rfl) (pe_callTy (call_listT rfl) (by rfl) T.z_list (by decide +kernel) (pa_cons (pe_strS (l := kStrU2_0) kStrU2_0_eq) pa_nil)))
      (pss_cons (ps_set (i := 3) scWorld.nd rfl (Or.inl rfl) (pe_strS (l := []) (by decide +kernel)))
      (pss_cons (ps_set (i := 4) scWorld.nd rfl (Or.inl rfl) (pe_strS (l := []) (by decide +kernel)))
      (pss_cons (ps_for PassesOwn.never rfl (pi_range1 (by rfl) T.z_range (pa_cons (pe_op op_add pe_int (pe_call GTake (hr.mono (by decide)) (by rfl) T.gTake T.FTake.kp T.bTake .nil pass0 (pa_cons (pv 0) (pa_cons (pv 1) pa_nil)))) pa_nil)) (pg_name (i := 5) scWorld.nd rfl (Or.inl rfl)) (pss_cons (ps_set (i := 6) scWorld.nd rfl (Or.inl rfl) (pe_bm PySem.F.plainAttrs_list PySem.F.slot_list_pop PySem.F.type_list_pop mt_popAt (pv 2) (pa_cons (pe_call GTake (hr.mono (by decide)) (by rfl) T.gTake T.FTake.kp T.bTake .nil pass0 (pa_cons (pv 0) (pa_cons (pe_callB call_len_seq (by rfl) T.z_len (by decide +kernel) (pa_cons (pv 2) pa_nil)) pa_nil))) pa_nil)))
      (pss_cons (ps_set (i := 3) scWorld.nd rfl (Or.inl rfl) (pe_op op_addS (pv 3) (pv 6)))
      (pss_one (ps_if (pt_cmpR op_eq (pe_call GTake (hr.mono (by decide)) (by rfl) T.gTake T.FTake.kp T.bTake .nil pass0 (pa_cons (pv 0) (pa_cons pe_int pa_nil))) pe_int (nomark _)) (pss_one (ps_set (i := 4) scWorld.nd rfl (Or.inl rfl) (pe_op op_addS (pv 6) (pv 4)))) pss_nil)))))
      (pss_one (ps_ret (pe_tup (pa_cons (pv 3) (pa_cons (pv 4) (pa_cons (pv 2) pa_nil))))))))))), ?_⟩
    have eaz : kStrU2_0 = azL := by decide +kernel
    have hl0 : kStrU2_0.length ≤ 4000 := by decide +kernel
    walk_at "go"
    rename_i p hp
    have hbp := hb.ne hp
    have hb1 := hb.laid (o := .lst (kStrU2_0.map fun c => V.str (S [c]))) hp
    refine ⟨b, n, rfl, hb1, hn0, by omega, fun r H1 hr1 hB1 f1 => ?_⟩
    have hp1 : H1 p = some (.lst (chV azL)) := f1 _ _ (by simpa using hbp.symm) (by rw [← eaz]; exact upd_same)
    have f1 : Fr [b, p] H H1 := Fr.trans (Fr.upd_in (by simp)) (Fr.mono f1 (by simp))
    walk_at "go"
    rw [show ((1 : Int) + (r : Int)).toNat = 1 + r by omega]
    refine for_R (n := 1 + r) (fun i σ H' => Stop (∃ (l v pool : List Nat) (v5 v6 : Option V), σ = [some (.ref b), some (.int (n : Int)), some (.ref p), some (.str (S l)), some (.str (S v)), v5, v6] ∧
        H' p = some (.lst (chV pool)) ∧ (l ++ pool).Perm azL ∧ l.length = i ∧ v.Nodup ∧ (∀ c ∈ v, c ∈ l) ∧ IsBox H' b ∧ Fr [b, p] H H'))
      ⟨[], [], azL, none, none, rfl, hp1, List.Perm.refl _, rfl, List.nodup_nil, (fun c hc => absurd hc List.not_mem_nil), hB1, f1⟩ ?_ ?_
    · rintro i σ H2 hi ⟨l, v, pool, v5, v6, rfl, hp2, hper, hli, hvn, hvl, hB2, f2⟩
      have hlen := hper.length_eq
      rw [List.length_append, az_len] at hlen
      have hvlen := len_of_sub hvn hvl
      walk_at "go"
      have hcl : (chV pool).length = pool.length := by unfold chV; rw [List.length_map]
      rw [hcl]
      refine ⟨b, pool.length, rfl, hB2, by omega, by omega, fun x H3 hx hB3 f3 => ?_⟩
      have hp3 := f3 _ _ (by simpa using hbp.symm) hp2
      have hx1 : pool[x]? = some pool[x] := List.getElem?_eq_getElem hx
      have hxp := erase_perm hx
      generalize pool[x] = c at hx1 hxp
      walk_at "go"
      refine iPopAt (y := .str (S [c])) hp3 (by unfold chV; rw [List.getElem?_map, hx1]; rfl) (by omega) ?_
      rw [chV_erase]
      have hp4 : (upd H3 p (.lst (chV (pool.eraseIdx x)))) p = some (.lst (chV (pool.eraseIdx x))) := upd_same
      have hB4 := hB3.upd (o := .lst (chV (pool.eraseIdx x))) hbp
      have f4 : Fr [b, p] H (upd H3 p (.lst (chV (pool.eraseIdx x)))) := Fr.trans f2 (Fr.trans (Fr.mono f3 (by simp)) (Fr.upd_in (by simp)))
      generalize upd H3 p (.lst (chV (pool.eraseIdx x))) = H4 at hp4 hB4 f4
      have hper2 : ((l ++ [c]) ++ pool.eraseIdx x).Perm azL := by
        rw [List.append_assoc, List.singleton_append]
        exact ((List.Perm.append_left l hxp)).trans hper
      have hcl2 : c ∉ l := by
        have nd := hper2.nodup_iff.mpr az_nodup
        have nd2 := (List.nodup_append.mp nd).1
        have nd3 := (List.nodup_append.mp nd2).2.2
        intro hc
        exact nd3 c hc c (by simp) rfl
      have hvc : c ∉ v := fun hc => hcl2 (hvl c hc)
      walk_at "go"
      refine ⟨b, 2, rfl, hB4, by decide, by decide, fun r2 H5 hr2 hB5 f5 => ?_⟩
      have hp5 := f5 _ _ (by simpa using hbp.symm) hp4
      have f5 : Fr [b, p] H H5 := Fr.trans f4 (Fr.mono f5 (by simp))
      walk_at "go"
      · exact ⟨l ++ [c], [c] ++ v, pool.eraseIdx x, _, _, rfl, hp5, hper2, by rw [List.length_append, hli]; rfl, List.nodup_cons.mpr ⟨hvc, hvn⟩, (fun z hz => by
          rcases List.mem_cons.mp hz with rfl | hz
          · simp
          · exact List.mem_append_left _ (hvl z hz)), hB5, f5⟩
      · exact ⟨l ++ [c], v, pool.eraseIdx x, _, _, rfl, hp5, hper2, by rw [List.length_append, hli]; rfl, hvn, (fun z hz => List.mem_append_left _ (hvl z hz)), hB5, f5⟩
    · rintro σ H2 ⟨l, v, pool, v5, v6, rfl, hp2, hper, hli, hvn, hvl, hB2, f2⟩
      walk_at "go"
      rename_i t ht
      have hpt : p ≠ t := ne_of_none hp2 ht
      have hbt := hB2.ne ht
      have hHt : H t = none := Fr.none f2 (by simp [hbt.symm, hpt.symm]) ht
      exact k t p l v pool _ hHt hp hpt.symm hbt.symm hbp.symm upd_same (upd_oth hpt hp2) hper (by omega) (by omega) hvn hvl (hB2.laid ht) (Fr.forget (L := [b]) (Fr.trans f2 (Fr.upd_new ht)) fun x hx => by
        rcases List.mem_cons.mp hx with rfl | hx
        · exact .inl (by simp)
        · rw [List.mem_singleton] at hx
          rw [hx]
          exact .inr hp)
end
end
section
set_option Elab.async false
set_option linter.all false
set_option maxRecDepth 100000
set_option maxHeartbeats 2000000
open PySem PySem.Spec PyProof.Rows L2

local macro_rules | `(tactic| walk_at "side") => `(tactic| exact .inl (by assumption))
def kStrU3_0 : List Nat := [106, 111, 105, 110, 116, 115]
theorem kStrU3_0_eq : PySem.Str.ofString "joints" = S kStrU3_0 := by decide +kernel
def kStrU3_1 : List Nat := [99, 111, 110, 115, 111, 110, 97, 110, 116, 115]
theorem kStrU3_1_eq : PySem.Str.ofString "consonants" = S kStrU3_1 := by decide +kernel
def kStrU3_2 : List Nat := [118, 111, 119, 101, 108, 115]
theorem kStrU3_2_eq : PySem.Str.ofString "vowels" = S kStrU3_2 := by decide +kernel
def kStrU3_3 : List Nat := [108, 101, 116, 116, 101, 114, 115]
theorem kStrU3_3_eq : PySem.Str.ofString "letters" = S kStrU3_3 := by decide +kernel
/-! names of sets, and which signs they have -/
def nmAll : List Nat := [97, 108, 108]
def nmLet : List Nat := [108, 101, 116, 116, 101, 114, 115]
def nmVow : List Nat := [118, 111, 119, 101, 108, 115]
def nmCon : List Nat := [99, 111, 110, 115, 111, 110, 97, 110, 116, 115]
def nmJoi : List Nat := [106, 111, 105, 110, 116, 115]
def mid (l : List Nat) : List Nat := (l.take (l.length - 1)).drop 1
theorem cut_mid (l : List Nat) : cutS (S l) (some 1) (some (-1)) = S (mid l) := by
  rw [S_cut]
  congr 1
  unfold mid
  have e1 : HT.sIx l.length 0 (some 1) = min 1 l.length := by
    unfold HT.sIx
    simp only []
    split <;> omega
  have e2 : HT.sIx l.length l.length (some (-1)) = l.length - 1 := by
    unfold HT.sIx
    simp only []
    split <;> omega
  rw [e1, e2, List.drop_take]
  by_cases h : 1 ≤ l.length
  · rw [Nat.min_eq_left h]
  · have hl : l = [] := List.eq_nil_of_length_eq_zero (by omega)
    subst hl
    rfl
theorem mid_br (li : List Nat) : mid ([91] ++ li ++ [93]) = li := by
  unfold mid
  have e : ([91] ++ li ++ [93] : List Nat).length - 1 = ([91] ++ li).length := by simp
  rw [e, List.take_left]
  rfl
theorem mid_len (l : List Nat) : (mid l).length ≤ l.length := by
  unfold mid
  rw [List.length_drop, List.length_take]
  omega
/-- which names the law draws -/
def GoodNm (sg nm : List Nat) : Prop := nm = nmAll ∨ nm = nmLet ∨ nm = nmVow ∨ nm = nmCon ∨ nm = nmJoi ∨ ∃ li, nm = [91] ++ li ++ [93] ∧ li ≠ [] ∧ li.Sublist sg
theorem GoodNm.len {sg nm : List Nat} (h : GoodNm sg nm) (hs : sg.length ≤ 30) : nm.length ≤ 32 := by
  rcases h with rfl | rfl | rfl | rfl | rfl | ⟨li, rfl, _, h⟩
  · decide
  · decide
  · decide
  · decide
  · decide
  · have := h.length_le
    simp
    omega
def memL (sg v nm : List Nat) : List Nat :=
  if nm = nmAll then sg else if nm = nmLet then sg.drop 1 else if nm = nmVow then (sg.drop 1).filter (fun c => decide (c ∈ v)) else if nm = nmCon then (sg.drop 1).filter (fun c => !decide (c ∈ v)) else if nm = nmJoi then [45] else mid nm
def keepB (t m : List Nat) : Nat → Bool
  | 0 => true
  | k + 1 => (!decide (t[k + 1]? = t[k]?)) || (match t[k + 1]? with | some c => !decide (c ∈ m) | none => false)
def onceL (t m : List Nat) (n : Nat) : List Nat := (List.range n).filterMap fun k => if keepB t m k then t[k]? else none
theorem onceL_succ (t m : List Nat) (n : Nat) : onceL t m (n + 1) = onceL t m n ++ (if keepB t m n then (match t[n]? with | some c => [c] | none => []) else []) := by
  unfold onceL
  rw [List.range_succ, List.filterMap_append]
  congr 1
  by_cases h : keepB t m n = true
  · rw [if_pos h]
    cases e : t[n]? with
    | none => simp [h, e]
    | some c => simp [h, e]
  · rw [if_neg h]
    simp [h]
theorem onceL_len (t m : List Nat) (n : Nat) : (onceL t m n).length ≤ n := by
  unfold onceL
  have := List.length_filterMap_le (fun k => if keepB t m k then t[k]? else none) (List.range n)
  rwa [List.length_range] at this
def dueL (k : Nat) (x : Nat) (ms t : List Nat) : List Nat := if k = 0 then t.map (fun c => if c ∈ ms then x else c) else if k = 1 then onceL t ms t.length else t ++ [x]
section
variable {P : Program} {w : World} {K : PySem.W.Frag} {mg : Str → Option Value} {base : Heap} {a : Ad} {d : Fd}
def spName : Sp := fun vs H Q _ => ∃ (b : Addr) (sg : List Nat), vs = [.ref b, .str (S sg)] ∧ IsBox H b ∧ 0 < sg.length ∧ sg.length ≤ 30 ∧ ∀ (nm : List Nat) (H' : Hp), GoodNm sg nm → IsBox H' b → Fr [b] H H' → Q (.str (S nm)) H'
theorem scName : FnScope ["_law_box_here", "_law_signs", "_law_pick", "_law_picked", "_law_one"] ["_law_box_here", "_law_signs"] (defScope sName) := ⟨rfl, rfl, rfl, by decide +kernel, rfl, by decide +kernel, by decide +kernel⟩
theorem ok_name (T : Fns K mg a d) : FnOk P w K mg base CX0 2 a.aName d.dName ["_law_box_here", "_law_signs"] spName := by
  have GTake : FnOk P w K mg base CX0 1 a.aTake d.dTake ["_law_box_here", "_law_many"] spTake := ok_take T
  refine T.FName.ok scName (fun vs H Q E h => ?_) (fun cdv A outer s H vs Q E hr h => ?_)
  · obtain ⟨b, sg, rfl, _⟩ := h
    rfl
  · obtain ⟨b, sg, rfl, hb, hs0, hs1, k⟩ := h
    refine ⟨_, ((pss_cons (ps_set (i := 2) scName.nd rfl (Or.inl rfl) (pe_call GTake (hr.mono (by decide)) (by rfl) T.gTake T.FTake.kp T.bTake .nil pass0 (pa_cons (pv 0) (pa_cons pe_int pa_nil))))
      (pss_cons (ps_if (pt_cmpR op_lt (pv 2) pe_int (nomark _)) (pss_one (ps_ret (pe_ix (r := rIxL K) ix_list (pe_lst (pa_cons (pe_strS (l := [97, 108, 108]) (by decide +kernel)) (pa_cons (pe_strS (l := kStrU3_3) kStrU3_3_eq) (pa_cons (pe_strS (l := kStrU3_2) kStrU3_2_eq) (pa_cons (pe_strS (l := kStrU3_1) kStrU3_1_eq) (pa_cons (pe_strS (l := kStrU3_0) kStrU3_0_eq) pa_nil)))))) (pv 2) (fun _ _ => rfl)))) pss_nil)
      (pss_cons (ps_set (i := 3) scName.nd rfl (Or.inl rfl) (pe_strS (l := []) (by decide +kernel)))
      (pss_cons (ps_for PassesOwn.never rfl (pi_str (pv 1)) (pg_name (i := 4) scName.nd rfl (Or.inl rfl)) (pss_one (ps_if (pt_cmpR op_eq (pe_call GTake (hr.mono (by decide)) (by rfl) T.gTake T.FTake.kp T.bTake .nil pass0 (pa_cons (pv 0) (pa_cons pe_int pa_nil))) pe_int (nomark _)) (pss_one (ps_set (i := 3) scName.nd rfl (Or.inl rfl) (pe_op op_addS (pv 3) (pv 4)))) pss_nil)))
      (pss_cons (ps_if (pt_cmpR op_eq (pv 3) (pe_strS (l := []) (by decide +kernel)) (nomark _)) (pss_one (ps_set (i := 3) scName.nd rfl (Or.inl rfl) (pe_ix ix_str (pv 1) (pe_call GTake (hr.mono (by decide)) (by rfl) T.gTake T.FTake.kp T.bTake .nil pass0 (pa_cons (pv 0) (pa_cons (pe_callB call_lenS (by rfl) T.z_len (by decide +kernel) (pa_cons (pv 1) pa_nil)) pa_nil))) (fun _ _ => rfl)))) pss_nil)
      (pss_one (ps_ret (pe_op op_addS (pe_op op_addS (pe_strS (l := [91]) (by decide +kernel)) (pv 3)) (pe_strS (l := [93]) (by decide +kernel))))))))))), ?_⟩
    walk_at "go"
    refine ⟨b, 7, rfl, hb, by decide, by decide, fun r H1 hr1 hB1 f1 => ?_⟩
    walk_at "go"
    · rename_i hbr p hp
      have hr5 : r < 5 := by omega
      obtain ⟨nm, hnm, hg⟩ : ∃ nm : List Nat, [V.str (S [97, 108, 108]), V.str (S kStrU3_3), V.str (S kStrU3_2), V.str (S kStrU3_1), V.str (S kStrU3_0)][r]? = some (V.str (S nm)) ∧ GoodNm sg nm := by
        match r, hr5 with
        | 0, _ => exact ⟨nmAll, rfl, .inl rfl⟩
        | 1, _ => exact ⟨nmLet, rfl, .inr (.inl rfl)⟩
        | 2, _ => exact ⟨nmVow, rfl, .inr (.inr (.inl rfl))⟩
        | 3, _ => exact ⟨nmCon, rfl, .inr (.inr (.inr (.inl rfl)))⟩
        | 4, _ => exact ⟨nmJoi, rfl, .inr (.inr (.inr (.inr (.inl rfl))))⟩
      refine iIxL (SqL.of upd_same) (atI_nat hnm) ?_
      exact k nm _ hg (hB1.laid hp) (Fr.trans f1 (Fr.upd_new hp))
    · refine for_S (l := sg) (fun i σ H' => Stop (∃ (pk : List Nat) (v4 : Option V), σ = [some (.ref b), some (.str (S sg)), some (.int (r : Int)), some (.str (S pk)), v4] ∧ pk.Sublist (sg.take i) ∧ IsBox H' b ∧ Fr [b] H H'))
        ⟨[], none, rfl, List.nil_sublist _, hB1, f1⟩ ?_ ?_
      · rintro i c σ H2 hc ⟨pk, v4, rfl, hsub, hB2, f2⟩
        have hpl := hsub.length_le
        rw [List.length_take] at hpl
        have e1 : sg.take (i + 1) = sg.take i ++ [c] := by
          rw [List.take_add_one, hc]
          rfl
        walk_at "go"
        refine ⟨b, 2, rfl, hB2, by decide, by decide, fun r2 H3 hr2 hB3 f3 => ?_⟩
        walk_at "go"
        · exact ⟨pk ++ [c], _, rfl, by rw [e1]; exact hsub.append (List.Sublist.refl _), hB3, Fr.trans f2 f3⟩
        · exact ⟨pk, _, rfl, by rw [e1]; exact hsub.trans (List.sublist_append_left _ _), hB3, Fr.trans f2 f3⟩
      · rintro σ H2 ⟨pk, v4, rfl, hsub, hB2, f2⟩
        rw [List.take_length] at hsub
        have hpl := hsub.length_le
        walk_at "go"
        · refine ⟨b, sg.length, rfl, hB2, by omega, by omega, fun x H3 hx hB3 f3 => ?_⟩
          have hx1 : sg[x]? = some sg[x] := List.getElem?_eq_getElem hx
          have hxm : sg[x] ∈ sg := List.getElem_mem hx
          generalize sg[x] = c at hx1 hxm
          refine iIxS (by omega) (atI_nat hx1) ?_
          walk_at "go"
          exact k _ _ (.inr (.inr (.inr (.inr (.inr ⟨[c], rfl, by simp, List.singleton_sublist.mpr hxm⟩))))) hB3 (Fr.trans f2 f3)
        · rename_i hne
          exact k _ _ (.inr (.inr (.inr (.inr (.inr ⟨pk, rfl, hne, hsub⟩))))) hB2 f2
def spMembers : Sp := fun vs H Q _ => ∃ (nm sg v : List Nat), vs = [.str (S nm), .str (S sg), .str (S v)] ∧ nm.length ≤ 100 ∧ sg.length ≤ 100 ∧ ∀ H', Same H H' → Q (.str (S (memL sg v nm))) H'
theorem scMembers : FnScope ["_law_name_here", "_law_signs", "_law_vowels", "_law_one"] ["_law_name_here", "_law_signs", "_law_vowels"] (defScope sMembers) := ⟨rfl, rfl, rfl, by decide +kernel, rfl, by decide +kernel, by decide +kernel⟩
theorem ok_members (T : Fns K mg a d) : FnOk P w K mg base CX0 1 a.aMembers d.dMembers ["_law_name_here", "_law_signs", "_law_vowels"] spMembers := by
  refine T.FMembers.ok scMembers (fun vs H Q E h => ?_) (fun cdv A outer s H vs Q E hr h => ?_)
  · obtain ⟨nm, sg, v, rfl, _⟩ := h
    rfl
  · obtain ⟨nm, sg, v, rfl, hnl, hsl, k⟩ := h
    have fin : ∀ (l : List Nat) (H' : Hp), memL sg v nm = l → Same H H' → Q (.str (S l)) H' := fun l H' e s => by
      rw [← e]
      exact k H' s
    clear k
    refine ⟨_, ((pss_cons (ps_if (pt_cmpR op_eq (pv 0) (pe_strS (l := [97, 108, 108]) (by decide +kernel)) (nomark _)) (pss_one (ps_ret (pv 1))) pss_nil)
      (pss_cons (ps_if (pt_cmpR op_eq (pv 0) (pe_strS (l := kStrU3_3) kStrU3_3_eq) (nomark _)) (pss_one (ps_ret (pe_slice sl_str (pv 1) (po_some pe_int) po_none))) pss_nil)
      (pss_cons (ps_if (pt_cmpR op_eq (pv 0) (pe_strS (l := kStrU3_2) kStrU3_2_eq) (nomark _)) (pss_one (ps_ret (pe_join (pe_strS (l := []) (by decide +kernel)) (pe_lc (own := [("_law_one", 3)]) (g := gName 3) (by rfl) scMembers.nd (pi_str (pe_slice sl_str (pv 1) (po_some pe_int) po_none)) (blkOk_by (own := [("_law_one", 3)]) (N := ["_law_name_here", "_law_signs", "_law_vowels", "_law_one"]) (sc := defScope sMembers) (by decide +kernel)) (fun _ _ _ _ _ => pg_name (i := 3) scMembers.nd rfl (Or.inl rfl)) (fun _ _ _ _ _ => (pts_one (pt_cmpR op_inS (pv 3) (pv 2) rfl))) (fun _ _ _ _ _ => (pv 3)))))) pss_nil)
      (pss_cons (ps_if (pt_cmpR op_eq (pv 0) (pe_strS (l := kStrU3_1) kStrU3_1_eq) (nomark _)) (pss_one (ps_ret (pe_join (pe_strS (l := []) (by decide +kernel)) (pe_lc (own := [("_law_one", 3)]) (g := gName 3) (by rfl) scMembers.nd (pi_str (pe_slice sl_str (pv 1) (po_some pe_int) po_none)) (blkOk_by (own := [("_law_one", 3)]) (N := ["_law_name_here", "_law_signs", "_law_vowels", "_law_one"]) (sc := defScope sMembers) (by decide +kernel)) (fun _ _ _ _ _ => pg_name (i := 3) scMembers.nd rfl (Or.inl rfl)) (fun _ _ _ _ _ => (pts_one (pt_cmpR op_notInS (pv 3) (pv 2) rfl))) (fun _ _ _ _ _ => (pv 3)))))) pss_nil)
      (pss_cons (ps_if (pt_cmpR op_eq (pv 0) (pe_strS (l := kStrU3_0) kStrU3_0_eq) (nomark _)) (pss_one (ps_ret (pe_strS (l := [45]) (by decide +kernel)))) pss_nil)
      (pss_one (ps_ret (pe_slice sl_str (pv 0) (po_some pe_int) (po_some (pe_un un_neg pe_int))))))))))), ?_⟩
    rw [show kStrU3_3 = nmLet from rfl, show kStrU3_2 = nmVow from rfl, show kStrU3_1 = nmCon from rfl, show kStrU3_0 = nmJoi from rfl, show ([97, 108, 108] : List Nat) = nmAll from rfl]
    walk_at "go"
    · rename_i h1
      exact fin _ _ (by unfold memL; rw [if_pos h1]) (Same.refl _)
    · rename_i h1 h2
      exact fin _ _ (by unfold memL; rw [if_neg h1, if_pos h2]) (Same.refl _)
    · rename_i h1 h2 h3  D hD
      have hdl : (sg.drop 1).length ≤ 100 := by rw [List.length_drop]; omega
      refine lc_text (l := sg.drop 1) (fun c => decide (c ∈ v)) (fun c => V.str (S [c])) (by omega) (fun _ => rfl) (fun c hc H2 Q2 off q => ?_) (fun c hc hp H2 Q2 off q => ?_) ?_
      · walk_at "go"
        exact q
      · walk_at "go"
        exact q
      · have hfl := List.length_filter_le (fun c => decide (c ∈ v)) (sg.drop 1)
        refine iJoinS (SqL.of upd_same) (by omega) (fin _ _ ?_ (Same.upd_new hD))
        unfold memL
        rw [if_neg h1, if_neg h2, if_pos h3]
    · rename_i h1 h2 h3 h4 D hD
      have hdl : (sg.drop 1).length ≤ 100 := by rw [List.length_drop]; omega
      refine lc_text (l := sg.drop 1) (fun c => !decide (c ∈ v)) (fun c => V.str (S [c])) (by omega) (fun _ => rfl) (fun c hc H2 Q2 off q => ?_) (fun c hc hp H2 Q2 off q => ?_) ?_
      · walk_at "go"
        exact q
      · walk_at "go"
        exact q
      · have hfl := List.length_filter_le (fun c => !decide (c ∈ v)) (sg.drop 1)
        refine iJoinS (SqL.of upd_same) (by omega) (fin _ _ ?_ (Same.upd_new hD))
        unfold memL
        rw [if_neg h1, if_neg h2, if_neg h3, if_pos h4]
    · rename_i h1 h2 h3 h4 h5
      exact fin _ _ (by unfold memL; rw [if_neg h1, if_neg h2, if_neg h3, if_neg h4, if_pos h5]) (Same.refl _)
    · rename_i h1 h2 h3 h4 h5
      rw [cut_mid]
      exact fin _ _ (by unfold memL; rw [if_neg h1, if_neg h2, if_neg h3, if_neg h4, if_neg h5]) (Same.refl _)
end
end
section
set_option Elab.async false
set_option linter.all false
set_option maxRecDepth 100000
set_option maxHeartbeats 2000000
open PySem PySem.Spec PyProof.Rows L2

local macro_rules | `(tactic| walk_at "side") => `(tactic| exact .inl (by assumption))

/-- the count of signs behind a joint (j: joints count), after n signs -/
def cntL (j : Bool) (t : List Nat) : Nat → Nat
  | 0 => 0
  | n + 1 => if j = true ∧ t[n]? = some 45 then 0 else cntL j t n + 1
theorem cntL_le (j : Bool) (t : List Nat) : ∀ n, cntL j t n ≤ n
  | 0 => Nat.le_refl _
  | n + 1 => by
    have := cntL_le j t n
    unfold cntL
    split <;> omega
/-- whether a drop leaves the sign at k -/
def stayB (m : List Nat) (num : Nat) (j last : Bool) (t : List Nat) (k : Nat) : Bool :=
  (match t[k]? with | some c => !decide (c ∈ m) | none => false) || decide (cntL j t (k + 1) ≤ num) || (last && (decide (k + 1 = t.length) || (j && decide (t[k + 1]? = some 45))))
def outL (m : List Nat) (num : Nat) (j last : Bool) (t : List Nat) (n : Nat) : List Nat := (List.range n).filterMap fun k => if stayB m num j last t k then t[k]? else none
theorem outL_succ (m : List Nat) (num : Nat) (j last : Bool) (t : List Nat) (n : Nat) : outL m num j last t (n + 1) = outL m num j last t n ++ (if stayB m num j last t n then (match t[n]? with | some c => [c] | none => []) else []) := by
  unfold outL
  rw [List.range_succ, List.filterMap_append]
  congr 1
  simp only [List.filterMap_cons, List.filterMap_nil]
  split
  · rename_i h
    split at h
    · rw [if_pos (by assumption), h]
    · rw [if_neg (by assumption)]
  · rename_i c h
    split at h
    · rw [if_pos (by assumption), h]
    · cases h
theorem outL_len (m : List Nat) (num : Nat) (j last : Bool) (t : List Nat) (n : Nat) : (outL m num j last t n).length ≤ n := by
  unfold outL
  refine Nat.le_trans (List.length_filterMap_le _ _) ?_
  rw [List.length_range]
  exact Nat.le_refl _
section
variable {P : Program} {w : World} {K : PySem.W.Frag} {mg : Str → Option Value} {base : Heap} {a : Ad} {d : Fd}
def spText : Sp := fun vs H Q _ => ∃ (b : Addr) (sg : List Nat), vs = [.ref b, .str (S sg)] ∧ IsBox H b ∧ 0 < sg.length ∧ sg.length ≤ 30 ∧ ∀ (t : List Nat) (H' : Hp), t.length ≤ 60 → (∀ c ∈ t, c ∈ sg) → IsBox H' b → Fr [b] H H' → Q (.str (S t)) H'
theorem scText : FnScope ["_law_box_here", "_law_signs", "_law_size", "_law_out", "_law_k"] ["_law_box_here", "_law_signs"] (defScope sText) := ⟨rfl, rfl, rfl, by decide +kernel, rfl, by decide +kernel, by decide +kernel⟩
theorem ok_text (T : Fns K mg a d) : FnOk P w K mg base CX0 2 a.aText d.dText ["_law_box_here", "_law_signs"] spText := by
  have GTake : FnOk P w K mg base CX0 1 a.aTake d.dTake ["_law_box_here", "_law_many"] spTake := ok_take T
  refine T.FText.ok scText (fun vs H Q E h => ?_) (fun cdv A outer s H vs Q E hr h => ?_)
  · obtain ⟨b, sg, rfl, _⟩ := h
    rfl
  · obtain ⟨b, sg, rfl, hb, hs0, hs1, k⟩ := h
    refine ⟨_, ((pss_cons (ps_set (i := 2) scText.nd rfl (Or.inl rfl) (pe_call GTake (hr.mono (by decide)) (by rfl) T.gTake T.FTake.kp T.bTake .nil pass0 (pa_cons (pv 0) (pa_cons pe_int pa_nil))))
      (pss_cons (ps_if (pt_cmpR op_eq (pe_call GTake (hr.mono (by decide)) (by rfl) T.gTake T.FTake.kp T.bTake .nil pass0 (pa_cons (pv 0) (pa_cons pe_int pa_nil))) pe_int (nomark _)) (pss_one (ps_set (i := 2) scText.nd rfl (Or.inl rfl) (pe_op op_add (pv 2) (pe_call GTake (hr.mono (by decide)) (by rfl) T.gTake T.FTake.kp T.bTake .nil pass0 (pa_cons (pv 0) (pa_cons pe_int pa_nil)))))) pss_nil)
      (pss_cons (ps_set (i := 3) scText.nd rfl (Or.inl rfl) (pe_strS (l := []) (by decide +kernel)))
      (pss_cons (ps_for PassesOwn.never rfl (pi_range1 (by rfl) T.z_range (pa_cons (pv 2) pa_nil)) (pg_name (i := 4) scText.nd rfl (Or.inl rfl)) (pss_one (ps_set (i := 3) scText.nd rfl (Or.inl rfl) (pe_op op_addS (pv 3) (pe_ix ix_str (pv 1) (pe_call GTake (hr.mono (by decide)) (by rfl) T.gTake T.FTake.kp T.bTake .nil pass0 (pa_cons (pv 0) (pa_cons (pe_callB call_lenS (by rfl) T.z_len (by decide +kernel) (pa_cons (pv 1) pa_nil)) pa_nil))) (fun _ _ => rfl))))))
      (pss_one (ps_ret (pv 3)))))))), ?_⟩
    walk_at "go"
    refine ⟨b, 8, rfl, hb, by decide, by decide, fun r H1 hr1 hB1 f1 => ?_⟩
    walk_at "go"
    refine ⟨b, 8, rfl, hB1, by decide, by decide, fun r2 H2 hr2 hB2 f2 => ?_⟩
    have f2 := Fr.trans f1 f2
    walk_at "go"
    · refine ⟨b, 53, rfl, hB2, by decide, by decide, fun r3 H3 hr3 hB3 f3 => ?_⟩
      have f3 := Fr.trans f2 f3
      walk_at "go"
      rw [show ((r : Int) + (r3 : Int)).toNat = (r + r3) by omega]
      refine for_R (n := (r + r3)) (fun i σ H' => Stop (∃ (t : List Nat) (v4 : Option V), σ = [some (.ref b), some (.str (S sg)), some (.int ((r : Int) + (r3 : Int))), some (.str (S t)), v4] ∧ t.length ≤ i ∧ (∀ c ∈ t, c ∈ sg) ∧ IsBox H' b ∧ Fr [b] H H'))
        ⟨[], none, rfl, Nat.zero_le _, (fun c hc => absurd hc List.not_mem_nil), hB3, f3⟩ ?_ ?_
      · rintro i σ H5 hi ⟨t, v4, rfl, htl, htc, hB5, f5⟩
        walk_at "go"
        refine ⟨b, sg.length, rfl, hB5, by omega, by omega, fun pk H6 hpk hB6 f6 => ?_⟩
        have f6 := Fr.trans f5 f6
        have hx1 : sg[pk]? = some sg[pk] := List.getElem?_eq_getElem hpk
        have hxm : sg[pk] ∈ sg := List.getElem_mem hpk
        generalize sg[pk] = c at hx1 hxm
        refine iIxS (by omega) (atI_nat hx1) ?_
        walk_at "go"
        exact ⟨t ++ [c], _, rfl, by rw [List.length_append, List.length_singleton]; omega, fun z hz => (List.mem_append.mp hz).elim (htc z) fun hz => by rw [List.mem_singleton] at hz; rw [hz]; exact hxm, hB6, f6⟩
      · rintro σ H5 ⟨t, v4, rfl, htl, htc, hB5, f5⟩
        walk_at "go"
        exact k t H5 (by omega) htc hB5 f5
    · skip
      rw [show ((r : Int)).toNat = r by omega]
      refine for_R (n := r) (fun i σ H' => Stop (∃ (t : List Nat) (v4 : Option V), σ = [some (.ref b), some (.str (S sg)), some (.int ((r : Int))), some (.str (S t)), v4] ∧ t.length ≤ i ∧ (∀ c ∈ t, c ∈ sg) ∧ IsBox H' b ∧ Fr [b] H H'))
        ⟨[], none, rfl, Nat.zero_le _, (fun c hc => absurd hc List.not_mem_nil), hB2, f2⟩ ?_ ?_
      · rintro i σ H5 hi ⟨t, v4, rfl, htl, htc, hB5, f5⟩
        walk_at "go"
        refine ⟨b, sg.length, rfl, hB5, by omega, by omega, fun pk H6 hpk hB6 f6 => ?_⟩
        have f6 := Fr.trans f5 f6
        have hx1 : sg[pk]? = some sg[pk] := List.getElem?_eq_getElem hpk
        have hxm : sg[pk] ∈ sg := List.getElem_mem hpk
        generalize sg[pk] = c at hx1 hxm
        refine iIxS (by omega) (atI_nat hx1) ?_
        walk_at "go"
        exact ⟨t ++ [c], _, rfl, by rw [List.length_append, List.length_singleton]; omega, fun z hz => (List.mem_append.mp hz).elim (htc z) fun hz => by rw [List.mem_singleton] at hz; rw [hz]; exact hxm, hB6, f6⟩
      · rintro σ H5 ⟨t, v4, rfl, htl, htc, hB5, f5⟩
        walk_at "go"
        exact k t H5 (by omega) htc hB5 f5
end
end
section
set_option Elab.async false
set_option linter.all false
set_option maxRecDepth 100000
set_option maxHeartbeats 2000000
open PySem PySem.Spec PyProof.Rows L2 L2H

local macro_rules | `(tactic| walk_at "side") => `(tactic| exact .inl (by assumption))

def Tx (t : List Nat) : Prop := t.length ≤ 100 ∧ ∀ c ∈ t, c < 0x110000
theorem repr_tx {t : List Nat} (h : Tx t) : (reprText (S t)).length ≤ 1002 := by
  have h1 := PySem.StrLaws.reprText_len (S t) (fun c hc => by
    rw [S_cps] at hc
    have := h.2 c hc
    omega)
  rw [S_len] at h1
  have := h.1
  omega
theorem al2 (a b : Str) : (a ++ b).length = a.length + b.length := by
  show (a.cps ++ b.cps).size = _
  rw [Array.size_append]
  rfl
theorem sl4 {n : Nat} (h : n ≤ 4000) : n ≤ sizeLine := by rw [sizeLine_eq]; omega
theorem e0l : Str.empty.length = 0 := by decide +kernel
def PostE (B b : Addr) (E : XK) (H1 : Hp) : VK := fun v H2 => v = .non ∧ ∃ (d : Addr) (fs : List (Str × V)), H2 b = some (exo b B (some d)) ∧ H2 d = some (exd d fs) ∧ H1 d = none ∧ E (.ref B) (some d) (upd (del H2 b) d (.xd fs))
theorem raise1 {B b : Addr} {H0 H1 : Hp} {E : XK} {f : Str} {y : V} (hb : H1 b = none) (s : Same H0 H1) (k : ∀ d H', H0 d = none → H' d = some (.xd [(f, y)]) → Same H0 H' → E (.ref B) (some d) H') :
    ∀ dx, (upd H1 b (exo b B none)) dx = none → dx ≠ b → PostE B b E H1 .non (upd (upd (upd H1 b (exo b B none)) dx (exd dx [(f, y)])) b (exo b B (some dx))) := by
  intro d hd hn
  refine ⟨rfl, d, [(f, y)], upd_same, ?_, ?_, ?_⟩
  · rw [upd_ne hn, upd_same]
  · rw [upd_ne hn] at hd
    exact hd
  · have h1 : H1 d = none := by
      rw [upd_ne hn] at hd
      exact hd
    exact k d _ (L2.Same.free s h1) upd_same (Vk.Same.trans s (kp_exc hb hd hn))
/-- a field, K named: inside a comprehension -/
theorem pe_fldK {X : Cx} {K : PySem.W.Frag} {e : Expr} {f : Str} {pos : Pos} {ta : TE} (hK : X.K = K) (he : PE X e ta) (hb : attributeBase e f X.env (eval e X.env) = eval e X.env) : PE X (.Attribute e f pos) (tFld K ta f) := hK ▸ pe_fld he hb
theorem passE {X : Cx} {P : Program} {w : World} : Passes (L2.CX P w) X (fun _ _ _ => False) := fun _ _ _ _ _ _ _ h => by
  obtain ⟨_, _, _, _, _, _, _, _, _, _, _, _, z⟩ := h
  exact z.elim
section
variable {P : Program} {w : World} {K : PySem.W.Frag} {mg : Str → Option Value} {base : Heap} {a : Ad} {d : Fd}
/-- what an error's __init__ leaves: one field -/
def spErr (C : Addr) (f : Str) : Sp := fun vs H Q _ => ∃ (a : Addr) (t : List Nat), vs = [.ref a, .str (S t)] ∧ Tx t ∧ H a = some (exo a C none) ∧
  ∀ dx, H dx = none → dx ≠ a → Q .non (upd (upd H dx (exd dx [(f, .str (S t))])) a (exo a C (some dx)))
abbrev sBadText : Stmt := inClass (top 4) 0
theorem scBadText : SScope ["self", "text"] (defScope sBadText) := ⟨rfl, rfl, rfl, by decide +kernel, by decide +kernel, by decide +kernel, fun x h => (show ∀ y ∈ (defScope sBadText).names, y.2 = .free → y.1 = "__class__" by decide +kernel) _ (PySem.mem_of_lookup h) rfl, by decide +kernel, by decide +kernel⟩
theorem ok_eBadText {f C cc cda : Addr} {dV kV doc pm ct oc : Value} {an od : Option Addr} {osl : Array (Option Value)} (T : SupC P K mg C cc cda) (hp : PySem.W.findIn K (.ref C) "text" = some none)
    (lk : K.lookup f = some ⟨oc, od, .func (PySem.W.ksFn "__init__" "BadText.__init__" (defArgs sBadText) (defBody sBadText) (defScope sBadText) dV kV doc pm an (.ref cda) ct cc), osl⟩) (hcd : PySem.W.codeIn K (.ref cda) "BadText.__init__" = true) :
    FnOk P w K mg base CX0 1 f (PySem.W.ksFn "__init__" "BadText.__init__" (defArgs sBadText) (defBody sBadText) (defScope sBadText) dV kV doc pm an (.ref cda) ct cc) ["self", "text"] (spErr C "text") := by
  refine fn_super (self := "self") (N' := ["text"]) T lk hcd scBadText rfl rfl rfl rfl (fun _ => rfl) (fun _ => rfl) (fun vs H Q E h => ?_) (fun A outer s H vs Q E hr h => ?_)
  · obtain ⟨a, z, rfl, _⟩ := h
    rfl
  · obtain ⟨a, z, rfl, hz, ha, k⟩ := h
    refine ⟨_, _, pe_joined (.cons pe_str (.cons (pe_fmtR (pv 1)) .nil)), pss_one (ps_ost (pv 0) (pv 1)), ⟨a, rfl, ha⟩, ?_⟩
    have e1 : (PySem.Str.ofString "not a text of the alphabet: ").length ≤ 100 := by decide +kernel
    have hz2 := repr_tx hz
    refine ⟨_, rfl, sl4 ?_, _, rfl, .inl ⟨S z, rfl, sl4 (by omega), _, rfl, sl4 ?_, ⟨a, rfl, ha⟩, ?_⟩⟩
    · rw [al2, e0l]
      omega
    · rw [al2, al2, e0l]
      omega
    · exact ⟨_, rfl, _, rfl, a, C, rfl, T.oex, hp, .inl ⟨ha, fun dx hd hn => k dx hd hn⟩⟩
abbrev sBadSet : Stmt := inClass (top 5) 0
theorem scBadSet : SScope ["self", "name"] (defScope sBadSet) := ⟨rfl, rfl, rfl, by decide +kernel, by decide +kernel, by decide +kernel, fun x h => (show ∀ y ∈ (defScope sBadSet).names, y.2 = .free → y.1 = "__class__" by decide +kernel) _ (PySem.mem_of_lookup h) rfl, by decide +kernel, by decide +kernel⟩
theorem ok_eBadSet {f C cc cda : Addr} {dV kV doc pm ct oc : Value} {an od : Option Addr} {osl : Array (Option Value)} (T : SupC P K mg C cc cda) (hp : PySem.W.findIn K (.ref C) "name" = some none)
    (lk : K.lookup f = some ⟨oc, od, .func (PySem.W.ksFn "__init__" "BadSet.__init__" (defArgs sBadSet) (defBody sBadSet) (defScope sBadSet) dV kV doc pm an (.ref cda) ct cc), osl⟩) (hcd : PySem.W.codeIn K (.ref cda) "BadSet.__init__" = true) :
    FnOk P w K mg base CX0 1 f (PySem.W.ksFn "__init__" "BadSet.__init__" (defArgs sBadSet) (defBody sBadSet) (defScope sBadSet) dV kV doc pm an (.ref cda) ct cc) ["self", "name"] (spErr C "name") := by
  refine fn_super (self := "self") (N' := ["name"]) T lk hcd scBadSet rfl rfl rfl rfl (fun _ => rfl) (fun _ => rfl) (fun vs H Q E h => ?_) (fun A outer s H vs Q E hr h => ?_)
  · obtain ⟨a, z, rfl, _⟩ := h
    rfl
  · obtain ⟨a, z, rfl, hz, ha, k⟩ := h
    refine ⟨_, _, pe_joined (.cons pe_str (.cons (pe_fmtR (pv 1)) .nil)), pss_one (ps_ost (pv 0) (pv 1)), ⟨a, rfl, ha⟩, ?_⟩
    have e1 : (PySem.Str.ofString "not the name of a set of signs: ").length ≤ 100 := by decide +kernel
    have hz2 := repr_tx hz
    refine ⟨_, rfl, sl4 ?_, _, rfl, .inl ⟨S z, rfl, sl4 (by omega), _, rfl, sl4 ?_, ⟨a, rfl, ha⟩, ?_⟩⟩
    · rw [al2, e0l]
      omega
    · rw [al2, al2, e0l]
      omega
    · exact ⟨_, rfl, _, rfl, a, C, rfl, T.oex, hp, .inl ⟨ha, fun dx hd hn => k dx hd hn⟩⟩
abbrev sBadStage : Stmt := inClass (top 6) 0
theorem scBadStage : SScope ["self", "what"] (defScope sBadStage) := ⟨rfl, rfl, rfl, by decide +kernel, by decide +kernel, by decide +kernel, fun x h => (show ∀ y ∈ (defScope sBadStage).names, y.2 = .free → y.1 = "__class__" by decide +kernel) _ (PySem.mem_of_lookup h) rfl, by decide +kernel, by decide +kernel⟩
theorem ok_eBadStage {f C cc cda : Addr} {dV kV doc pm ct oc : Value} {an od : Option Addr} {osl : Array (Option Value)} (T : SupC P K mg C cc cda) (hp : PySem.W.findIn K (.ref C) "what" = some none)
    (lk : K.lookup f = some ⟨oc, od, .func (PySem.W.ksFn "__init__" "BadStage.__init__" (defArgs sBadStage) (defBody sBadStage) (defScope sBadStage) dV kV doc pm an (.ref cda) ct cc), osl⟩) (hcd : PySem.W.codeIn K (.ref cda) "BadStage.__init__" = true) :
    FnOk P w K mg base CX0 1 f (PySem.W.ksFn "__init__" "BadStage.__init__" (defArgs sBadStage) (defBody sBadStage) (defScope sBadStage) dV kV doc pm an (.ref cda) ct cc) ["self", "what"] (spErr C "what") := by
  refine fn_super (self := "self") (N' := ["what"]) T lk hcd scBadStage rfl rfl rfl rfl (fun _ => rfl) (fun _ => rfl) (fun vs H Q E h => ?_) (fun A outer s H vs Q E hr h => ?_)
  · obtain ⟨a, z, rfl, _⟩ := h
    rfl
  · obtain ⟨a, z, rfl, hz, ha, k⟩ := h
    refine ⟨_, _, pe_joined (.cons pe_str (.cons (pe_fmt (pv 1)) .nil)), pss_one (ps_ost (pv 0) (pv 1)), ⟨a, rfl, ha⟩, ?_⟩
    have e1 : (PySem.Str.ofString "wrong stage, in its ").length ≤ 100 := by decide +kernel
    have hz2 := hz.1
    have hz3 : (S z).length ≤ 100 := by rw [S_len]; exact hz2
    refine ⟨_, rfl, sl4 ?_, _, rfl, .inl ⟨S z, rfl, sl4 (by omega), _, rfl, sl4 ?_, ⟨a, rfl, ha⟩, ?_⟩⟩
    · rw [al2, e0l]
      omega
    · rw [al2, al2, e0l]
      omega
    · exact ⟨_, rfl, _, rfl, a, C, rfl, T.oex, hp, .inl ⟨ha, fun dx hd hn => k dx hd hn⟩⟩
theorem ok_hBadStage {f C cc cda : Addr} {dV kV doc pm ct oc : Value} {an od : Option Addr} {osl : Array (Option Value)} (T : SupC P K mg C cc cda) (hp : PySem.W.findIn K (.ref C) "what" = some none)
    (lk : K.lookup f = some ⟨oc, od, .func (PySem.W.ksFn "__init__" "BadStage.__init__" (defArgs sBadStage) (defBody sBadStage) (defScope sBadStage) dV kV doc pm an (.ref cda) ct cc), osl⟩) (hcd : PySem.W.codeIn K (.ref cda) "BadStage.__init__" = true) :
    FnH P w K mg base CX0 1 f (PySem.W.ksFn "__init__" "BadStage.__init__" (defArgs sBadStage) (defBody sBadStage) (defScope sBadStage) dV kV doc pm an (.ref cda) ct cc) ["self", "what"] (spErr C "what") := by
  refine fn_superH (self := "self") (N' := ["what"]) T lk hcd scBadStage rfl rfl rfl rfl (fun _ => rfl) (fun _ => rfl) (fun vs H Q E h => ?_) (fun A outer s H vs Q E p hot hr h => ?_)
  · obtain ⟨a, z, rfl, _⟩ := h
    rfl
  · obtain ⟨a, z, rfl, hz, ha, k⟩ := h
    refine ⟨_, _, pe_joined (.cons pe_str (.cons (pe_fmt (pv 1)) .nil)), pss_one (ps_ost (pv 0) (pv 1)), ⟨a, rfl, ha⟩, ?_⟩
    have e1 : (PySem.Str.ofString "wrong stage, in its ").length ≤ 100 := by decide +kernel
    have hz2 := hz.1
    have hz3 : (S z).length ≤ 100 := by rw [S_len]; exact hz2
    refine ⟨_, rfl, sl4 ?_, _, rfl, .inl ⟨S z, rfl, sl4 (by omega), _, rfl, sl4 ?_, ⟨a, rfl, ha⟩, ?_⟩⟩
    · rw [al2, e0l]
      omega
    · rw [al2, al2, e0l]
      omega
    · exact ⟨_, rfl, _, rfl, a, C, rfl, T.oex, hp, .inl ⟨ha, fun dx hd hn => k dx hd hn⟩⟩
def spIsText (C : Addr) : Sp := fun vs H Q _ => ∃ (al : Addr) (l v t : List Nat), vs = [.ref al, .str (S t)] ∧ IsAl C H al l v ∧ t.length ≤ 4000 ∧ ∀ H', Same H H' → Q (.bl (decide (∀ c ∈ t, c ∈ 45 :: srtL l))) H'
theorem scIsText : FnScope ["self", "text", "sign"] ["self", "text"] (defScope sIsText) := ⟨rfl, rfl, rfl, by decide +kernel, rfl, by decide +kernel, by decide +kernel⟩
theorem ok_isText (T : Fns K mg a d) : FnOk P w K mg base CX0 1 a.aIsText d.dIsText ["self", "text"] (spIsText a.cAlphabet) := by
  have hcl := T.clA
  have hnS := T.nS
  refine T.FIsText.ok scIsText (fun vs H Q E h => ?_) (fun cdv A0 outer s H vs Q E hr h => ?_)
  · obtain ⟨al, l, v, t, rfl, _⟩ := h
    rfl
  · obtain ⟨al, l, v, t, rfl, ⟨dx, hal⟩, ht, k⟩ := h
    refine ⟨_, ((pss_one (ps_ret (pe_callB (cr_all rfl) (by rfl) T.z_all (by decide +kernel) (pa_cons (pe_lc (own := [("sign", 2)]) (g := gName 2) (by rfl) scIsText.nd (pi_str (pv 1)) (blkOk_by (own := [("sign", 2)]) (N := ["self", "text", "sign"]) (sc := defScope sIsText) (by decide +kernel)) (fun _ _ _ _ _ => pg_name (i := 2) scIsText.nd rfl (Or.inl rfl)) (fun _ _ _ _ _ => pts_nil) (fun _ _ _ _ _ => (pe_cmpR op_inS (pv 2) (pe_fldK (K := K) (by rfl) (pv 0) (by rfl)) rfl))) pa_nil))))), ?_⟩
    refine ⟨_, rfl, _, rfl, fun D hD => lc_text (fun _ => true) (fun c => V.bl (decide (c ∈ 45 :: srtL l))) (by omega) (fun _ => rfl) (fun _ _ _ _ _ q => q) (fun c hc _ H2 Q2 off q => ?_) ?_⟩
    · have hal2 : H2 al = some (.ins a.cAlphabet dx (alF l v)) := (off al (ne_of_none hal hD)).trans hal
      exact ⟨_, rfl, _, rfl, al, a.cAlphabet, dx, _, _, rfl, hal2, hcl, hnS, rfl, c, 45 :: srtL l, rfl, rfl, by simpa using q⟩
    · refine ⟨D, t.map (fun c => decide (c ∈ 45 :: srtL l)), rfl, ?_, ?_⟩
      · rw [List.map_map]
        refine SqL.of ?_
        rw [upd_same, List.filter_eq_self.mpr (fun _ _ => rfl)]
        rfl
      · have e3 : (t.map fun c => decide (c ∈ 45 :: srtL l)).all id = decide (∀ c ∈ t, c ∈ 45 :: srtL l) := by
          rw [Bool.eq_iff_iff]
          simp
        rw [e3]
        exact k _ (upd_laid hD)
def spCheck (C BT : Addr) : Sp := fun vs H Q E => ∃ (al : Addr) (l v t : List Nat), vs = [.ref al, .str (S t)] ∧ IsAl C H al l v ∧ Tx t ∧ ((∀ c ∈ t, c ∈ 45 :: srtL l) → ∀ H', Same H H' → Q .non H') ∧
  ((¬ ∀ c ∈ t, c ∈ 45 :: srtL l) → ∀ dd H', H dd = none → H' dd = some (.xd [("text", .str (S t))]) → Same H H' → E (.ref BT) (some dd) H')
theorem scCheck : FnScope ["self", "text"] ["self", "text"] (defScope sCheck) := ⟨rfl, rfl, rfl, by decide +kernel, rfl, by decide +kernel, by decide +kernel⟩
theorem ok_check (T : Fns K mg a d) (GBadText : FnOk P w K mg base CX0 1 a.eBadText d.eBadText ["self", "text"] (spErr a.cBadText "text")) : FnOk P w K mg base (L2.CX P w) 3 a.aCheck d.dCheck ["self", "text"] (spCheck a.cAlphabet a.cBadText) := by
  have GIsText : FnOk P w K mg base CX0 1 a.aIsText d.dIsText ["self", "text"] (spIsText a.cAlphabet) := ok_isText T
  refine T.FCheck.okX scCheck (fun vs H Q E h => ?_) (fun cdv A0 outer s H vs Q E hr h => ?_)
  · obtain ⟨al, l, v, t, rfl, _⟩ := h
    rfl
  · obtain ⟨al, l, v, t, rfl, hal, htx, k1, k2⟩ := h
    obtain ⟨dxa, hal2⟩ := id hal
    refine ⟨_, ((pss_one (ps_if (pt_not (pt_val (pe_meth (pv 0) T.clA T.mIsText GIsText (hr.mono (by decide)) T.bIsText .nil pass0 (pa_cons (pv 1) pa_nil)))) (pss_one (ps_raise rfl (takes_of rfl rfl rfl rfl) (pmk_oex T.xBadText.ox T.xBadText.iC T.xBadText.tI GBadText (hr.mono (by decide)) T.xBadText.bB .nil pass0 (by rfl) T.xBadText.gB (pa_cons (pv 1) pa_nil)))) pss_nil))), ?_⟩
    have ht := htx.1
    walk_at "go"
    refine ⟨al, l, v, t, rfl, hal, by omega, fun H' s1 => ?_⟩
    by_cases hv : ∀ c ∈ t, c ∈ 45 :: srtL l
    · rw [decide_eq_true hv]
      walk_at "go"
      exact k1 hv _ s1
    · rw [decide_eq_false hv]
      walk_at "go"
      exact ⟨_, rfl, by show 1 ≤ 1000; decide, fun b hb => ⟨b, t, rfl, htx, upd_same, raise1 hb s1 fun dd H' h1 h2 h3 => k2 hv dd H' h1 h2 h3⟩⟩
end
end
section
set_option Elab.async false
set_option linter.all false
set_option maxRecDepth 100000
set_option maxHeartbeats 2000000
open PySem PySem.Spec PyProof.Rows L2

local macro_rules | `(tactic| walk_at "side") => `(tactic| exact .inl (by assumption))

theorem dp_all {K : PySem.W.Frag} {H : Hp} : ∀ ys : List Str, DpAll K H (ys.map V.str) (ys.map PyData.str)
  | [] => .nil
  | y :: ys => .cons (.str y) (dp_all ys)
theorem dp_strs {K : PySem.W.Frag} {H : Hp} {a : Addr} {ys : List Str} (h : SqL K H a (ys.map V.str)) : Dp K H (.ref a) (.list (ys.map PyData.str)) := .lst h (dp_all ys)
theorem can_strs : ∀ ys : List Str, (∀ y ∈ ys, PyData.strOk y = true) → PyData.canLayAll0 (ys.map PyData.str) = true
  | [], _ => by simp [PyData.canLayAll0]
  | y :: r, h => by
    have h1 := h y List.mem_cons_self
    have h2 := can_strs r fun z hz => h z (List.mem_cons_of_mem _ hz)
    simp [PyData.canLayAll0, PyData.canLay0, h1, h2]
theorem dep_strs : ∀ ys : List Str, PyData.depthAll (ys.map PyData.str) = 0
  | [] => by simp [PyData.depthAll]
  | _ :: r => by simp [PyData.depthAll, PyData.depth, dep_strs r]
theorem shaped_strs {ys : List Str} (h : ∀ y ∈ ys, PyData.strOk y = true) : SeqAt.shaped (.list (ys.map PyData.str)) = true := by
  simp [SeqAt.shaped, PyData.canLay0, PyData.depth, can_strs ys h, dep_strs]
theorem eqv_strs (ys zs : List Str) : PyData.eqv (.list (ys.map PyData.str)) (.list (zs.map PyData.str)) = decide (ys = zs) := PySem.W.Datum.eqv (α := List Str) ys zs
theorem ok_S {l : List Nat} (h : ∀ c ∈ l, c < 0x110000) : PyData.strOk (S l) = true := by
  show l.toArray.all (fun c => decide (c < 0x110000)) = true
  simp
  exact h
theorem map_S_inj {a b : List Nat} : (a.map fun c => S [c]) = (b.map fun c => S [c]) ↔ a = b := by
  refine ⟨fun e => ?_, fun e => by rw [e]⟩
  have := congrArg (List.map fun z : Str => z.cps.toList.headD 0) e
  rw [List.map_map, List.map_map] at this
  have e1 : ∀ q : List Nat, q.map ((fun z : Str => z.cps.toList.headD 0) ∘ fun c => S [c]) = q := fun q => by
    refine (List.map_congr_left fun c _ => ?_).trans (List.map_id q)
    show (S [c]).cps.toList.headD 0 = c
    rw [S_cps]
    rfl
  rw [e1, e1] at this
  exact this
/-! signs in order, one sign -/
def ascB (sg t : List Nat) : Bool := decide (Differ t sg) && decide (t = srtL t)
def signB (sg t : List Nat) : Bool := match t with
  | [c] => decide (c ∈ sg)
  | _ => false
def setOf (l v nm : List Nat) : Option (List Nat) :=
  if nm = nmAll then some (45 :: srtL l) else if nm = nmLet then some (srtL l) else if nm = nmVow then some (srtL v) else if nm = nmCon then some (consL l v) else if nm = nmJoi then some [45]
  else if mid nm = [] ∨ nm ≠ [91] ++ mid nm ++ [93] ∨ ascB (45 :: srtL l) (mid nm) = false then none else some (mid nm)
section
variable {P : Program} {w : World} {K : PySem.W.Frag} {mg : Str → Option Value} {base : Heap} {a : Ad} {d : Fd}
def spAsc (C : Addr) : Sp := fun vs H Q _ => ∃ (al : Addr) (l v t : List Nat), vs = [.ref al, .str (S t)] ∧ IsAl C H al l v ∧ t.length ≤ 60 ∧ (∀ c ∈ t, c < 0x110000) ∧ ∀ H', Same H H' → Q (.bl (ascB (45 :: srtL l) t)) H'
theorem scAsc : FnScope ["self", "text"] ["self", "text"] (defScope sAsc) := ⟨rfl, rfl, rfl, by decide +kernel, rfl, by decide +kernel, by decide +kernel⟩
theorem ok_asc (T : Fns K mg a d) : FnOk P w K mg base CX0 2 a.aAsc d.dAsc ["self", "text"] (spAsc a.cAlphabet) := by
  have hcl := T.clA
  have hnS := T.nS
  have GDiff : FnOk P w K mg base CX0 1 a.aDiff d.dDiff ["text", "allowed"] spDiff := ok_diff T.FDiff T.toTxA
  refine T.FAsc.ok scAsc (fun vs H Q E h => ?_) (fun cdv A0 outer s H vs Q E hr h => ?_)
  · obtain ⟨al, l, v, t, rfl, _⟩ := h
    rfl
  · obtain ⟨al, l, v, t, rfl, ⟨dx, hal⟩, ht, htc, k⟩ := h
    have hal1 : H al = some (.ins a.cAlphabet dx [("letters", .str (S (srtL l))), ("vowels", .str (S (srtL v))), ("consonants", .str (S (consL l v))), ("signs", .str (S (45 :: srtL l)))]) := hal
    refine ⟨_, ((pss_one (ps_ret (pe_and (pe_call GDiff (hr.mono (by decide)) (by rfl) T.gDiff T.FDiff.kp T.bDiff .nil pass0 (pa_cons (pv 1) (pa_cons (pe_fld (pv 0) rfl) pa_nil))) (pe_one (pe_cmpR (op_eqD hr.units) (pe_callTy (call_listT rfl) (by rfl) T.z_list (by decide +kernel) (pa_cons (pv 1) pa_nil)) (pe_callB (cr_sortT rfl) (by rfl) T.z_sorted (by decide +kernel) (pa_cons (pv 1) pa_nil)) (nomark _))))))), ?_⟩
    walk_at "go"
    refine ⟨t, 45 :: srtL l, rfl, by omega, fun H1 s1 => ?_⟩
    unfold ascB at k
    by_cases hd : Differ t (45 :: srtL l)
    · rw [decide_eq_true hd] at k ⊢
      rw [Bool.true_and] at k
      walk_at "go"
      rename_i p1 hp1
      refine ⟨S t, rfl, (by rw [S_len]; omega), fun ys p2 hp hs n2 => ?_⟩
      rw [signs_S] at hp
      have ey := sorted_signs hp hs
      subst ey
      refine ⟨.list ((t.map fun c => S [c]).map PyData.str), .list (((srtL t).map fun c => S [c]).map PyData.str), dp_strs (SqL.of (upd_old n2 (by rw [upd_same, List.map_map]; rfl))), dp_strs (SqL.of upd_same), shaped_strs ?_, shaped_strs ?_, ?_⟩
      · intro y hy
        obtain ⟨c, hc, rfl⟩ := List.mem_map.mp hy
        exact ok_S (fun z hz => by rw [List.mem_singleton] at hz; rw [hz]; exact htc c hc)
      · intro y hy
        obtain ⟨c, hc, rfl⟩ := List.mem_map.mp hy
        exact ok_S (fun z hz => by rw [List.mem_singleton] at hz; rw [hz]; exact htc c (srtL_mem.mp hc))
      · rw [eqv_strs, decide_eq_decide.mpr map_S_inj]
        exact k _ (Vk.Same.trans s1 (Vk.Same.trans (Same.upd_new hp1) (Same.upd_new n2)))
    · rw [decide_eq_false hd] at k ⊢
      rw [Bool.false_and] at k
      walk_at "go"
      exact k _ s1
def spIsSign (C : Addr) : Sp := fun vs H Q _ => ∃ (al : Addr) (l v t : List Nat), vs = [.ref al, .str (S t)] ∧ IsAl C H al l v ∧ t.length ≤ 100 ∧ Q (.bl (signB (45 :: srtL l) t)) H
theorem scIsSign : FnScope ["self", "text"] ["self", "text"] (defScope sIsSign) := ⟨rfl, rfl, rfl, by decide +kernel, rfl, by decide +kernel, by decide +kernel⟩
theorem ok_isSign (T : Fns K mg a d) : FnOk P w K mg base CX0 1 a.aIsSign d.dIsSign ["self", "text"] (spIsSign a.cAlphabet) := by
  have hcl := T.clA
  have hnS := T.nS
  refine T.FIsSign.ok scIsSign (fun vs H Q E h => ?_) (fun cdv A0 outer s H vs Q E hr h => ?_)
  · obtain ⟨al, l, v, t, rfl, _⟩ := h
    rfl
  · obtain ⟨al, l, v, t, rfl, ⟨dx, hal⟩, ht, k⟩ := h
    have hal1 : H al = some (.ins a.cAlphabet dx [("letters", .str (S (srtL l))), ("vowels", .str (S (srtL v))), ("consonants", .str (S (consL l v))), ("signs", .str (S (45 :: srtL l)))]) := hal
    refine ⟨_, ((pss_one (ps_ret (pe_and (pe_cmpR op_eq (pe_callB call_lenS (by rfl) T.z_len (by decide +kernel) (pa_cons (pv 1) pa_nil)) pe_int (nomark _)) (pe_one (pe_cmpR op_inS (pv 1) (pe_fld (pv 0) rfl) rfl)))))), ?_⟩
    generalize hsg : 45 :: srtL l = sg at k hal1
    rcases t with _ | ⟨c, _ | ⟨c2, r⟩⟩
    · walk_at "go"
      exact k
    · walk_at "go"
      exact k
    · walk_at "go"
      exact k
def spCheckSign (C BS : Addr) : Sp := fun vs H Q E => ∃ (al : Addr) (l v t : List Nat), vs = [.ref al, .str (S t)] ∧ IsAl C H al l v ∧ t.length ≤ 100 ∧ (signB (45 :: srtL l) t = true → ∀ H', Same H H' → Q .non H') ∧
  (signB (45 :: srtL l) t = false → ∀ dd H', H dd = none → H' dd = some (.xd [("what", .str (S [115, 105, 103, 110]))]) → Same H H' → E (.ref BS) (some dd) H')
theorem scPCheckSign : FnScope ["alphabet", "sign"] ["alphabet", "sign"] (defScope sPCheckSign) := ⟨rfl, rfl, rfl, by decide +kernel, rfl, by decide +kernel, by decide +kernel⟩
theorem ok_checkSign (T : Fns K mg a d) (GBadStage : FnOk P w K mg base CX0 1 a.eBadStage d.eBadStage ["self", "what"] (spErr a.cBadStage "what")) : FnOk P w K mg base (L2.CX P w) 3 a.aPCheckSign d.dPCheckSign ["alphabet", "sign"] (spCheckSign a.cAlphabet a.cBadStage) := by
  have GIsSign : FnOk P w K mg base CX0 1 a.aIsSign d.dIsSign ["self", "text"] (spIsSign a.cAlphabet) := ok_isSign T
  refine T.FPCheckSign.okX scPCheckSign (fun vs H Q E h => ?_) (fun cdv A0 outer s H vs Q E hr h => ?_)
  · obtain ⟨al, l, v, t, rfl, _⟩ := h
    rfl
  · obtain ⟨al, l, v, t, rfl, hal, ht, k1, k2⟩ := h
    obtain ⟨dxa, hal2⟩ := id hal
    refine ⟨_, ((pss_one (ps_if (pt_not (pt_val (pe_meth (pv 0) T.clA T.mIsSign GIsSign (hr.mono (by decide)) T.bIsSign .nil pass0 (pa_cons (pv 1) pa_nil)))) (pss_one (ps_raise rfl (takes_of rfl rfl rfl rfl) (pmk_oex T.xBadStage.ox T.xBadStage.iC T.xBadStage.tI GBadStage (hr.mono (by decide)) T.xBadStage.bB .nil pass0 (by rfl) T.xBadStage.gB (pa_cons (pe_strS (l := [115, 105, 103, 110]) (by decide +kernel)) pa_nil)))) pss_nil))), ?_⟩
    walk_at "go"
    refine ⟨al, l, v, t, rfl, hal, ht, ?_⟩
    cases hv : signB (45 :: srtL l) t with
    | true =>
      walk_at "go"
      exact k1 hv _ (Same.refl _)
    | false =>
      walk_at "go"
      exact ⟨by show 1 ≤ 1000; decide, fun b hb => ⟨b, [115, 105, 103, 110], rfl, ⟨by decide, by decide⟩, upd_same, raise1 hb (Same.refl H) fun dd H' h1 h2 h3 => k2 hv dd H' h1 h2 h3⟩⟩
end
end
section
set_option Elab.async false
set_option linter.all false
set_option maxRecDepth 100000
set_option maxHeartbeats 2000000
open PySem PySem.Spec PyProof.Rows L2

local macro_rules | `(tactic| walk_at "side") => `(tactic| exact .inl (by assumption))
theorem iSlMidN {l : List Nat} {H : Hp} {Q : VK} (hz : l.length ≤ 100000) (h : Q (.str (S (mid l))) H) : rSlS (.str (S l)) (some 1) (some (-1)) H Q := iSlS hz (by rw [cut_mid]; exact h)
local macro_rules | `(tactic| walk_at "go1") => `(tactic| ((with_reducible apply iSlMidN); walk_at "num"))
theorem br_str (li : List Nat) : (((Str.empty ++ PySem.Str.ofString "[") ++ S li) ++ PySem.Str.ofString "]") = S ([91] ++ li ++ [93]) := by
  rw [show PySem.Str.ofString "[" = S [91] by decide +kernel, show PySem.Str.ofString "]" = S [93] by decide +kernel, show Str.empty = S [] by decide +kernel, S_app, S_app, S_app]
  rfl
section
variable {P : Program} {w : World} {K : PySem.W.Frag} {mg : Str → Option Value} {base : Heap} {a : Ad} {d : Fd}
def namedK (l v : List Nat) : List (Key × V) := [(.inr (S nmAll), .str (S (45 :: srtL l))), (.inr (S nmLet), .str (S (srtL l))), (.inr (S nmVow), .str (S (srtL v))), (.inr (S nmCon), .str (S (consL l v))), (.inr (S nmJoi), .str (S [45]))]
theorem putK_new {kvs : List (Key × V)} {k : Key} {v : V} (h : k ∉ kvs.map (·.1)) : putK kvs k v = kvs ++ [(k, v)] := by
  unfold putK
  rw [if_neg]
  intro hh
  rw [List.any_eq_true] at hh
  obtain ⟨p, hp, e⟩ := hh
  exact h (List.mem_map.mpr ⟨p, hp, of_decide_eq_true e⟩)
theorem merge_new : ∀ (more acc : List (Key × V)), ((acc ++ more).map (·.1)).Nodup → mergeK acc more = acc ++ more
  | [], acc, _ => by
    show acc = _
    rw [List.append_nil]
  | p :: r, acc, h => by
    have e1 : mergeK acc (p :: r) = mergeK (putK acc p.1 p.2) r := rfl
    have hp : p.1 ∉ acc.map (·.1) := by
      rw [List.map_append, List.nodup_append] at h
      intro hm
      exact h.2.2 _ hm _ (by simp) rfl
    have e2 : acc ++ p :: r = (acc ++ [p]) ++ r := by simp
    rw [e1, putK_new hp, e2]
    exact merge_new r (acc ++ [p]) (by rw [← e2]; exact h)
theorem named_merge (l v : List Nat) : mergeK [] (namedK l v) = namedK l v := by
  refine merge_new _ _ ?_
  show ([.inr (S nmAll), .inr (S nmLet), .inr (S nmVow), .inr (S nmCon), .inr (S nmJoi)] : List Key).Nodup
  decide +kernel
def named? (l v nm : List Nat) : Option (List Nat) := if nm = nmAll then some (45 :: srtL l) else if nm = nmLet then some (srtL l) else if nm = nmVow then some (srtL v) else if nm = nmCon then some (consL l v) else if nm = nmJoi then some [45] else none
theorem named_val (l v nm : List Nat) : valV (namedK l v) (.inr (S nm)) = (named? l v nm).map fun m => V.str (S m) := by
  have no : ∀ {m : List Nat}, ¬ nm = m → (Sum.inr (S m) : Key) ≠ .inr (S nm) := fun h e => h (S_inj.mp (Sum.inr.inj e)).symm
  unfold namedK named?
  by_cases h1 : nm = nmAll
  · rw [if_pos h1, h1, valV_pos rfl]
    rfl
  rw [if_neg h1, valV_neg (no h1)]
  by_cases h2 : nm = nmLet
  · rw [if_pos h2, h2, valV_pos rfl]
    rfl
  rw [if_neg h2, valV_neg (no h2)]
  by_cases h3 : nm = nmVow
  · rw [if_pos h3, h3, valV_pos rfl]
    rfl
  rw [if_neg h3, valV_neg (no h3)]
  by_cases h4 : nm = nmCon
  · rw [if_pos h4, h4, valV_pos rfl]
    rfl
  rw [if_neg h4, valV_neg (no h4)]
  by_cases h5 : nm = nmJoi
  · rw [if_pos h5, h5, valV_pos rfl]
    rfl
  rw [if_neg h5, valV_neg (no h5)]
  rfl
theorem setOf_eq (l v nm : List Nat) : setOf l v nm = match named? l v nm with
    | some m => some m
    | none => if mid nm = [] ∨ nm ≠ [91] ++ mid nm ++ [93] ∨ ascB (45 :: srtL l) (mid nm) = false then none else some (mid nm) := by
  unfold setOf named?
  by_cases h1 : nm = nmAll
  · rw [if_pos h1, if_pos h1]
  rw [if_neg h1, if_neg h1]
  by_cases h2 : nm = nmLet
  · rw [if_pos h2, if_pos h2]
  rw [if_neg h2, if_neg h2]
  by_cases h3 : nm = nmVow
  · rw [if_pos h3, if_pos h3]
  rw [if_neg h3, if_neg h3]
  by_cases h4 : nm = nmCon
  · rw [if_pos h4, if_pos h4]
  rw [if_neg h4, if_neg h4]
  by_cases h5 : nm = nmJoi
  · rw [if_pos h5, if_pos h5]
  rw [if_neg h5, if_neg h5]
def spSignsOf (C BS : Addr) : Sp := fun vs H Q E => ∃ (al : Addr) (l v nm : List Nat), vs = [.ref al, .str (S nm)] ∧ IsAl C H al l v ∧ nm.length ≤ 60 ∧ (∀ c ∈ nm, c < 0x110000) ∧ (∀ ms, setOf l v nm = some ms → ∀ H', Same H H' → Q (.str (S ms)) H') ∧
  (setOf l v nm = none → ∀ dd H', H dd = none → H' dd = some (.xd [("name", .str (S nm))]) → Same H H' → E (.ref BS) (some dd) H')
theorem scSignsOf : FnScope ["self", "name", "named", "listed"] ["self", "name"] (defScope sSignsOf) := ⟨rfl, rfl, rfl, by decide +kernel, rfl, by decide +kernel, by decide +kernel⟩
theorem ok_signsOf {mc : Value} {tm tj tl : Tok} (T : Fns K mg a d) (AV : AlV K mg a.cAlphabet mc tm tj tl) (GBadSet : FnOk P w K mg base CX0 1 a.eBadSet d.eBadSet ["self", "name"] (spErr a.cBadSet "name")) : FnOk P w K mg base (L2N.CX P w) 4 a.aSignsOf d.dSignsOf ["self", "name"] (spSignsOf a.cAlphabet a.cBadSet) := by
  have hcl := T.clA
  have hnL := T.nL
  have hnV := T.nV
  have hnC := T.nC
  have hnS := T.nS
  have GAsc : FnOk P w K mg base CX0 2 a.aAsc d.dAsc ["self", "text"] (spAsc a.cAlphabet) := ok_asc T
  refine okN T.FSignsOf scSignsOf (fun vs H Q E h => ?_) (fun cdv A0 outer s H vs Q E hr h => ?_)
  · obtain ⟨al, l, v, nm, rfl, _⟩ := h
    rfl
  · obtain ⟨al, l, v, nm, rfl, hal0, hnl, hnc, k1, k2⟩ := h
    obtain ⟨dx, hal⟩ := id hal0
    have hal1 : H al = some (.ins a.cAlphabet dx [("letters", .str (S (srtL l))), ("vowels", .str (S (srtL v))), ("consonants", .str (S (consL l v))), ("signs", .str (S (45 :: srtL l)))]) := hal
    refine ⟨_, (pss_cons (ps_set (i := 2) scSignsOf.nd rfl (Or.inl rfl) (pe_disp (pps_cons (pe_strS (l := nmAll) (by decide +kernel)) (pe_fld (pv 0) rfl) (pps_cons (pe_strS (l := nmLet) (by decide +kernel)) (pe_fld (pv 0) rfl) (pps_cons (pe_strS (l := nmVow) (by decide +kernel)) (pe_fld (pv 0) rfl) (pps_cons (pe_strS (l := nmCon) (by decide +kernel)) (pe_fld (pv 0) rfl) (pps_cons (pe_strS (l := nmJoi) (by decide +kernel)) (ClX.pe_cval (pe_glob (v := .ref a.cAlphabet) (by rfl) AV.gC rfl)) pps_nil))))) (by rfl) (by rfl) (fun z => by cases z) (by decide)))
      (pss_cons (ps_if (pt_cmp (pc_din (hu_of hr) (pv 1) (pv 2))) (pss_one (ps_ret (pe_dget (hu_of hr) (pv 2) (pv 1) (fun _ _ => rfl)))) pss_nil)
      (pss_cons (ps_set (i := 3) scSignsOf.nd rfl (Or.inl rfl) (pe_slice sl_str (pv 1) (po_some pe_int) (po_some (pe_un un_neg pe_int))))
      (pss_cons (ps_if (PW.pt (pw_or (pt_cmpR op_eq (pv 3) (pe_strS (l := []) (by decide +kernel)) (nomark _)) (pw_or (pt_cmpR op_ne (pv 1) (pe_joined (.cons pe_str (.cons (pe_fmt (pv 3)) (.cons pe_str .nil)))) (nomark _)) (pw_or1 (pt_not (pt_val (pe_meth (pv 0) T.clA T.mAsc GAsc (hr.mono (by decide)) T.bAsc .nil pass0 (pa_cons (pv 3) pa_nil)))))))) (pss_one (L2N.ps_raise rfl (L2N.takes_of rfl rfl rfl rfl) (pmk_oexN T.xBadSet.ox T.xBadSet.iC T.xBadSet.tI GBadSet (hr.mono (by decide)) T.xBadSet.bB pass0 (by rfl) T.xBadSet.gB (pa_cons (pv 1) pa_nil)))) pss_nil)
      (pss_one (ps_ret (pv 3))))))), ?_⟩
    refine iSeq ?_
    refine iAsg ?_
    intro q hq
    have hsame : Same H (upd H q (.dK [])) := Same.upd_new hq
    have hal2 : (upd H q (.dK [])) al = some (.ins a.cAlphabet dx [("letters", .str (S (srtL l))), ("vowels", .str (S (srtL v))), ("consonants", .str (S (consL l v))), ("signs", .str (S (45 :: srtL l)))]) := hsame _ _ hal1
    have e45 : PySem.Str.ofString "-" = S [45] := by decide +kernel
    refine ⟨_, rfl, al, a.cAlphabet, dx, _, _, rfl, hal2, hcl, hnS, rfl, _, rfl, al, a.cAlphabet, dx, _, _, rfl, hal2, hcl, hnL, rfl, _, rfl, al, a.cAlphabet, dx, _, _, rfl, hal2, hcl, hnV, rfl, _, rfl, al, a.cAlphabet, dx, _, _, rfl, hal2, hcl, hnC, rfl, a.cAlphabet, mc, _, _, rfl, AV.rd, AV.joint, upd_same, namedK l v, by rw [e45]; rfl, by show 5 ≤ 15; decide, ?_⟩
    rw [named_merge]
    have hq1 : (upd (upd H q (.dK [])) q (.dK (namedK l v))) q = some (.dK (namedK l v)) := upd_same
    have s1 : Same H (upd (upd H q (.dK [])) q (.dK (namedK l v))) := (Fr.forget1 (D := q) (Fr.trans Fr.in0 Fr.in0) hq)
    generalize upd (upd H q (.dK [])) q (.dK (namedK l v)) = H1 at hq1 s1
    have hal3 := s1 _ _ hal1
    have hg : DGet H1 q (.str (S nm)) (valV (namedK l v) (.inr (S nm))) := DGet.k (k := Sum.inr (S nm)) hq1
    rw [named_val] at hg
    have hse := setOf_eq l v nm
    walk_at "go"
    refine ⟨_, rfl, _, rfl, q, _, rfl, hg, _, rfl, ?_⟩
    cases hn : named? l v nm with
    | some m =>
      rw [hn] at hg hse
      exact iteT ⟨_, rfl, _, rfl, q, _, rfl, hg, k1 m hse _ s1⟩
    | none =>
      rw [hn] at hg hse
      refine iteF ?_
      have hml := mid_len nm
      have hmc : ∀ c ∈ mid nm, c < 0x110000 := fun c hc => hnc c (List.mem_of_mem_take (List.mem_of_mem_drop hc))
      have hno : (mid nm = [] ∨ nm ≠ [91] ++ mid nm ++ [93] ∨ ascB (45 :: srtL l) (mid nm) = false) → tMkO a.cBadSet (spErr a.cBadSet "name") [] (tCons (tVar 1) tNil) [some (.ref al), some (.str (S nm)), some (.ref q), some (.str (S (mid nm)))] H1 (fun cls d H' => E cls d H') := fun h =>
        ⟨_, rfl, by show 1 ≤ 1000; decide, fun b hb => ⟨b, nm, rfl, ⟨by omega, hnc⟩, upd_same, raise1 hb s1 fun dd H' h1 h2 h3 => k2 (by rw [hse, if_pos h]) dd H' h1 h2 h3⟩⟩
      walk_at "go"
      · rename_i hm0
        exact hno (.inl hm0)
      · rename_i hm0
        have hml2 : (S (mid nm)).length ≤ 100 := by rw [S_len]; omega
        have b1 : (PySem.Str.ofString "[").length = 1 := by decide +kernel
        have b2 : (PySem.Str.ofString "]").length = 1 := by decide +kernel
        refine ⟨_, rfl, sl4 (by rw [al2, b1, e0l]; omega), _, rfl, .inl ⟨S (mid nm), rfl, sl4 (by omega), _, rfl, sl4 (by rw [al2, al2, b1, e0l]; omega), _, rfl, sl4 (by rw [al2, al2, al2, b1, b2, e0l]; omega), ?_⟩⟩
        rw [br_str]
        unfold tJs
        dsimp only
        walk_at "go"
        · rename_i hne
          exact hno (.inr (.inl hne))
        · rename_i heq
          refine ⟨al, l, v, mid nm, rfl, hal0.same s1, by omega, hmc, fun H2 s2 => ?_⟩
          cases ha : ascB (45 :: srtL l) (mid nm) with
          | false =>
            walk_at "go"
            exact ⟨_, rfl, by show 1 ≤ 1000; decide, fun b hb => ⟨b, nm, rfl, ⟨by omega, hnc⟩, upd_same, raise1 hb (Vk.Same.trans s1 s2) fun dd H' h1 h2 h3 => k2 (by rw [hse, if_pos (.inr (.inr ha))]) dd H' h1 h2 h3⟩⟩
          | true =>
            walk_at "go"
            exact k1 (mid nm) (by rw [hse, if_neg (by
              rintro (h | h | h)
              · exact hm0 h
              · exact h heq
              · rw [ha] at h
                cases h)]) _ (Vk.Same.trans s1 s2)
end
end
section
set_option Elab.async false
set_option linter.all false
set_option maxRecDepth 100000
set_option maxHeartbeats 2000000
open PySem PySem.Spec PyProof.Rows L2 L2H

local macro_rules | `(tactic| walk_at "side") => `(tactic| exact .inl (by assumption))
section
variable {P : Program} {w : World} {K : PySem.W.Frag} {mg : Str → Option Value} {base : Heap} {a : Ad} {d : Fd}
def spSetOf (C BS : Addr) : Sp := fun vs H Q E => ∃ (al : Addr) (l v nm : List Nat), vs = [.ref al, .str (S nm)] ∧ IsAl C H al l v ∧ nm.length ≤ 60 ∧ (∀ c ∈ nm, c < 0x110000) ∧ (∀ ms, setOf l v nm = some ms → ∀ H', Same H H' → Q (.str (S ms)) H') ∧
  (setOf l v nm = none → ∀ dd H', H dd = none → H' dd = some (.xd [("what", .str (S [115, 101, 116]))]) → Same H H' → E (.ref BS) (some dd) H')
/-- what the written part says of a caught error's class, of a handler that names it -/
structure Hnd (K : PySem.W.Frag) (B : Addr) : Prop where
  exm : PySem.W.exmOne K (.ref B) (.ref B) = some true
theorem scPSignsOfSet : FnScope ["alphabet", "name"] ["alphabet", "name"] (defScope sPSignsOfSet) := ⟨rfl, rfl, rfl, by decide +kernel, rfl, by decide +kernel, by decide +kernel⟩
theorem ok_setOf {mc : Value} {tm tj tl : Tok} (T : Fns K mg a d) (AV : AlV K mg a.cAlphabet mc tm tj tl) (hB : Hnd K a.cBadSet) (GBadSet : FnOk P w K mg base CX0 1 a.eBadSet d.eBadSet ["self", "name"] (spErr a.cBadSet "name"))
    (HBadStage : FnH P w K mg base CX0 1 a.eBadStage d.eBadStage ["self", "what"] (spErr a.cBadStage "what")) : FnOk P w K mg base (L2.CX P w) 5 a.aPSignsOfSet d.dPSignsOfSet ["alphabet", "name"] (spSetOf a.cAlphabet a.cBadStage) := by
  have GSignsOf : FnOk P w K mg base (L2N.CX P w) 4 a.aSignsOf d.dSignsOf ["self", "name"] (spSignsOf a.cAlphabet a.cBadSet) := ok_signsOf T AV GBadSet
  refine T.FPSignsOfSet.okX scPSignsOfSet (fun vs H Q E h => ?_) (fun cdv A0 outer s H vs Q E hr h => ?_)
  · obtain ⟨al, l, v, nm, rfl, _⟩ := h
    rfl
  · obtain ⟨al, l, v, nm, rfl, hal, hnl, hnc, k1, k2⟩ := h
    obtain ⟨dxa, hal2⟩ := id hal
    have hal3 : H al = some (.ins a.cAlphabet dxa (alF l v)) := hal2
    have hlk : (alF l v).lookup ("signs_of" : Str) = none := rfl
    refine ⟨_, (pss_one (ps_try_onlyX (tb := fun W => tRet (tMethS a.cAlphabet "signs_of" (spSignsOf a.cAlphabet a.cBadSet) (WE W) (tVar 0) (tCons (tVar 1) tNil))) (ts := fun _ _ _ _ σ H => tMkO a.cBadStage (spErr a.cBadStage "what") [] (tCons (tC (.str (S [115, 101, 116]))) tNil) σ H fun cls d H' => E cls d H') (Wout := fun cls d _ H => E cls d H)
      rfl rfl ⟨rfl, by decide, Or.inl T.xBadSet.gB⟩ (passesAt_of rfl) (takes_of rfl rfl rfl rfl)
      (fun W pn xe tk _ _ => pss_one (ps_ret (pe_methS (pv 0) T.clA T.mSignsOf GSignsOf (hr.mono (by decide)) T.bSignsOf (fun σ => L2N.passAt tk σ) (pa_cons (pv 1) pa_nil))))
      (fun ab oe cls db pn hz hf tk hot => pss_one (ps_raiseHN hot tk (pmk5_oexH T.xBadStage.ox T.xBadStage.iC T.xBadStage.tI HBadStage (roomH_mark (hr.mono (by decide)) _) hot T.xBadStage.bB pass0 (by rfl) T.xBadStage.gB (pa_cons (pe_strS (l := [115, 101, 116]) (by decide +kernel)) pa_nil)))))), ?_⟩
    refine ⟨_, rfl, al, dxa, _, rfl, hal3, hlk, _, rfl, al, l, v, nm, rfl, hal, hnl, hnc, k1, ?_⟩
    intro hn dd H' h1 h2 h3
    exact ⟨true, hB.exm, fun _ ab hab => ⟨by show 1 ≤ 1000; decide, fun b hb => ⟨b, [115, 101, 116], rfl, ⟨by decide, by decide⟩, upd_same, raise1 hb h3 fun dd2 H2 g1 g2 g3 => k2 hn dd2 H2 g1 g2 g3⟩⟩, fun q => nomatch q⟩
end
end
section
set_option Elab.async false
set_option linter.all false
set_option maxRecDepth 100000
set_option maxHeartbeats 2000000
open PySem PySem.Spec PyProof.Rows L2

local macro_rules | `(tactic| walk_at "side") => `(tactic| exact .inl (by assumption))

section
variable {P : Program} {w : World} {K : PySem.W.Frag} {mg : Str → Option Value} {base : Heap} {a : Ad} {d : Fd}
def dK (a : Ad) (i : Nat) : Addr := match i with
  | 0 => a.cDrop
  | _ => a.cLastDrop
/-- the fields of a Drop -/
def fsD (al : Addr) (nm ms : List Nat) (n : Nat) (j : Bool) : List (Str × V) := [("alphabet", .ref al), ("signs", .str (S ms)), ("name", .str (S nm)), ("after", .int (n : Int)), ("each", .bl j)]
structure DKf (K : PySem.W.Frag) (C : Addr) : Prop where
  cl : Cls K C
  al : NoAttr K C "alphabet"
  sg : NoAttr K C "signs"
  nm : NoAttr K C "name"
  af : NoAttr K C "after"
  ea : NoAttr K C "each"
theorem Fns.dk (T : Fns K mg a d) (i : Nat) : DKf K (dK a i) := by
  unfold dK
  split
  · exact ⟨T.clW, T.nWal, T.nWsg, T.nWnm, T.nWaf, T.nWea⟩
  · exact ⟨T.clO, T.nOal, T.nOsg, T.nOnm, T.nOaf, T.nOea⟩
def nextN (n : Nat) (j : Bool) (c b : Nat) : Nat := if j = true ∧ c = 45 then 0 else min (b + 1) n
def spNumAfter (a : Ad) : Sp := fun vs H Q _ => ∃ (i : Nat) (p dx al : Addr) (l v nm ms : List Nat) (n c b : Nat) (j : Bool), vs = [.ref p, .str (S [c]), .int (b : Int)] ∧ H p = some (.ins (dK a i) dx (fsD al nm ms n j)) ∧ IsAl a.cAlphabet H al l v ∧ b ≤ 10 ∧ n ≤ 3 ∧ Q (.int (nextN n j c b : Nat)) H
theorem scPNumberAfter : FnScope ["stage", "sign", "before"] ["stage", "sign", "before"] (defScope sPNumberAfter) := ⟨rfl, rfl, rfl, by decide +kernel, rfl, by decide +kernel, by decide +kernel⟩
theorem ok_numAfter (T : Fns K mg a d) : FnOk P w K mg base CX0 1 a.aPNumberAfter d.dPNumberAfter ["stage", "sign", "before"] (spNumAfter a) := by
  have hclA := T.clA
  have hjo := T.joint
  refine T.FPNumberAfter.ok scPNumberAfter (fun vs H Q E h => ?_) (fun cdv A0 outer s H vs Q E hr h => ?_)
  · obtain ⟨i, p, dx, al, l, v, nm, ms, n, c, b, j, rfl, _⟩ := h
    rfl
  · obtain ⟨i, p, dx, al, l, v, nm, ms, n, c, b, j, rfl, hp, ⟨dxa, hal⟩, hb, hn, k⟩ := h
    obtain ⟨hcl, hal1, hsg1, hnm1, haf1, hea1⟩ := T.dk i
    refine ⟨_, ((pss_cons (ps_if (PW.pt (pw_and (pt_val (pe_fld (pv 0) rfl)) (pw_and1 (pt_cmpR op_eq (pv 1) (pe_con (pe_fld (pv 0) rfl) rfl) (nomark _))))) (pss_one (ps_ret pe_int)) pss_nil)
      (pss_one (ps_ret (pe_callB (call_min2 rfl) (by rfl) T.z_min (by decide +kernel) (pa_cons (pe_op op_add (pv 2) pe_int) (pa_cons (pe_fld (pv 0) rfl) pa_nil))))))), ?_⟩
    have em : (if (n : Int) < (b : Int) + 1 then (n : Int) else (b : Int) + 1) = ((min (b + 1) n : Nat) : Int) := by split <;> omega
    unfold nextN at k
    cases j
    · rw [if_neg (by rintro ⟨h, _⟩; cases h)] at k
      walk_at "go"
      rw [em]
      exact k
    · walk_at "go"
      · rw [if_pos ⟨rfl, by assumption⟩] at k
        exact k
      · rw [if_neg (by rintro ⟨_, h⟩; contradiction)] at k
        rw [em]
        exact k
def dropN (n : Nat) (j : Bool) (ms : List Nat) (c b : Nat) : Bool := if j = true ∧ c = 45 then false else decide (c ∈ ms) && decide (n ≤ b)
def spIsDropped (a : Ad) : Sp := fun vs H Q _ => ∃ (i : Nat) (p dx al : Addr) (l v nm ms : List Nat) (n c b : Nat) (j : Bool), vs = [.ref p, .str (S [c]), .int (b : Int)] ∧ H p = some (.ins (dK a i) dx (fsD al nm ms n j)) ∧ IsAl a.cAlphabet H al l v ∧ b ≤ 10 ∧ n ≤ 3 ∧ Q (.bl (dropN n j ms c b)) H
theorem scPIsDropped : FnScope ["stage", "sign", "before"] ["stage", "sign", "before"] (defScope sPIsDropped) := ⟨rfl, rfl, rfl, by decide +kernel, rfl, by decide +kernel, by decide +kernel⟩
theorem ok_isDropped (T : Fns K mg a d) : FnOk P w K mg base CX0 1 a.aPIsDropped d.dPIsDropped ["stage", "sign", "before"] (spIsDropped a) := by
  have hclA := T.clA
  have hjo := T.joint
  refine T.FPIsDropped.ok scPIsDropped (fun vs H Q E h => ?_) (fun cdv A0 outer s H vs Q E hr h => ?_)
  · obtain ⟨i, p, dx, al, l, v, nm, ms, n, c, b, j, rfl, _⟩ := h
    rfl
  · obtain ⟨i, p, dx, al, l, v, nm, ms, n, c, b, j, rfl, hp, ⟨dxa, hal⟩, hb, hn, k⟩ := h
    obtain ⟨hcl, hal1, hsg1, hnm1, haf1, hea1⟩ := T.dk i
    refine ⟨_, ((pss_cons (ps_if (PW.pt (pw_and (pt_val (pe_fld (pv 0) rfl)) (pw_and1 (pt_cmpR op_eq (pv 1) (pe_con (pe_fld (pv 0) rfl) rfl) (nomark _))))) (pss_one (ps_ret pe_bl)) pss_nil)
      (pss_one (ps_ret (pe_and (pe_cmpR op_inS (pv 1) (pe_fld (pv 0) rfl) rfl) (pe_one (pe_cmpR op_ge (pv 2) (pe_fld (pv 0) rfl) (nomark _)))))))), ?_⟩
    have fin : ∀ x : Bool, dropN n j ms c b = x → Q (.bl x) H := fun x e => by rw [← e]; exact k
    clear k
    unfold dropN at fin
    cases j
    · walk_at "go"
      all_goals
        refine fin _ ?_
        rw [if_neg (by rintro ⟨h, _⟩; cases h)]
        by_cases h1 : c ∈ ms <;> by_cases h2 : n ≤ b <;> first | contradiction | (exfalso; omega) | (simp [h1, h2]; done) | (simp [h1, h2]; omega)
    · walk_at "go"
      all_goals
        refine fin _ ?_
        first
        | (rw [if_pos ⟨rfl, by assumption⟩]; done)
        | (rw [if_neg (by rintro ⟨_, h⟩; contradiction)]; by_cases h1 : c ∈ ms <;> by_cases h2 : n ≤ b <;> first | contradiction | (exfalso; omega) | (simp [h1, h2]; done) | (simp [h1, h2]; omega))
def befL (n : Nat) (j : Bool) (t : List Nat) : Nat → Nat
  | 0 => 0
  | k + 1 => nextN n j (t.getD k 0) (befL n j t k)
theorem befL_le (n : Nat) (j : Bool) (t : List Nat) : ∀ k, befL n j t k ≤ n
  | 0 => Nat.zero_le _
  | k + 1 => by
    unfold befL nextN
    split
    · exact Nat.zero_le _
    · exact Nat.min_le_right _ _
def markL (n : Nat) (j : Bool) (ms t : List Nat) (m : Nat) : List Bool := (List.range m).map fun k => dropN n j ms (t.getD k 0) (befL n j t k)
theorem markL_succ (n : Nat) (j : Bool) (ms t : List Nat) (m : Nat) : markL n j ms t (m + 1) = markL n j ms t m ++ [dropN n j ms (t.getD m 0) (befL n j t m)] := by
  unfold markL
  rw [List.range_succ, List.map_append]
  rfl
theorem markL_len (n : Nat) (j : Bool) (ms t : List Nat) (m : Nat) : (markL n j ms t m).length = m := by
  unfold markL
  rw [List.length_map, List.length_range]
def spMarked (a : Ad) : Sp := fun vs H Q _ => ∃ (i : Nat) (p dx al : Addr) (l v nm ms t : List Nat) (n : Nat) (j : Bool), vs = [.ref p, .str (S t)] ∧ H p = some (.ins (dK a i) dx (fsD al nm ms n j)) ∧ IsAl a.cAlphabet H al l v ∧ n ≤ 3 ∧ t.length ≤ 100 ∧
  ∀ q H', H q = none → H' q = some (.lst ((markL n j ms t t.length).map V.bl)) → Same H H' → Q (.ref q) H'
theorem scPMarked : FnScope ["stage", "text", "drops", "before", "sign"] ["stage", "text"] (defScope sPMarked) := ⟨rfl, rfl, rfl, by decide +kernel, rfl, by decide +kernel, by decide +kernel⟩
theorem ok_marked (T : Fns K mg a d) : FnOk P w K mg base CX0 2 a.aPMarked d.dPMarked ["stage", "text"] (spMarked a) := by
  have GPNumberAfter : FnOk P w K mg base CX0 1 a.aPNumberAfter d.dPNumberAfter ["stage", "sign", "before"] (spNumAfter a) := ok_numAfter T
  have GPIsDropped : FnOk P w K mg base CX0 1 a.aPIsDropped d.dPIsDropped ["stage", "sign", "before"] (spIsDropped a) := ok_isDropped T
  refine T.FPMarked.ok scPMarked (fun vs H Q E h => ?_) (fun cdv A0 outer s H vs Q E hr h => ?_)
  · obtain ⟨i, p, dx, al, l, v, nm, ms, t, n, j, rfl, _⟩ := h
    rfl
  · obtain ⟨i, p, dx, al, l, v, nm, ms, t, n, j, rfl, hp, hal, hn, htl, k⟩ := h
    refine ⟨_, ((pss_cons (ps_set (i := 2) scPMarked.nd rfl (Or.inl rfl) (pe_lst pa_nil))
      (pss_cons (ps_set (i := 3) scPMarked.nd rfl (Or.inl rfl) pe_int)
      (pss_cons (ps_for PassesOwn.never rfl (pi_str (pv 1)) (pg_name (i := 4) scPMarked.nd rfl (Or.inl rfl)) (pss_cons (ps_expr (pe_bm PySem.F.plainAttrs_list PySem.F.slot_list_append PySem.F.type_list_append mt_append (pv 2) (pa_cons (pe_call GPIsDropped (hr.mono (by decide)) (by rfl) T.gPIsDropped T.FPIsDropped.kp T.bPIsDropped .nil pass0 (pa_cons (pv 0) (pa_cons (pv 4) (pa_cons (pv 3) pa_nil)))) pa_nil)))
      (pss_one (ps_set (i := 3) scPMarked.nd rfl (Or.inl rfl) (pe_call GPNumberAfter (hr.mono (by decide)) (by rfl) T.gPNumberAfter T.FPNumberAfter.kp T.bPNumberAfter .nil pass0 (pa_cons (pv 0) (pa_cons (pv 4) (pa_cons (pv 3) pa_nil))))))))
      (pss_one (ps_ret (pv 2))))))), ?_⟩
    walk_at "go"
    rename_i q hq
    refine for_S (l := t) (fun m σ H' => Stop (∃ (v4 : Option V), σ = [some (.ref p), some (.str (S t)), some (.ref q), some (.int (befL n j t m : Int)), v4] ∧ H' q = some (.lst ((markL n j ms t m).map V.bl)) ∧ Fr [q] H H')) ⟨none, rfl, upd_same, Fr.upd_new hq⟩ ?_ ?_
    · rintro m c σ H1 hc ⟨v4, rfl, hq1, f1⟩
      have s1 : Same H H1 := Fr.forget1 f1 hq
      have hm : m < t.length := (List.getElem?_eq_some_iff.mp hc).1
      have hgd : t.getD m 0 = c := by rw [List.getD_eq_getElem?_getD, hc]; rfl
      have hbl := befL_le n j t m
      have hml := markL_len n j ms t m
      walk_at "go"
      refine ⟨i, p, dx, al, l, v, nm, ms, n, c, befL n j t m, j, rfl, s1 _ _ hp, hal.same s1, by omega, hn, ?_⟩
      have hlen : ((markL n j ms t m).map V.bl).length < sizeLine := by
        rw [List.length_map, hml]
        simp only [sizeLine_eq]
        omega
      refine iNil (iAppend hq1 hlen ?_)
      walk_at "go"
      have s2 : Fr [q] H (upd H1 q (.lst ((markL n j ms t m).map V.bl ++ [.bl (dropN n j ms c (befL n j t m))]))) := Fr.trans f1 Fr.in0
      refine ⟨i, p, dx, al, l, v, nm, ms, n, c, befL n j t m, j, rfl, (Fr.forget1 s2 hq) _ _ hp, hal.same (Fr.forget1 s2 hq), by omega, hn, ?_⟩
      walk_at "go"
      refine ⟨some (.str (S [c])), ?_, ?_, s2⟩
      · show _ = [_, _, _, some (V.int (nextN n j (t.getD m 0) (befL n j t m) : Nat)), _]
        rw [hgd]
        rfl
      · rw [upd_same, markL_succ, List.map_append, hgd]
        rfl
    · rintro σ H1 ⟨v4, rfl, hq1, f1⟩
      walk_at "go"
      exact k q H1 hq hq1 (Fr.forget1 f1 hq)
end
end
section
set_option Elab.async false
set_option linter.all false
set_option maxRecDepth 100000
set_option maxHeartbeats 2000000
open PySem PySem.Spec PyProof.Rows L2

local macro_rules | `(tactic| walk_at "side") => `(tactic| exact .inl (by assumption))
def kAfter : List Nat := [97, 102, 116, 101, 114]
theorem kAfter_eq : PySem.Str.ofString "after" = S kAfter := by decide +kernel
theorem put_n0 {y : V} : putF "alphabet" y [] = ([("alphabet", y)] : List (Str × V)) := rfl
theorem put_n1 {a y : V} : putF "signs" y [("alphabet", a)] = ([("alphabet", a), ("signs", y)] : List (Str × V)) := rfl
theorem put_n2 {a b y : V} : putF "name" y [("alphabet", a), ("signs", b)] = ([("alphabet", a), ("signs", b), ("name", y)] : List (Str × V)) := rfl
theorem put_n3 {a b c y : V} : putF "after" y [("alphabet", a), ("signs", b), ("name", c)] = ([("alphabet", a), ("signs", b), ("name", c), ("after", y)] : List (Str × V)) := rfl
theorem put_n4 {a b c e y : V} : putF "each" y [("alphabet", a), ("signs", b), ("name", c), ("after", e)] = ([("alphabet", a), ("signs", b), ("name", c), ("after", e), ("each", y)] : List (Str × V)) := rfl
local macro_rules | `(tactic| walk_at "putq") => `(tactic| first | exact put_n0 | exact put_n1 | exact put_n2 | exact put_n3 | exact put_n4)
theorem IsAl.fr {C al : Addr} {H H' : Hp} {l v : List Nat} {L : List Addr} (h : IsAl C H al l v) (f : Fr L H H') (hx : al ∉ L) : IsAl C H' al l v := by
  obtain ⟨dx, e⟩ := h
  exact ⟨dx, f _ _ hx e⟩
theorem IsAl.ne {C al p : Addr} {H : Hp} {l v : List Nat} (h : IsAl C H al l v) (hp : H p = none) : al ≠ p := by
  obtain ⟨dx, e⟩ := h
  exact ne_of_none e hp
theorem iChainV {σ : L2.St} {H : Hp} {Q : VK} {v : Nat} {i j k : Int} (hv : σ[v]? = some (some (.int j))) (h : Q (.bl (decide (i ≤ j) && decide (j ≤ k))) H) : tChain (rI0 fun i j => V.bl (decide (i ≤ j))) (rI0 fun i j => V.bl (decide (i ≤ j))) (tC (.int i)) (tVar v) (tC (.int k)) σ H Q := by
  refine ⟨_, hv, i, j, rfl, rfl, _, rfl, ?_⟩
  by_cases h1 : i ≤ j
  · rw [decide_eq_true h1, Bool.true_and] at h
    rw [if_pos (decide_eq_true h1)]
    exact ⟨j, k, rfl, rfl, h⟩
  · rw [decide_eq_false h1, Bool.false_and] at h
    rw [if_neg (by rw [decide_eq_false h1]; exact Bool.false_ne_true)]
    exact h
/-- what a Drop is refused for -/
def whatD (n : Int) (l v nm : List Nat) : Option (List Nat) := if setOf l v nm = none then some [115, 101, 116] else if 0 ≤ n ∧ n ≤ 3 then none else some kAfter
section
variable {P : Program} {w : World} {K : PySem.W.Frag} {mg : Str → Option Value} {base : Heap} {a : Ad} {d : Fd}
abbrev sSI : Stmt := inClass (top 13) 0
def spSI (K : PySem.W.Frag) : Sp := fun vs H Q _ => ∃ (p C dx al : Addr), vs = [.ref p, .ref al] ∧ H p = some (.ins C dx []) ∧ Cls K C ∧ NoAttr K C "alphabet" ∧ Q .non (upd H p (.ins C dx [("alphabet", .ref al)]))
theorem scSI : FnScope ["self", "alphabet"] ["self", "alphabet"] (defScope sSI) := ⟨rfl, rfl, rfl, by decide +kernel, rfl, by decide +kernel, by decide +kernel⟩
theorem ok_SI {f : Addr} {fd : FuncData} (F : Fun K "__init__" "Stage.__init__" sSI f fd) : FnOk P w K mg base CX0 1 f fd ["self", "alphabet"] (spSI K) := by
  refine F.ok scSI (fun vs H Q E h => ?_) (fun cdv A0 outer s H vs Q E hr h => ?_)
  · obtain ⟨p, C, dx, al, rfl, _⟩ := h
    rfl
  · obtain ⟨p, C, dx, al, rfl, hp, hc, hn, k⟩ := h
    refine ⟨_, (pss_one (ps_fld (pv 0) (pv 1) rfl)), ?_⟩
    walk_at "go"
    exact k
def spInitD (C CA BS : Addr) : Sp := fun vs H Q E => ∃ (p dx al : Addr) (l v nm : List Nat) (n : Int) (j : Bool), vs = [.ref p, .ref al, .str (S nm), .int n, .bl j] ∧ H p = some (.ins C dx []) ∧ IsAl CA H al l v ∧ al ≠ p ∧ nm.length ≤ 60 ∧ (∀ c ∈ nm, c < 0x110000) ∧
  (whatD n l v nm = none → ∀ ms m, setOf l v nm = some ms → n = (m : Nat) → m ≤ 3 → ∀ H', H' p = some (.ins C dx (fsD al nm ms m j)) → Fr [p] H H' → Q .non H') ∧
  (∀ z, whatD n l v nm = some z → ∀ dd H', H dd = none → H' dd = some (.xd [("what", .str (S z))]) → Fr [p] H H' → E (.ref BS) (some dd) H')
abbrev sDI : Stmt := inClass (top 14) 0
theorem scDI : SScope ["self", "alphabet", "name", "after", "each"] (defScope sDI) := ⟨rfl, rfl, rfl, by decide +kernel, by decide +kernel, by decide +kernel, fun x h => (show ∀ y ∈ (defScope sDI).names, y.2 = .free → y.1 = "__class__" by decide +kernel) _ (PySem.mem_of_lookup h) rfl, by decide +kernel, by decide +kernel⟩
theorem ok_DI {i : Nat} {f cc cda fS : Addr} {dV kV doc pm ct oc mc : Value} {an od : Option Addr} {osl : Array (Option Value)} {fdS : FuncData} {tm tj tl : Tok} (T : Fns K mg a d) (SC : SupP P K mg (dK a i) a.cDrop cc cda "__init__" fS)
    (lk : K.lookup f = some ⟨oc, od, .func (PySem.W.ksFn "__init__" "Drop.__init__" (defArgs sDI) (defBody sDI) (defScope sDI) dV kV doc pm an (.ref cda) ct cc), osl⟩) (hcd : PySem.W.codeIn K (.ref cda) "Drop.__init__" = true)
    (FS : Fun K "__init__" "Stage.__init__" sSI fS fdS) (bS : Binds K fdS ["self", "alphabet"] []) (AV : AlV K mg a.cAlphabet mc tm tj tl) (hB : Hnd K a.cBadSet) (GBadSet : FnOk P w K mg base CX0 1 a.eBadSet d.eBadSet ["self", "name"] (spErr a.cBadSet "name"))
    (HBadStage : L2H.FnH P w K mg base CX0 1 a.eBadStage d.eBadStage ["self", "what"] (spErr a.cBadStage "what")) (GBadStage : FnOk P w K mg base CX0 1 a.eBadStage d.eBadStage ["self", "what"] (spErr a.cBadStage "what")) :
    FnOk P w K mg base (L2.CX P w) 6 f (PySem.W.ksFn "__init__" "Drop.__init__" (defArgs sDI) (defBody sDI) (defScope sDI) dV kV doc pm an (.ref cda) ct cc) ["self", "alphabet", "name", "after", "each"] (spInitD (dK a i) a.cAlphabet a.cBadStage) := by
  have GSetOf := ok_setOf (P := P) (w := w) (base := base) T AV hB GBadSet HBadStage
  have GS : FnOk P w K mg base CX0 1 fS fdS ["self", "alphabet"] (spSI K) := ok_SI FS
  refine fn_superP (self := "self") (N' := ["alphabet", "name", "after", "each"]) SC (by decide) lk hcd scDI rfl rfl rfl rfl (fun _ => rfl) (fun _ => rfl) (fun _ => rfl) (fun _ => rfl) (fun vs H Q E h => ?_) (fun A outer s H vs Q E hr h => ?_)
  · obtain ⟨p, dx, al, l, v, nm, n, j, rfl, _⟩ := h
    rfl
  · obtain ⟨p, dx, al, l, v, nm, n, j, rfl, hp, hal, hap, hnl, hnc, k1, k2⟩ := h
    obtain ⟨hcl, hna, hns, hnn, hnf, hne⟩ := T.dk i
    refine ⟨_, _, _, 1, E0, CX0, (pa_cons (pv 1) pa_nil), (pss_cons (ps_fld (pv 0) (pe_call GSetOf (hr.mono (by decide)) (by rfl) T.gPSignsOfSet T.FPSignsOfSet.kp T.bPSignsOfSet .nil (passes_call (takes_of rfl rfl rfl rfl) (fun _ _ _ _ h => h)) (pa_cons (pv 1) (pa_cons (pv 2) pa_nil))) rfl)
      (pss_cons (ps_if (PW.pt (pw_or (pt_not (pt_val (pe_callB call_isi (by rfl) T.z_isinstance (by decide +kernel) (pa_cons (pv 3) (pa_cons (pe_bltn (v := .ty "int") (by rfl) T.z_int (by decide +kernel) rfl) pa_nil))))) (pw_or (pt_val (pe_callB call_isi (by rfl) T.z_isinstance (by decide +kernel) (pa_cons (pv 3) (pa_cons (pe_bltn (v := .ty "bool") (by rfl) T.z_bool (by decide +kernel) rfl) pa_nil)))) (pw_or1 (pt_not (pt_chain op_le op_le pe_int (pv 3) (pe_glob (v := .int 3) (by rfl) T.gMost ⟨_, rfl⟩))))))) (pss_one (ps_raise rfl (takes_of rfl rfl rfl rfl) (pmk_oex T.xBadStage.ox T.xBadStage.iC T.xBadStage.tI GBadStage (hr.mono (by decide)) T.xBadStage.bB .nil pass0 (by rfl) T.xBadStage.gB (pa_cons (pe_strS (l := kAfter) kAfter_eq) pa_nil)))) pss_nil)
      (pss_cons (ps_fld (pv 0) (pv 2) rfl) (pss_cons (ps_fld (pv 0) (pv 3) rfl) (pss_one (ps_fld (pv 0) (pv 4) rfl)))))), GS.raw bS .nil, hr.mono (by decide), pass0, p, dx, [], rfl, hp, ?_⟩
    refine iSeq ?_
    refine ⟨_, rfl, p, dK a i, dx, al, rfl, hp, hcl, hna, ?_⟩
    have hp1 : (upd H p (.ins (dK a i) dx [("alphabet", .ref al)])) p = some (.ins (dK a i) dx [("alphabet", .ref al)]) := upd_same
    have f1 : Fr [p] H (upd H p (.ins (dK a i) dx [("alphabet", .ref al)])) := Fr.in0
    have hdd : ∀ {y : Addr}, (upd H p (.ins (dK a i) dx [("alphabet", .ref al)])) y = none → H y = none := fun {y} hy => by
      have : y ≠ p := fun e => by
        rw [e, hp1] at hy
        cases hy
      rw [upd_ne this] at hy
      exact hy
    generalize upd H p (.ins (dK a i) dx [("alphabet", .ref al)]) = H1 at hp1 f1 hdd
    have hal1 := hal.fr f1 (by simpa using hap)
    walk_at "go"
    refine ⟨al, l, v, nm, rfl, hal1, hnl, hnc, fun ms hms H3 s3 => ?_, fun hno dd H3 h1 h2 h3 => ?_⟩
    rotate_left
    · exact k2 _ (by unfold whatD; rw [if_pos hno]) dd H3 (hdd h1) h2 (Fr.trans f1 (Fr.of_same h3))
    have hp3 := s3 _ _ hp1
    have f3 := Fr.trans f1 (Fr.of_same s3)
    have hdd : ∀ {y : Addr}, H3 y = none → H y = none := fun {y} hy => hdd (L2.Same.free s3 hy)
    walk_at "go"
    refine iChainV rfl ?_
    have hp4 : (upd H3 p (.ins (dK a i) dx [("alphabet", .ref al), ("signs", .str (S ms))])) p = some (.ins (dK a i) dx [("alphabet", .ref al), ("signs", .str (S ms))]) := upd_same
    have f4 : Fr [p] H (upd H3 p (.ins (dK a i) dx [("alphabet", .ref al), ("signs", .str (S ms))])) := Fr.trans f3 Fr.in0
    have hdd : ∀ {y : Addr}, (upd H3 p (.ins (dK a i) dx [("alphabet", .ref al), ("signs", .str (S ms))])) y = none → H y = none := fun {y} hy => by
      have : y ≠ p := fun e => by
        rw [e, hp4] at hy
        cases hy
      rw [upd_ne this] at hy
      exact hdd hy
    generalize upd H3 p (.ins (dK a i) dx [("alphabet", .ref al), ("signs", .str (S ms))]) = H4 at hp4 f4 hdd ⊢
    by_cases hn : 0 ≤ n ∧ n ≤ 3
    · rw [decide_eq_true hn.1, decide_eq_true hn.2]
      walk_at "go"
      obtain ⟨m, hm, hm3⟩ : ∃ m : Nat, n = (m : Nat) ∧ m ≤ 3 := ⟨n.toNat, by omega, by omega⟩
      subst hm
      exact k1 (by unfold whatD; rw [if_neg (by rw [hms]; simp), if_pos hn]) ms m hms rfl hm3 _ upd_same (by walk_at "fr")
    · have e0 : (decide (0 ≤ n) && decide (n ≤ 3)) = false := by
        rw [Bool.and_eq_false_iff]
        by_cases h0 : 0 ≤ n
        · exact .inr (decide_eq_false fun h => hn ⟨h0, h⟩)
        · exact .inl (decide_eq_false h0)
      rw [e0]
      walk_at "go"
      exact ⟨by show 1 ≤ 1000; decide, fun b hb => ⟨b, kAfter, rfl, ⟨by decide, by decide⟩, upd_same, raise1 hb (Same.refl H4) fun dd H' h1 h2 h3 => k2 kAfter (by unfold whatD; rw [if_neg (by rw [hms]; simp), if_neg hn]) dd H' (hdd h1) h2 (Fr.trans f4 (Fr.of_same h3))⟩⟩
end
end
section
set_option Elab.async false
set_option linter.all false
set_option maxRecDepth 100000
set_option maxHeartbeats 2000000
open PySem PySem.Spec PyProof.Rows L2 StX

local macro_rules | `(tactic| walk_at "side") => `(tactic| exact .inl (by assumption))
def kStrU11_0 : List Nat := [97, 102, 116, 101, 114]
theorem kStrU11_0_eq : PySem.Str.ofString "after" = S kStrU11_0 := by decide +kernel
theorem iStarV {K : PySem.W.Frag} {i : Nat} {q : Addr} {xs : List V} {t : TA} {σ : L2.St} {H : Hp} {Q : List V → Hp → Prop} (hv : σ[i]? = some (some (.ref q))) (hq : H q = some (.lst xs)) (h : t σ H fun ys H2 => Q (xs ++ ys) H2) : tStar K (tVar i) t σ H Q :=
  ⟨.ref q, hv, q, xs, rfl, .inr (SqL.of hq), h⟩
def wordsD (nm : List Nat) (n : Nat) (j : Bool) (e : List (List Nat)) : List (List Nat) :=
  [[100, 114, 111, 112], nm] ++ ((if n = 0 then [] else [kAfter, [48 + n]]) ++ ((if j = true then [[101, 97, 99, 104]] else []) ++ e))
def strV (l : List (List Nat)) : List V := l.map fun z => V.str (S z)
theorem str_dig {n : Nat} (h : n ≤ 3) : V.str (PySem.Str.ofString (toString ((n : Nat) : Int))) = V.str (S [48 + n]) := by
  obtain rfl | rfl | rfl | rfl : n = 0 ∨ n = 1 ∨ n = 2 ∨ n = 3 := by omega
  all_goals decide +kernel
section
variable {P : Program} {w : World} {K : PySem.W.Frag} {mg : Str → Option Value} {base : Heap} {a : Ad} {d : Fd}
def spWords (a : Ad) : Sp := fun vs H Q _ => ∃ (i : Nat) (p dx al e : Addr) (nm ms : List Nat) (n : Nat) (j : Bool) (es : List (List Nat)), vs = [.ref p, .ref e] ∧ H p = some (.ins (dK a i) dx (fsD al nm ms n j)) ∧ H e = some (.lst (strV es)) ∧ es.length ≤ 5 ∧ n ≤ 3 ∧
  ∀ q H', H q = none → H' q = some (.lst (strV (wordsD nm n j es))) → Same H H' → Q (.ref q) H'
theorem scPDropWords : FnScope ["stage", "ending", "numbered", "anew"] ["stage", "ending"] (defScope sPDropWords) := ⟨rfl, rfl, rfl, by decide +kernel, rfl, by decide +kernel, by decide +kernel⟩
theorem ok_words (T : Fns K mg a d) : FnOk P w K mg base CX0 1 a.aPDropWords d.dPDropWords ["stage", "ending"] (spWords a) := by
  refine T.FPDropWords.ok scPDropWords (fun vs H Q E h => ?_) (fun cdv A0 outer s H vs Q E hr h => ?_)
  · obtain ⟨i, p, dx, al, e, nm, ms, n, j, es, rfl, _⟩ := h
    rfl
  · obtain ⟨i, p, dx, al, e, nm, ms, n, j, es, rfl, hp, he, hel, hn, k⟩ := h
    obtain ⟨hcl, hal1, hsg1, hnm1, haf1, hea1⟩ := T.dk i
    refine ⟨_, ((pss_cons (ps_set (i := 2) scPDropWords.nd rfl (Or.inl rfl) (pe_ifExp (pt_cmpR op_gt (pe_fld (pv 0) rfl) pe_int (nomark _)) (pe_lst (pa_cons (pe_strS (l := kStrU11_0) kStrU11_0_eq) (pa_cons (pe_callTy call_str_int (by rfl) T.z_str (by decide +kernel) (pa_cons (pe_fld (pv 0) rfl) pa_nil)) pa_nil))) (pe_lst pa_nil)))
      (pss_cons (ps_set (i := 3) scPDropWords.nd rfl (Or.inl rfl) (pe_ifExp (pt_val (pe_fld (pv 0) rfl)) (pe_lst (pa_cons (pe_strS (l := [101, 97, 99, 104]) (by decide +kernel)) pa_nil)) (pe_lst pa_nil)))
      (pss_one (ps_ret (pe_lst (pa_cons (pe_strS (l := [100, 114, 111, 112]) (by decide +kernel)) (pa_cons (pe_fld (pv 0) rfl) (pa_star (pv 2) (pa_star (pv 3) (pa_star (pv 1) pa_nil))))))))))), ?_⟩
    unfold wordsD at k
    have hlg : ((n : Nat) : Int).natAbs.log2 < 1920 := by
      obtain rfl | rfl | rfl | rfl : n = 0 ∨ n = 1 ∨ n = 2 ∨ n = 3 := by omega
      all_goals decide +kernel
    have hsd := str_dig hn
    by_cases hn0 : n = 0
    · subst hn0
      cases j
      · walk_at "go"
        rename_i q2 hq2 q3 hq3
        have s3 := Vk.Same.trans (Same.upd_new (o := .lst []) hq2) (Same.upd_new (o := .lst []) hq3)
        refine iStarV rfl (upd_old hq3 upd_same) (iStarV rfl upd_same (iStarV rfl (s3 _ _ he) (iNil ⟨by simp [strV, sizeLine_eq]; omega, fun r hr3 => ?_⟩)))
        walk_at "go"
        refine k r _ (L2.Same.free s3 hr3) ?_ (Vk.Same.trans s3 (Same.upd_new hr3))
        rw [upd_same]
        simp [strV, kAfter, kStrU11_0]
      · walk_at "go"
        rename_i q2 hq2 q3 hq3
        have s3 := Vk.Same.trans (Same.upd_new (o := .lst []) hq2) (Same.upd_new (o := .lst [.str (S [101, 97, 99, 104])]) hq3)
        refine iStarV rfl (upd_old hq3 upd_same) (iStarV rfl upd_same (iStarV rfl (s3 _ _ he) (iNil ⟨by simp [strV, sizeLine_eq]; omega, fun r hr3 => ?_⟩)))
        walk_at "go"
        refine k r _ (L2.Same.free s3 hr3) ?_ (Vk.Same.trans s3 (Same.upd_new hr3))
        rw [upd_same]
        simp [strV, kAfter, kStrU11_0]
    · rw [if_neg hn0] at k
      cases j
      · walk_at "go"
        rename_i q2 hq2 q3 hq3
        rw [hsd] at hq3 ⊢
        have s3 := Vk.Same.trans (Same.upd_new (o := .lst [.str (S kStrU11_0), .str (S [48 + n])]) hq2) (Same.upd_new (o := .lst []) hq3)
        refine iStarV rfl (upd_old hq3 upd_same) (iStarV rfl upd_same (iStarV rfl (s3 _ _ he) (iNil ⟨by simp [strV, sizeLine_eq]; omega, fun r hr3 => ?_⟩)))
        walk_at "go"
        refine k r _ (L2.Same.free s3 hr3) ?_ (Vk.Same.trans s3 (Same.upd_new hr3))
        rw [upd_same]
        simp [strV, kAfter, kStrU11_0]
      · walk_at "go"
        rename_i q2 hq2 q3 hq3
        rw [hsd] at hq3 ⊢
        have s3 := Vk.Same.trans (Same.upd_new (o := .lst [.str (S kStrU11_0), .str (S [48 + n])]) hq2) (Same.upd_new (o := .lst [.str (S [101, 97, 99, 104])]) hq3)
        refine iStarV rfl (upd_old hq3 upd_same) (iStarV rfl upd_same (iStarV rfl (s3 _ _ he) (iNil ⟨by simp [strV, sizeLine_eq]; omega, fun r hr3 => ?_⟩)))
        walk_at "go"
        refine k r _ (L2.Same.free s3 hr3) ?_ (Vk.Same.trans s3 (Same.upd_new hr3))
        rw [upd_same]
        simp [strV, kAfter, kStrU11_0]
end
end
section
set_option Elab.async false
set_option linter.all false
set_option maxRecDepth 100000
set_option maxHeartbeats 2000000
open PySem PySem.Spec PyProof.Rows L2

local macro_rules | `(tactic| walk_at "side") => `(tactic| exact .inl (by assumption))

/-- words with single spaces between them -/
def spaced : List (List Nat) → List Nat
  | [] => []
  | [x] => x
  | x :: y :: r => x ++ [32] ++ spaced (y :: r)
theorem join_sp (l : List (List Nat)) : Txt.join (S [32]) (l.map S) = S (spaced l) := by
  refine (PySem.StrLaws.glued_eq_join _ _).trans ?_
  induction l with
  | nil => rfl
  | cons x r ih =>
    cases r with
    | nil => rfl
    | cons y r =>
      show S x ++ S [32] ++ Str.join (S [32]) ((y :: r).map S) = _
      rw [ih, S_app, S_app]
      rfl
def writD (nm : List Nat) (n : Nat) (j last : Bool) : List Nat :=
  [100, 114, 111, 112, 32] ++ nm ++ (if n = 0 then [] else [32, 97, 102, 116, 101, 114, 32] ++ [48 + n]) ++ (if j = true then [32, 101, 97, 99, 104] else []) ++ (if last = true then [32, 98, 117, 116, 32, 108, 97, 115, 116] else [])
def endD (last : Bool) : List (List Nat) := if last = true then [[98, 117, 116], [108, 97, 115, 116]] else []
theorem spaced_D (nm : List Nat) (n : Nat) (j last : Bool) : spaced (wordsD nm n j (endD last)) = writD nm n j last := by
  unfold wordsD writD endD
  by_cases h : n = 0
  · subst h
    cases j <;> cases last <;> simp [spaced]
  · simp only [if_neg h]
    cases j <;> cases last <;> simp [spaced, kAfter]
theorem words_sum (nm : List Nat) (n : Nat) (j last : Bool) (h : nm.length ≤ 100) : (((wordsD nm n j (endD last)).map S).map (·.length)).sum + ((wordsD nm n j (endD last)).map S).length * (S [32]).length ≤ 16777216 := by
  unfold wordsD endD
  by_cases h0 : n = 0
  · subst h0
    cases j <;> cases last <;> simp [S_len] <;> omega
  · simp only [if_neg h0]
    cases j <;> cases last <;> simp [S_len, kAfter] <;> omega
theorem strV_eq (l : List (List Nat)) : strV l = (l.map S).map V.str := by
  unfold strV
  rw [List.map_map]
  rfl
section
variable {P : Program} {w : World} {K : PySem.W.Frag} {mg : Str → Option Value} {base : Heap} {a : Ad} {d : Fd}
def spStrD (a : Ad) (i : Nat) (last : Bool) : Sp := fun vs H Q _ => ∃ (p dx al : Addr) (nm ms : List Nat) (n : Nat) (j : Bool), vs = [.ref p] ∧ H p = some (.ins (dK a i) dx (fsD al nm ms n j)) ∧ n ≤ 3 ∧ nm.length ≤ 100 ∧ ∀ H', Same H H' → Q (.str (S (writD nm n j last))) H'
theorem scDropStr : FnScope ["self"] ["self"] (defScope sDropStr) := ⟨rfl, rfl, rfl, by decide +kernel, rfl, by decide +kernel, by decide +kernel⟩
theorem ok_dropStr (T : Fns K mg a d) : FnOk P w K mg base CX0 2 a.aDropStr d.dDropStr ["self"] (spStrD a 0 false) := by
  have GPDropWords : FnOk P w K mg base CX0 1 a.aPDropWords d.dPDropWords ["stage", "ending"] (spWords a) := ok_words T
  refine T.FDropStr.ok scDropStr (fun vs H Q E h => ?_) (fun cdv A0 outer s H vs Q E hr h => ?_)
  · obtain ⟨p, dx, al, nm, ms, n, j, rfl, _⟩ := h
    rfl
  · obtain ⟨p, dx, al, nm, ms, n, j, rfl, hp, hn, hnl, k⟩ := h
    refine ⟨_, ((pss_one (ps_ret (pe_join (pe_strS (l := [32]) (by decide +kernel)) (pe_call GPDropWords (hr.mono (by decide)) (by rfl) T.gPDropWords T.FPDropWords.kp T.bPDropWords .nil pass0 (pa_cons (pv 0) (pa_cons (pe_lst pa_nil) pa_nil))))))), ?_⟩
    walk_at "go"
    rename_i e he
    refine ⟨0, p, dx, al, e, nm, ms, n, j, endD false, rfl, upd_old he hp, upd_same, (by decide), hn, fun q H1 hq h1 s1 => ?_⟩
    rw [strV_eq] at h1
    refine ⟨S [32], q, _, rfl, rfl, .inl (SqL.of h1), words_sum nm n j false hnl, ?_⟩
    rw [join_sp, spaced_D]
    exact k H1 (Vk.Same.trans (Same.upd_new he) s1)
theorem scLastDropStr : FnScope ["self"] ["self"] (defScope sLastDropStr) := ⟨rfl, rfl, rfl, by decide +kernel, rfl, by decide +kernel, by decide +kernel⟩
theorem ok_lastStr (T : Fns K mg a d) : FnOk P w K mg base CX0 2 a.aLastDropStr d.dLastDropStr ["self"] (spStrD a 1 true) := by
  have GPDropWords : FnOk P w K mg base CX0 1 a.aPDropWords d.dPDropWords ["stage", "ending"] (spWords a) := ok_words T
  refine T.FLastDropStr.ok scLastDropStr (fun vs H Q E h => ?_) (fun cdv A0 outer s H vs Q E hr h => ?_)
  · obtain ⟨p, dx, al, nm, ms, n, j, rfl, _⟩ := h
    rfl
  · obtain ⟨p, dx, al, nm, ms, n, j, rfl, hp, hn, hnl, k⟩ := h
    refine ⟨_, ((pss_one (ps_ret (pe_join (pe_strS (l := [32]) (by decide +kernel)) (pe_call GPDropWords (hr.mono (by decide)) (by rfl) T.gPDropWords T.FPDropWords.kp T.bPDropWords .nil pass0 (pa_cons (pv 0) (pa_cons (pe_lst (pa_cons (pe_strS (l := [98, 117, 116]) (by decide +kernel)) (pa_cons (pe_strS (l := [108, 97, 115, 116]) (by decide +kernel)) pa_nil))) pa_nil))))))), ?_⟩
    walk_at "go"
    rename_i e he
    refine ⟨1, p, dx, al, e, nm, ms, n, j, endD true, rfl, upd_old he hp, upd_same, (by decide), hn, fun q H1 hq h1 s1 => ?_⟩
    rw [strV_eq] at h1
    refine ⟨S [32], q, _, rfl, rfl, .inl (SqL.of h1), words_sum nm n j true hnl, ?_⟩
    rw [join_sp, spaced_D]
    exact k H1 (Vk.Same.trans (Same.upd_new he) s1)
end
end
section
set_option Elab.async false
set_option linter.all false
set_option maxRecDepth 100000
set_option maxHeartbeats 2000000
open PySem PySem.Spec PyProof.Rows L2

local macro_rules | `(tactic| walk_at "side") => `(tactic| exact .inl (by assumption))

theorem pe_conK {X : Cx} {K : PySem.W.Frag} {e : Expr} {f : Str} {pos : Pos} {ta : TE} (hK : X.K = K) (he : PE X e ta) (hb : attributeBase e f X.env (eval e X.env) = eval e X.env) : PE X (.Attribute e f pos) (tCon K ta f) := hK ▸ pe_con he hb
theorem bef_cnt (n : Nat) (j : Bool) (t : List Nat) : ∀ k, k ≤ t.length → befL n j t k = min (cntL j t k) n
  | 0, _ => by
    show 0 = min 0 n
    omega
  | k + 1, h => by
    have ih := bef_cnt n j t k (by omega)
    have hk : t[k]? = some t[k] := List.getElem?_eq_getElem (by omega)
    have hg : t.getD k 0 = t[k] := by rw [List.getD_eq_getElem?_getD, hk]; rfl
    show nextN n j (t.getD k 0) (befL n j t k) = min (if j = true ∧ t[k]? = some 45 then 0 else cntL j t k + 1) n
    rw [hg, hk, ih]
    unfold nextN
    simp only [Option.some.injEq]
    split
    · omega
    · omega
theorem drop_stay {n : Nat} {j : Bool} {ms t : List Nat} {k c : Nat} (hk : t[k]? = some c) : (!dropN n j ms c (befL n j t k)) = (!decide (c ∈ ms) || decide (cntL j t (k + 1) ≤ n)) := by
  have hl := (List.getElem?_eq_some_iff.mp hk).1
  have hc1 : cntL j t (k + 1) = if j = true ∧ t[k]? = some 45 then 0 else cntL j t k + 1 := rfl
  rw [hk] at hc1
  simp only [Option.some.injEq] at hc1
  rw [bef_cnt n j t k (by omega), hc1]
  unfold dropN
  by_cases h : j = true ∧ c = 45
  · rw [if_pos h, if_pos h]
    simp
  · rw [if_neg h, if_neg h]
    by_cases h1 : c ∈ ms <;> by_cases h2 : cntL j t k + 1 ≤ n <;> simp [h1, h2] <;> omega
theorem mark_get {n : Nat} {j : Bool} {ms t : List Nat} {k c : Nat} (hk : t[k]? = some c) : ((markL n j ms t t.length).map V.bl)[k]? = some (.bl (dropN n j ms c (befL n j t k))) := by
  have hl := (List.getElem?_eq_some_iff.mp hk).1
  have hg : t.getD k 0 = c := by rw [List.getD_eq_getElem?_getD, hk]; rfl
  unfold markL
  rw [List.getElem?_map, List.getElem?_map, List.getElem?_range hl]
  simp only [Option.map_some, hg]
section
variable {P : Program} {w : World} {K : PySem.W.Frag} {mg : Str → Option Value} {base : Heap} {a : Ad} {d : Fd}
def spCallD (i : Nat) (a : Ad) (last : Bool) : Sp := fun vs H Q E => ∃ (p dx al : Addr) (l v nm ms t : List Nat) (n : Nat) (j : Bool), vs = [.ref p, .str (S t)] ∧ H p = some (.ins (dK a i) dx (fsD al nm ms n j)) ∧ IsAl a.cAlphabet H al l v ∧ Tx t ∧ n ≤ 3 ∧
  ((∀ c ∈ t, c ∈ 45 :: srtL l) → ∀ H', Same H H' → Q (.str (S (outL ms n j last t t.length))) H') ∧
  ((¬ ∀ c ∈ t, c ∈ 45 :: srtL l) → ∀ dd H', H dd = none → H' dd = some (.xd [("text", .str (S t))]) → Same H H' → E (.ref a.cBadText) (some dd) H')
theorem scLastDropCall : FnScope ["self", "text", "drops", "at", "sign"] ["self", "text"] (defScope sLastDropCall) := ⟨rfl, rfl, rfl, by decide +kernel, rfl, by decide +kernel, by decide +kernel⟩
theorem ok_lastCall (T : Fns K mg a d) (GBadText : FnOk P w K mg base CX0 1 a.eBadText d.eBadText ["self", "text"] (spErr a.cBadText "text")) : FnOk P w K mg base (L2.CX P w) 4 a.aLastDropCall d.dLastDropCall ["self", "text"] (spCallD 1 a true) := by
  have GCheck := ok_check (P := P) (w := w) (base := base) T GBadText
  have GPMarked : FnOk P w K mg base CX0 2 a.aPMarked d.dPMarked ["stage", "text"] (spMarked a) := ok_marked T
  have hclA := T.clA
  have hjo := T.joint
  refine T.FLastDropCall.okX scLastDropCall (fun vs H Q E h => ?_) (fun cdv A0 outer s H vs Q E hr h => ?_)
  · obtain ⟨p, dx, al, l, v, nm, ms, t, n, j, rfl, _⟩ := h
    rfl
  · obtain ⟨p, dx, al, l, v, nm, ms, t, n, j, rfl, hp, hal, htx, hn, k1, k2⟩ := h
    obtain ⟨hcl, hna, hns, hnn, hnf, hne⟩ := T.dk (mg := mg) (d := d) 1
    obtain ⟨dxa, hal2⟩ := id hal
    have htl := htx.1
    refine ⟨_, (pss_cons (ps_expr (pe_meth (pe_fld (pv 0) rfl) T.clA T.mCheck GCheck (hr.mono (by decide)) T.bCheck .nil (passes_call (takes_of rfl rfl rfl rfl) (fun _ _ _ _ h => h)) (pa_cons (pv 1) pa_nil))) (pss_cons (ps_set (i := 2) scLastDropCall.nd rfl (Or.inr rfl) (pe_call GPMarked (hr.mono (by decide)) (by rfl) T.gPMarked T.FPMarked.kp T.bPMarked .nil pass0 (pa_cons (pv 0) (pa_cons (pv 1) pa_nil)))) (pss_one (ps_ret (pe_join (pe_strS (l := []) (by decide +kernel)) (pe_lc (own := [("at", 3), ("sign", 4)]) (g := gTup K 2 (gCons (gName 3) (gCons (gName 4) gNil))) (by rfl) scLastDropCall.nd (pi_enumS (by rfl) T.z_enum (pa_cons (pv 1) pa_nil)) (blkOk_by (own := [("at", 3), ("sign", 4)]) (N := ["self", "text", "drops", "at", "sign"]) (sc := defScope sLastDropCall) (by decide +kernel)) (fun _ _ _ _ _ => pg_tup rfl (pgs_cons (pg_name (i := 3) scLastDropCall.nd rfl (Or.inl rfl)) (pgs_cons (pg_name (i := 4) scLastDropCall.nd rfl (Or.inl rfl)) pgs_nil)))
      (fun _ _ _ _ _ => (pts_one (PW.pt (pw_or (pt_not (pt_val (pe_ix (r := rIxL K) ix_list (pv 2) (pv 3) (fun _ _ => rfl)))) (pw_or (pt_cmpR op_eq (pe_op op_add (pv 3) pe_int) (pe_callB call_lenS (by rfl) T.z_len (by decide +kernel) (pa_cons (pv 1) pa_nil)) (nomark _)) (pw_or1 (PW.pt (pw_and (pt_val (pe_fldK (K := K) (by rfl) (pv 0) (by rfl))) (pw_and1 (pt_cmpR op_eq (pe_ix ix_str (pv 1) (pe_op op_add (pv 3) pe_int) (fun _ _ => rfl)) (pe_conK (K := K) (by rfl) (pe_fldK (K := K) (by rfl) (pv 0) (by rfl)) (by rfl)) (nomark _))))))))))) (fun _ _ _ _ _ => (pv 4)))))))), ?_⟩
    walk_at "go"
    refine ⟨al, l, v, t, rfl, hal, htx, fun hv H1 s1 => ?_, fun hv dd H1 h1 h2 h3 => k2 hv dd H1 h1 h2 h3⟩
    have hp1 := s1 _ _ hp
    walk_at "go"
    refine ⟨1, p, dx, al, l, v, nm, ms, t, n, j, rfl, hp1, hal.same s1, hn, by omega, fun dq H2 hdq hd2 s2 => ?_⟩
    have hp2 := s2 _ _ hp1
    have ha2 := s2 _ _ (s1 _ _ hal2)
    have s2 := Vk.Same.trans s1 s2
    walk_at "go"
    refine ⟨_, rfl, S t, rfl, fun D hD => ?_⟩
    refine lc_it walk_enumS (fun i H' => H' D = some (.lst ((outL ms n j true t i).map fun c => V.str (S [c]))) ∧ Fr [D] H2 H') ⟨upd_same, Fr.in0⟩ (fun _ _ _ _ => trivial) ?_ ?_
    · rintro i y H3 H4 hi ⟨hD3, f3⟩ ⟨T, c, rfl, hT, hc, rfl⟩
      have hx1 : t[i]? = some c := S_get.mp hc
      have hDT : D ≠ T := ne_of_none hD3 hT
      have hD4 : (upd H3 T (.tup [.int (i : Nat), .str (S [c])])) D = some (.lst ((outL ms n j true t i).map fun c => V.str (S [c]))) := upd_oth hDT hD3
      have f4 : Fr [D] H2 (upd H3 T (.tup [.int (i : Nat), .str (S [c])])) := Fr.trans f3 (Fr.upd_new hT)
      have hp4 := f4 _ _ (by simpa using ne_of_none hp2 hD) hp2
      have ha4 := f4 _ _ (by simpa using ne_of_none ha2 hD) ha2
      have hd4 := f4 _ _ (by simpa using ne_of_none hd2 hD) hd2
      refine ⟨T, [.int (i : Nat), .str (S [c])], rfl, SqT.of upd_same, rfl, .int (i : Nat), [.str (S [c])], rfl, .str (S [c]), [], rfl, rfl, rfl, ?_⟩
      have hol := outL_len ms n j true t i
      have hit : i < t.length := (List.getElem?_eq_some_iff.mp hx1).1
      have hsx := outL_succ ms n j true t i
      have hst : stayB ms n j true t i = ((match t[i]? with | some c => !decide (c ∈ ms) | none => false) || decide (cntL j t (i + 1) ≤ n) || (true && (decide (i + 1 = t.length) || (j && decide (t[i + 1]? = some 45))))) := rfl
      rw [hx1] at hsx hst
      have hst : stayB ms n j true t i = ((!dropN n j ms c (befL n j t i)) || (decide (i + 1 = t.length) || (j && decide (t[i + 1]? = some 45)))) := by
        rw [hst, drop_stay hx1]
        rfl
      have hmk := mark_get (n := n) (j := j) (ms := ms) hx1
      generalize dropN n j ms c (befL n j t i) = dr at hst hmk
      show tOr _ _ _ (upd H3 T (.tup [.int (i : Nat), .str (S [c])])) _
      generalize upd H3 T (.tup [.int (i : Nat), .str (S [c])]) = H4 at hD4 f4 hp4 ha4 hd4
      have yes : stayB ms n j true t i = true → ((outL ms n j true t i).map fun c => V.str (S [c])).length < sizeLine ∧ ((upd H4 D (.lst (((outL ms n j true t i).map fun c => V.str (S [c])) ++ [.str (S [c])]))) D = some (.lst ((outL ms n j true t (i + 1)).map fun c => V.str (S [c]))) ∧ Fr [D] H2 (upd H4 D (.lst (((outL ms n j true t i).map fun c => V.str (S [c])) ++ [.str (S [c])])))) := fun hk => by
        refine ⟨by rw [List.length_map, sizeLine_eq]; omega, ?_, Fr.trans f4 Fr.in0⟩
        rw [upd_same, hsx, if_pos hk, List.map_append]
        rfl
      have no : stayB ms n j true t i = false → H4 D = some (.lst ((outL ms n j true t (i + 1)).map fun c => V.str (S [c]))) := fun hk => by
        rw [hsx, hk, if_neg Bool.false_ne_true, List.append_nil]
        exact hD4
      by_cases hla : i + 1 = t.length
      · have hst2 : t[i + 1]? = none := List.getElem?_eq_none (by omega)
        rw [hst2, decide_eq_true hla] at hst
        have hyes : stayB ms n j true t i = true := by rw [hst]; simp
        cases j <;> cases dr <;> walk_at "go"
        all_goals exact yes hyes
      · have hi2 : i + 1 < t.length := by omega
        have hx2 : t[i + 1]? = some t[i + 1] := List.getElem?_eq_getElem hi2
        rw [hx2, decide_eq_false hla] at hst
        generalize t[i + 1] = e at hx2 hst
        have ha2' : atI t ((i : Int) + 1) = some e := by rw [show (i : Int) + 1 = ((i + 1 : Nat) : Int) by omega]; exact atI_nat hx2
        cases j <;> cases dr <;> walk_at "go"
        all_goals
          first
          | exact yes (by rw [hst]; simp [*]; done)
          | exact ⟨no (by rw [hst]; simp [*]; done), f4⟩
          | (exact yes (by rw [hst]; simp; first | assumption | omega))
          | (exact ⟨no (by rw [hst]; simp; first | assumption | omega), f4⟩)
    · rintro H3 ⟨hD3, f3⟩
      rw [S_size] at hD3
      have hol := outL_len ms n j true t t.length
      exact iJoinS (SqL.of hD3) (by omega) (k1 hv _ (Vk.Same.trans s2 (Fr.forget1 f3 hD)))
end
end
section
set_option Elab.async false
set_option linter.all false
set_option maxRecDepth 100000
set_option maxHeartbeats 2000000
open PySem PySem.Spec PyProof.Rows L2

local macro_rules | `(tactic| walk_at "side") => `(tactic| exact .inl (by assumption))

theorem iLcZ {K : PySem.W.Frag} {ta : TA} {g : TG} {tt : TT} {te : TE} {vs : List Nat} {σ : L2.St} {H : Hp} {Q : VK} (h : ta σ H fun ws H1 => ∃ (x : Str) (b : Addr) (ys : List V), ws = [.str x, .ref b] ∧ SqL K H1 b ys ∧ ∀ D, H1 D = none → LcG (IzS K x b) g tt te vs σ H1 D Q) : tLc (iZipS K ta) g tt te vs σ H Q := h
theorem walk_zipS {K : PySem.W.Frag} {x : Str} {b : Addr} {ys : List V} (hl : ys.length = x.cps.size) : Walk (IzS K x b) x.cps.size (fun H => SqL K H b ys) (fun i H v H' => ∃ (T : Addr) (c : Nat) (y : V), v = .ref T ∧ H T = none ∧ x.cps[i]? = some c ∧ ys[i]? = some y ∧ H' = upd H T (.tup [.str ⟨#[c]⟩, y])) :=
  ⟨fun i H hi h => ⟨ys, ys[i], h, List.getElem?_eq_getElem (by omega), hi⟩, fun H h => ⟨ys, h, Nat.le_refl _, by omega, .inl rfl⟩, fun i H v H' hi h ⟨T, c, y, e, hT, hc, e2, hy⟩ => ⟨T, c, y, e, hT, hc, hy ys h, e2⟩⟩
section
variable {P : Program} {w : World} {K : PySem.W.Frag} {mg : Str → Option Value} {base : Heap} {a : Ad} {d : Fd}
theorem scDropCall : FnScope ["self", "text", "sign", "drops"] ["self", "text"] (defScope sDropCall) := ⟨rfl, rfl, rfl, by decide +kernel, rfl, by decide +kernel, by decide +kernel⟩
theorem ok_dropCall (T : Fns K mg a d) (z_zip : mg "zip" = none) (GBadText : FnOk P w K mg base CX0 1 a.eBadText d.eBadText ["self", "text"] (spErr a.cBadText "text")) : FnOk P w K mg base (L2.CX P w) 4 a.aDropCall d.dDropCall ["self", "text"] (spCallD 0 a false) := by
  have GCheck := ok_check (P := P) (w := w) (base := base) T GBadText
  have GPMarked : FnOk P w K mg base CX0 2 a.aPMarked d.dPMarked ["stage", "text"] (spMarked a) := ok_marked T
  have hclA := T.clA
  refine T.FDropCall.okX scDropCall (fun vs H Q E h => ?_) (fun cdv A0 outer s H vs Q E hr h => ?_)
  · obtain ⟨p, dx, al, l, v, nm, ms, t, n, j, rfl, _⟩ := h
    rfl
  · obtain ⟨p, dx, al, l, v, nm, ms, t, n, j, rfl, hp, hal, htx, hn, k1, k2⟩ := h
    obtain ⟨hcl, hna, hns, hnn, hnf, hne⟩ := T.dk (mg := mg) (d := d) 0
    obtain ⟨dxa, hal2⟩ := id hal
    have htl := htx.1
    refine ⟨_, (pss_cons (ps_expr (pe_meth (pe_fld (pv 0) rfl) T.clA T.mCheck GCheck (hr.mono (by decide)) T.bCheck .nil (passes_call (takes_of rfl rfl rfl rfl) (fun _ _ _ _ h => h)) (pa_cons (pv 1) pa_nil))) (pss_one (ps_ret (pe_join (pe_strS (l := []) (by decide +kernel)) (pe_lc (own := [("sign", 2), ("drops", 3)]) (g := gTup K 2 (gCons (gName 2) (gCons (gName 3) gNil))) (by rfl) scDropCall.nd (pi_zipS (by rfl) z_zip (pa_cons (pv 1) (pa_cons (pe_call GPMarked (hr.mono (by decide)) (by rfl) T.gPMarked T.FPMarked.kp T.bPMarked .nil pass0 (pa_cons (pv 0) (pa_cons (pv 1) pa_nil))) pa_nil))) (blkOk_by (own := [("sign", 2), ("drops", 3)]) (N := ["self", "text", "sign", "drops"]) (sc := defScope sDropCall) (by decide +kernel)) (fun _ _ _ _ _ => pg_tup rfl (pgs_cons (pg_name (i := 2) scDropCall.nd rfl (Or.inl rfl)) (pgs_cons (pg_name (i := 3) scDropCall.nd rfl (Or.inl rfl)) pgs_nil)))
      (fun _ _ _ _ _ => (pts_one (pt_not (pt_val (pv 3))))) (fun _ _ _ _ _ => (pv 2))))))), ?_⟩
    walk_at "go"
    refine ⟨al, l, v, t, rfl, hal, htx, fun hv H1 s1 => ?_, fun hv dd H1 h1 h2 h3 => k2 hv dd H1 h1 h2 h3⟩
    have hp1 := s1 _ _ hp
    walk_at "go"
    refine iLcZ ?_
    walk_at "go"
    refine ⟨0, p, dx, al, l, v, nm, ms, t, n, j, rfl, hp1, hal.same s1, hn, by omega, fun dq H2 hdq hd2 s2 => ?_⟩
    have hp2 := s2 _ _ hp1
    have s2 := Vk.Same.trans s1 s2
    have hml : ((markL n j ms t t.length).map V.bl).length = (S t).cps.size := by rw [List.length_map, markL_len, S_size]
    refine iNil ⟨S t, dq, _, rfl, SqL.of hd2, fun D hD => ?_⟩
    refine lc_it (walk_zipS hml) (fun i H' => H' D = some (.lst ((outL ms n j false t i).map fun c => V.str (S [c]))) ∧ Fr [D] H2 H') ⟨upd_same, Fr.in0⟩ (fun i H' _ h => SqL.of (h.2 _ _ (by simpa using ne_of_none hd2 hD) hd2)) ?_ ?_
    · rintro i y H3 H4 hi ⟨hD3, f3⟩ ⟨T, c, yv, rfl, hT, hc, hyv, rfl⟩
      have hx1 : t[i]? = some c := S_get.mp hc
      have hmk := mark_get (n := n) (j := j) (ms := ms) hx1
      rw [hyv] at hmk
      obtain rfl := Option.some.inj hmk
      have hDT : D ≠ T := ne_of_none hD3 hT
      have hD4 : (upd H3 T (.tup [.str (S [c]), .bl (dropN n j ms c (befL n j t i))])) D = some (.lst ((outL ms n j false t i).map fun c => V.str (S [c]))) := upd_oth hDT hD3
      have f4 : Fr [D] H2 (upd H3 T (.tup [.str (S [c]), .bl (dropN n j ms c (befL n j t i))])) := Fr.trans f3 (Fr.upd_new hT)
      refine ⟨T, [.str (S [c]), .bl (dropN n j ms c (befL n j t i))], rfl, SqT.of upd_same, rfl, .str (S [c]), [.bl (dropN n j ms c (befL n j t i))], rfl, .bl (dropN n j ms c (befL n j t i)), [], rfl, rfl, rfl, ?_⟩
      have hol := outL_len ms n j false t i
      have hit : i < t.length := (List.getElem?_eq_some_iff.mp hx1).1
      have hsx := outL_succ ms n j false t i
      have hst : stayB ms n j false t i = ((match t[i]? with | some c => !decide (c ∈ ms) | none => false) || decide (cntL j t (i + 1) ≤ n) || (false && (decide (i + 1 = t.length) || (j && decide (t[i + 1]? = some 45))))) := rfl
      rw [hx1] at hsx hst
      have hst : stayB ms n j false t i = !dropN n j ms c (befL n j t i) := by
        rw [hst, drop_stay hx1]
        simp
      generalize dropN n j ms c (befL n j t i) = dr at hst hD4 f4 ⊢
      show tNot (tB (tVar 3)) _ (upd H3 T (.tup [.str (S [c]), .bl dr])) _
      generalize upd H3 T (.tup [.str (S [c]), .bl dr]) = H4 at hD4 f4
      have yes : stayB ms n j false t i = true → ((outL ms n j false t i).map fun c => V.str (S [c])).length < sizeLine ∧ ((upd H4 D (.lst (((outL ms n j false t i).map fun c => V.str (S [c])) ++ [.str (S [c])]))) D = some (.lst ((outL ms n j false t (i + 1)).map fun c => V.str (S [c]))) ∧ Fr [D] H2 (upd H4 D (.lst (((outL ms n j false t i).map fun c => V.str (S [c])) ++ [.str (S [c])])))) := fun hk => by
        refine ⟨by rw [List.length_map, sizeLine_eq]; omega, ?_, Fr.trans f4 Fr.in0⟩
        rw [upd_same, hsx, if_pos hk, List.map_append]
        rfl
      have no : stayB ms n j false t i = false → H4 D = some (.lst ((outL ms n j false t (i + 1)).map fun c => V.str (S [c]))) := fun hk => by
        rw [hsx, hk, if_neg Bool.false_ne_true, List.append_nil]
        exact hD4
      cases dr <;> walk_at "go"
      all_goals
        first
        | exact yes hst
        | exact ⟨no hst, f4⟩
    · rintro H3 ⟨hD3, f3⟩
      rw [S_size] at hD3
      have hol := outL_len ms n j false t t.length
      exact iJoinS (SqL.of hD3) (by omega) (k1 hv _ (Vk.Same.trans s2 (Fr.forget1 f3 hD)))
end
end
section
set_option Elab.async false
set_option linter.all false
set_option maxRecDepth 100000
set_option maxHeartbeats 4000000
open PySem PySem.Spec PyProof.Rows L2
/-- what a call with keywords binds, of any def whose keyword-only defaults stand in the dict at D -/
theorem kb_any {K : PySem.W.Frag} {fd : FuncData} {ps : List Str} {D : Addr} {kws : List (Str × V)} (hq : ∀ q ∈ kws, ∃ u, PySem.W.nsIn K D q.1 = some (some u) ∧ L2.RelV q.2 u) (n : Nat) (ks : List Str) (ms : List (Str × V)) (g : {α : Type} → List α → List α → List α → List α) (hms : ∀ q ∈ ms, q ∈ kws)
    (hrel : ∀ {vs mz zs : List V} {us mv ws : List Value}, L2.Vals vs us → L2.Vals mz mv → L2.Vals zs ws → L2.Vals (g vs mz zs) (g us mv ws))
    (h : ∀ us mv ws : List Value, us.length = n → mv.length = ms.length → ws.length = ks.length → KwChain D ((ms.map (·.1)).zip mv) (bindArgs fd ⟨us, ks.zip ws⟩) (ps.zip (g us mv ws))) :
    ∃ mv : List Value, KBn K fd ps n ks (fun us ws => g us mv ws) (fun vs zs => g vs (ms.map (·.2)) zs) := by
  obtain ⟨mv, l1, r1, c1⟩ := kwd_vals (ms := ms) fun q hm => hq q (hms q hm)
  refine ⟨mv, fun s us ws X e1 e2 => ?_, fun ra rb => hrel ra r1 rb⟩
  exact BindsTo.of_looks fun M => KwChain.looks X c1 (h us mv ws e1 l1 e2)
section
variable {K : PySem.W.Frag} {kD : Addr} {doc pm ct cdv : Value} {an : Option Addr} {cc : Addr}
abbrev fdDI (kD : Addr) (doc pm ct cdv : Value) (an : Option Addr) (cc : Addr) : FuncData := PySem.W.ksFn "__init__" "Drop.__init__" (defArgs sDI) (defBody sDI) (defScope sDI) .none (.ref kD) doc pm an cdv ct cc
abbrev kwDI : List (Str × V) := [("after", .int 0), ("each", .bl false)]
abbrev psDI : List Str := ["self", "alphabet", "name", "after", "each"]
theorem kb_after (hq : ∀ q ∈ kwDI, ∃ u, PySem.W.nsIn K kD q.1 = some (some u) ∧ L2.RelV q.2 u) : ∃ mv : List Value, KBn K (fdDI kD doc pm ct cdv an cc) psDI 3 ["after"] (fun us ws => us ++ ws ++ mv) (fun vs zs => vs ++ zs ++ [.bl false]) :=
  kb_any hq 3 ["after"] [("each", .bl false)] (fun us mv ws => us ++ ws ++ mv) (by simp) (fun r1 r2 r3 => (r1.append r3).append r2) fun us mv ws h1 h2 h3 => match us, mv, ws, h1, h2, h3 with
    | [_, _, _], [_], [_], _, _, _ => ⟨_, _, _, _, _, _, rfl, rfl, rfl⟩
theorem kb_each (hq : ∀ q ∈ kwDI, ∃ u, PySem.W.nsIn K kD q.1 = some (some u) ∧ L2.RelV q.2 u) : ∃ mv : List Value, KBn K (fdDI kD doc pm ct cdv an cc) psDI 3 ["each"] (fun us ws => us ++ mv ++ ws) (fun vs zs => vs ++ [.int 0] ++ zs) :=
  kb_any hq 3 ["each"] [("after", .int 0)] (fun us mv ws => us ++ mv ++ ws) (by simp) (fun r1 r2 r3 => (r1.append r2).append r3) fun us mv ws h1 h2 h3 => match us, mv, ws, h1, h2, h3 with
    | [_, _, _], [_], [_], _, _, _ => ⟨_, _, _, _, _, _, rfl, rfl, rfl⟩
theorem kb_both (hq : ∀ q ∈ kwDI, ∃ u, PySem.W.nsIn K kD q.1 = some (some u) ∧ L2.RelV q.2 u) : KBn K (fdDI kD doc pm ct cdv an cc) psDI 3 ["after", "each"] (fun us ws => us ++ ws) (fun vs zs => vs ++ zs) := by
  obtain ⟨mv, h⟩ := kb_any (K := K) (fd := fdDI kD doc pm ct cdv an cc) (ps := psDI) hq 3 ["after", "each"] [] (fun us mv ws => us ++ ws) (by simp) (fun r1 _ r3 => r1.append r3) fun us mv ws h1 h2 h3 => match us, mv, ws, h1, h2, h3 with
    | [_, _, _], [], [_, _], _, _, _ => rfl
  exact h
theorem kb_htob (hq : ∀ q ∈ kwDI, ∃ u, PySem.W.nsIn K kD q.1 = some (some u) ∧ L2.RelV q.2 u) : KBn K (fdDI kD doc pm ct cdv an cc) psDI 3 ["each", "after"] (fun us ws => us ++ ws.reverse) (fun vs zs => vs ++ zs.reverse) := by
  have rv : ∀ {zs : List V} {ws : List Value}, L2.Vals zs ws → L2.Vals zs.reverse ws.reverse := fun {zs ws} r => by
    induction r with
    | nil => exact .nil
    | cons a b ih =>
      rw [List.reverse_cons, List.reverse_cons]
      exact ih.append (.cons a .nil)
  obtain ⟨mv, h⟩ := kb_any (K := K) (fd := fdDI kD doc pm ct cdv an cc) (ps := psDI) hq 3 ["each", "after"] [] (fun us mv ws => us ++ ws.reverse) (by simp) (fun r1 _ r3 => r1.append (rv r3)) fun us mv ws h1 h2 h3 => match us, mv, ws, h1, h2, h3 with
    | [_, _, _], [], [_, _], _, _, _ => rfl
  exact h
theorem kb_bare (hq : ∀ q ∈ kwDI, ∃ u, PySem.W.nsIn K kD q.1 = some (some u) ∧ L2.RelV q.2 u) : ∃ mv : List Value, L2.Binds K (fdDI kD doc pm ct cdv an cc) psDI mv ∧ L2.Vals [V.int 0, .bl false] mv := by
  obtain ⟨mv, l1, r1, c1⟩ := kwd_vals (ms := kwDI) fun q hm => hq q hm
  refine ⟨mv, fun s us X hl => ?_, r1⟩
  have hl3 : us.length = 3 := by
    have e : us.length + mv.length = 5 := by
      have e2 := hl
      simp at e2
      omega
    have : mv.length = 2 := l1
    omega
  refine BindsTo.of_looks fun M => KwChain.looks X c1 ?_
  match us, mv, hl3, l1 with
  | [_, _, _], [_, _], _, _ => exact ⟨_, _, _, _, _, _, rfl, rfl, _, _, _, _, _, _, rfl, rfl, rfl⟩
end
end
section
set_option Elab.async false
set_option linter.all false
set_option maxRecDepth 100000
set_option maxHeartbeats 2000000
open PySem PySem.Spec PyProof.Rows L2

local macro_rules | `(tactic| walk_at "side") => `(tactic| exact .inl (by assumption))
/-! the stages: Write, Once, Add -/
def stFs (k : Nat) (al : Addr) (nm sg ms : List Nat) : List (Str × V) := match k with
  | 0 => [("alphabet", .ref al), ("signs", .str (S ms)), ("sign", .str (S sg)), ("name", .str (S nm))]
  | 1 => [("alphabet", .ref al), ("signs", .str (S ms)), ("name", .str (S nm))]
  | _ => [("alphabet", .ref al), ("sign", .str (S sg))]
def whatOf (k : Nat) (l v sg nm : List Nat) : Option (List Nat) :=
  if k ≠ 1 ∧ signB (45 :: srtL l) sg = false then some [115, 105, 103, 110] else if k ≠ 2 ∧ setOf l v nm = none then some [115, 101, 116] else none
def stArgs (k : Nat) (p al : Addr) (sg nm : List Nat) : List V := match k with
  | 0 => [.ref p, .ref al, .str (S sg), .str (S nm)]
  | 1 => [.ref p, .ref al, .str (S nm)]
  | _ => [.ref p, .ref al, .str (S sg)]
theorem put_m0 {y : V} : putF "alphabet" y [] = ([("alphabet", y)] : List (Str × V)) := rfl
theorem put_m1 {a y : V} : putF "signs" y [("alphabet", a)] = ([("alphabet", a), ("signs", y)] : List (Str × V)) := rfl
theorem put_m2 {a b y : V} : putF "sign" y [("alphabet", a), ("signs", b)] = ([("alphabet", a), ("signs", b), ("sign", y)] : List (Str × V)) := rfl
theorem put_m3 {a b c y : V} : putF "name" y [("alphabet", a), ("signs", b), ("sign", c)] = ([("alphabet", a), ("signs", b), ("sign", c), ("name", y)] : List (Str × V)) := rfl
theorem put_m4 {a b y : V} : putF "name" y [("alphabet", a), ("signs", b)] = ([("alphabet", a), ("signs", b), ("name", y)] : List (Str × V)) := rfl
theorem put_m5 {a y : V} : putF "sign" y [("alphabet", a)] = ([("alphabet", a), ("sign", y)] : List (Str × V)) := rfl
local macro_rules | `(tactic| walk_at "putq") => `(tactic| first | exact put_m0 | exact put_m1 | exact put_m2 | exact put_m3 | exact put_m4 | exact put_m5)
section
variable {P : Program} {w : World} {K : PySem.W.Frag} {mg : Str → Option Value} {base : Heap} {a : Ad} {d : Fd}
def spInit (k : Nat) (C CA BS : Addr) : Sp := fun vs H Q E => ∃ (p dx al : Addr) (l v sg nm : List Nat), vs = stArgs k p al sg nm ∧ H p = some (.ins C dx []) ∧ IsAl CA H al l v ∧ al ≠ p ∧ sg.length ≤ 100 ∧ nm.length ≤ 60 ∧ (∀ c ∈ nm, c < 0x110000) ∧
  (whatOf k l v sg nm = none → ∀ ms, (k ≠ 2 → setOf l v nm = some ms) → ∀ H', H' p = some (.ins C dx (stFs k al nm sg ms)) → Fr [p] H H' → Q .non H') ∧
  (∀ z, whatOf k l v sg nm = some z → ∀ dd H', H dd = none → H' dd = some (.xd [("what", .str (S z))]) → Fr [p] H H' → E (.ref BS) (some dd) H')
abbrev sWI : Stmt := inClass (top 16) 0
theorem scWI : SScope ["self", "alphabet", "sign", "name"] (defScope sWI) := ⟨rfl, rfl, rfl, by decide +kernel, by decide +kernel, by decide +kernel, fun x h => (show ∀ y ∈ (defScope sWI).names, y.2 = .free → y.1 = "__class__" by decide +kernel) _ (PySem.mem_of_lookup h) rfl, by decide +kernel, by decide +kernel⟩
theorem ok_WI {f cc cda fS : Addr} {dV kV doc pm ct oc mc : Value} {an od : Option Addr} {osl : Array (Option Value)} {fdS : FuncData} {tm tj tl : Tok} (T : Fns K mg a d) (SC : SupP P K mg a.cWrite a.cWrite cc cda "__init__" fS)
    (lk : K.lookup f = some ⟨oc, od, .func (PySem.W.ksFn "__init__" "Write.__init__" (defArgs sWI) (defBody sWI) (defScope sWI) dV kV doc pm an (.ref cda) ct cc), osl⟩) (hcd : PySem.W.codeIn K (.ref cda) "Write.__init__" = true)
    (FS : Fun K "__init__" "Stage.__init__" sSI fS fdS) (bS : Binds K fdS ["self", "alphabet"] []) (AV : AlV K mg a.cAlphabet mc tm tj tl) (hB : Hnd K a.cBadSet) (GBadSet : FnOk P w K mg base CX0 1 a.eBadSet d.eBadSet ["self", "name"] (spErr a.cBadSet "name"))
    (HBadStage : L2H.FnH P w K mg base CX0 1 a.eBadStage d.eBadStage ["self", "what"] (spErr a.cBadStage "what")) (GBadStage : FnOk P w K mg base CX0 1 a.eBadStage d.eBadStage ["self", "what"] (spErr a.cBadStage "what")) :
    FnOk P w K mg base (L2.CX P w) 6 f (PySem.W.ksFn "__init__" "Write.__init__" (defArgs sWI) (defBody sWI) (defScope sWI) dV kV doc pm an (.ref cda) ct cc) ["self", "alphabet", "sign", "name"] (spInit 0 a.cWrite a.cAlphabet a.cBadStage) := by
  have GSetOf := ok_setOf (P := P) (w := w) (base := base) T AV hB GBadSet HBadStage
  have GCheckSign := ok_checkSign (P := P) (w := w) (base := base) T GBadStage
  have GS : FnOk P w K mg base CX0 1 fS fdS ["self", "alphabet"] (spSI K) := ok_SI FS
  refine fn_superP (self := "self") (N' := ["alphabet", "sign", "name"]) SC (by decide) lk hcd scWI rfl rfl rfl rfl (fun _ => rfl) (fun _ => rfl) (fun _ => rfl) (fun _ => rfl) (fun vs H Q E h => ?_) (fun A outer s H vs Q E hr h => ?_)
  · obtain ⟨p, dx, al, l, v, sg, nm, rfl, _⟩ := h
    rfl
  · obtain ⟨p, dx, al, l, v, sg, nm, rfl, hp, hal, hap, hsl, hnl, hnc, k1, k2⟩ := h
    have hclWr := T.clWr
    have hnWral := T.nWral
    have hnWrsg := T.nWrsg
    have hnWrsi := T.nWrsi
    have hnWrnm := T.nWrnm
    refine ⟨_, _, _, 1, E0, CX0, (pa_cons (pv 1) pa_nil), (pss_cons (ps_expr (pe_call GCheckSign (hr.mono (by decide)) (by rfl) T.gPCheckSign T.FPCheckSign.kp T.bPCheckSign .nil (passes_call (takes_of rfl rfl rfl rfl) (fun _ _ _ _ h => h)) (pa_cons (pv 1) (pa_cons (pv 2) pa_nil)))) (pss_cons (ps_fld (pv 0) (pe_call GSetOf (hr.mono (by decide)) (by rfl) T.gPSignsOfSet T.FPSignsOfSet.kp T.bPSignsOfSet .nil (passes_call (takes_of rfl rfl rfl rfl) (fun _ _ _ _ h => h)) (pa_cons (pv 1) (pa_cons (pv 3) pa_nil))) rfl) (pss_cons (ps_fld (pv 0) (pv 2) rfl) (pss_one (ps_fld (pv 0) (pv 3) rfl))))), GS.raw bS .nil, hr.mono (by decide), pass0, p, dx, [], rfl, hp, ?_⟩
    refine iSeq ?_
    refine ⟨_, rfl, p, a.cWrite, dx, al, rfl, hp, T.clWr, T.nWral, ?_⟩
    have hp1 : (upd H p (.ins a.cWrite dx [("alphabet", .ref al)])) p = some (.ins a.cWrite dx [("alphabet", .ref al)]) := upd_same
    have f1 : Fr [p] H (upd H p (.ins a.cWrite dx [("alphabet", .ref al)])) := Fr.in0
    have hdd : ∀ {y : Addr}, (upd H p (.ins a.cWrite dx [("alphabet", .ref al)])) y = none → H y = none := fun {y} hy => by
      have : y ≠ p := fun e => by
        rw [e, hp1] at hy
        cases hy
      rw [upd_ne this] at hy
      exact hy
    generalize upd H p (.ins a.cWrite dx [("alphabet", .ref al)]) = H1 at hp1 f1 hdd
    have hal1 := hal.fr f1 (by simpa using hap)
    walk_at "go"
    refine ⟨al, l, v, sg, rfl, hal1, hsl, fun hsb H2 s2 => ?_, fun hsb dd H2 h1 h2 h3 => ?_⟩
    rotate_left
    · exact k2 _ (by unfold whatOf; rw [if_pos ⟨by decide, hsb⟩]) dd H2 (hdd h1) h2 (Fr.trans f1 (Fr.of_same h3))
    have hal2 := hal1.same s2
    have hp1 := s2 _ _ hp1
    have f1 := Fr.trans f1 (Fr.of_same s2)
    have hdd : ∀ {y : Addr}, H2 y = none → H y = none := fun {y} hy => hdd (L2.Same.free s2 hy)
    walk_at "go"
    refine ⟨al, l, v, nm, rfl, hal2, hnl, hnc, fun ms hms H3 s3 => ?_, fun hno dd H3 h1 h2 h3 => ?_⟩
    rotate_left
    · exact k2 _ (by unfold whatOf; rw [if_neg (by simp [hsb]), if_pos ⟨by decide, hno⟩]) dd H3 (hdd h1) h2 (Fr.trans f1 (Fr.of_same h3))
    have hp3 := s3 _ _ hp1
    walk_at "go"
    exact k1 (by unfold whatOf; rw [if_neg (by simp [hsb]), if_neg (by rw [hms]; simp)]) ms (fun _ => hms) _ upd_same (by walk_at "fr")
abbrev sOI : Stmt := inClass (top 17) 0
theorem scOI : SScope ["self", "alphabet", "name"] (defScope sOI) := ⟨rfl, rfl, rfl, by decide +kernel, by decide +kernel, by decide +kernel, fun x h => (show ∀ y ∈ (defScope sOI).names, y.2 = .free → y.1 = "__class__" by decide +kernel) _ (PySem.mem_of_lookup h) rfl, by decide +kernel, by decide +kernel⟩
theorem ok_OI {f cc cda fS : Addr} {dV kV doc pm ct oc mc : Value} {an od : Option Addr} {osl : Array (Option Value)} {fdS : FuncData} {tm tj tl : Tok} (T : Fns K mg a d) (SC : SupP P K mg a.cOnce a.cOnce cc cda "__init__" fS)
    (lk : K.lookup f = some ⟨oc, od, .func (PySem.W.ksFn "__init__" "Once.__init__" (defArgs sOI) (defBody sOI) (defScope sOI) dV kV doc pm an (.ref cda) ct cc), osl⟩) (hcd : PySem.W.codeIn K (.ref cda) "Once.__init__" = true)
    (FS : Fun K "__init__" "Stage.__init__" sSI fS fdS) (bS : Binds K fdS ["self", "alphabet"] []) (AV : AlV K mg a.cAlphabet mc tm tj tl) (hB : Hnd K a.cBadSet) (GBadSet : FnOk P w K mg base CX0 1 a.eBadSet d.eBadSet ["self", "name"] (spErr a.cBadSet "name"))
    (HBadStage : L2H.FnH P w K mg base CX0 1 a.eBadStage d.eBadStage ["self", "what"] (spErr a.cBadStage "what")) (GBadStage : FnOk P w K mg base CX0 1 a.eBadStage d.eBadStage ["self", "what"] (spErr a.cBadStage "what")) :
    FnOk P w K mg base (L2.CX P w) 6 f (PySem.W.ksFn "__init__" "Once.__init__" (defArgs sOI) (defBody sOI) (defScope sOI) dV kV doc pm an (.ref cda) ct cc) ["self", "alphabet", "name"] (spInit 1 a.cOnce a.cAlphabet a.cBadStage) := by
  have GSetOf := ok_setOf (P := P) (w := w) (base := base) T AV hB GBadSet HBadStage
  have GCheckSign := ok_checkSign (P := P) (w := w) (base := base) T GBadStage
  have GS : FnOk P w K mg base CX0 1 fS fdS ["self", "alphabet"] (spSI K) := ok_SI FS
  refine fn_superP (self := "self") (N' := ["alphabet", "name"]) SC (by decide) lk hcd scOI rfl rfl rfl rfl (fun _ => rfl) (fun _ => rfl) (fun _ => rfl) (fun _ => rfl) (fun vs H Q E h => ?_) (fun A outer s H vs Q E hr h => ?_)
  · obtain ⟨p, dx, al, l, v, sg, nm, rfl, _⟩ := h
    rfl
  · obtain ⟨p, dx, al, l, v, sg, nm, rfl, hp, hal, hap, hsl, hnl, hnc, k1, k2⟩ := h
    have hclOn := T.clOn
    have hnOnal := T.nOnal
    have hnOnsg := T.nOnsg
    have hnOnnm := T.nOnnm
    refine ⟨_, _, _, 1, E0, CX0, (pa_cons (pv 1) pa_nil), (pss_cons (ps_fld (pv 0) (pe_call GSetOf (hr.mono (by decide)) (by rfl) T.gPSignsOfSet T.FPSignsOfSet.kp T.bPSignsOfSet .nil (passes_call (takes_of rfl rfl rfl rfl) (fun _ _ _ _ h => h)) (pa_cons (pv 1) (pa_cons (pv 2) pa_nil))) rfl) (pss_one (ps_fld (pv 0) (pv 2) rfl))), GS.raw bS .nil, hr.mono (by decide), pass0, p, dx, [], rfl, hp, ?_⟩
    refine iSeq ?_
    refine ⟨_, rfl, p, a.cOnce, dx, al, rfl, hp, T.clOn, T.nOnal, ?_⟩
    have hp1 : (upd H p (.ins a.cOnce dx [("alphabet", .ref al)])) p = some (.ins a.cOnce dx [("alphabet", .ref al)]) := upd_same
    have f1 : Fr [p] H (upd H p (.ins a.cOnce dx [("alphabet", .ref al)])) := Fr.in0
    have hdd : ∀ {y : Addr}, (upd H p (.ins a.cOnce dx [("alphabet", .ref al)])) y = none → H y = none := fun {y} hy => by
      have : y ≠ p := fun e => by
        rw [e, hp1] at hy
        cases hy
      rw [upd_ne this] at hy
      exact hy
    generalize upd H p (.ins a.cOnce dx [("alphabet", .ref al)]) = H1 at hp1 f1 hdd
    have hal1 := hal.fr f1 (by simpa using hap)
    walk_at "go"
    refine ⟨al, l, v, nm, rfl, hal1, hnl, hnc, fun ms hms H2 s2 => ?_, fun hno dd H2 h1 h2 h3 => ?_⟩
    rotate_left
    · exact k2 _ (by unfold whatOf; rw [if_neg (by simp), if_pos ⟨by decide, hno⟩]) dd H2 (hdd h1) h2 (Fr.trans f1 (Fr.of_same h3))
    have hp2 := s2 _ _ hp1
    walk_at "go"
    exact k1 (by unfold whatOf; rw [if_neg (by simp), if_neg (by rw [hms]; simp)]) ms (fun _ => hms) _ upd_same (by walk_at "fr")
abbrev sAI2 : Stmt := inClass (top 18) 0
theorem scAI2 : SScope ["self", "alphabet", "sign"] (defScope sAI2) := ⟨rfl, rfl, rfl, by decide +kernel, by decide +kernel, by decide +kernel, fun x h => (show ∀ y ∈ (defScope sAI2).names, y.2 = .free → y.1 = "__class__" by decide +kernel) _ (PySem.mem_of_lookup h) rfl, by decide +kernel, by decide +kernel⟩
theorem ok_AI {f cc cda fS : Addr} {dV kV doc pm ct oc mc : Value} {an od : Option Addr} {osl : Array (Option Value)} {fdS : FuncData} {tm tj tl : Tok} (T : Fns K mg a d) (SC : SupP P K mg a.cAdd a.cAdd cc cda "__init__" fS)
    (lk : K.lookup f = some ⟨oc, od, .func (PySem.W.ksFn "__init__" "Add.__init__" (defArgs sAI2) (defBody sAI2) (defScope sAI2) dV kV doc pm an (.ref cda) ct cc), osl⟩) (hcd : PySem.W.codeIn K (.ref cda) "Add.__init__" = true)
    (FS : Fun K "__init__" "Stage.__init__" sSI fS fdS) (bS : Binds K fdS ["self", "alphabet"] []) (AV : AlV K mg a.cAlphabet mc tm tj tl) (hB : Hnd K a.cBadSet) (GBadSet : FnOk P w K mg base CX0 1 a.eBadSet d.eBadSet ["self", "name"] (spErr a.cBadSet "name"))
    (HBadStage : L2H.FnH P w K mg base CX0 1 a.eBadStage d.eBadStage ["self", "what"] (spErr a.cBadStage "what")) (GBadStage : FnOk P w K mg base CX0 1 a.eBadStage d.eBadStage ["self", "what"] (spErr a.cBadStage "what")) :
    FnOk P w K mg base (L2.CX P w) 6 f (PySem.W.ksFn "__init__" "Add.__init__" (defArgs sAI2) (defBody sAI2) (defScope sAI2) dV kV doc pm an (.ref cda) ct cc) ["self", "alphabet", "sign"] (spInit 2 a.cAdd a.cAlphabet a.cBadStage) := by
  have GSetOf := ok_setOf (P := P) (w := w) (base := base) T AV hB GBadSet HBadStage
  have GCheckSign := ok_checkSign (P := P) (w := w) (base := base) T GBadStage
  have GS : FnOk P w K mg base CX0 1 fS fdS ["self", "alphabet"] (spSI K) := ok_SI FS
  refine fn_superP (self := "self") (N' := ["alphabet", "sign"]) SC (by decide) lk hcd scAI2 rfl rfl rfl rfl (fun _ => rfl) (fun _ => rfl) (fun _ => rfl) (fun _ => rfl) (fun vs H Q E h => ?_) (fun A outer s H vs Q E hr h => ?_)
  · obtain ⟨p, dx, al, l, v, sg, nm, rfl, _⟩ := h
    rfl
  · obtain ⟨p, dx, al, l, v, sg, nm, rfl, hp, hal, hap, hsl, hnl, hnc, k1, k2⟩ := h
    have hclAd := T.clAd
    have hnAdal := T.nAdal
    have hnAdsi := T.nAdsi
    refine ⟨_, _, _, 1, E0, CX0, (pa_cons (pv 1) pa_nil), (pss_cons (ps_expr (pe_call GCheckSign (hr.mono (by decide)) (by rfl) T.gPCheckSign T.FPCheckSign.kp T.bPCheckSign .nil (passes_call (takes_of rfl rfl rfl rfl) (fun _ _ _ _ h => h)) (pa_cons (pv 1) (pa_cons (pv 2) pa_nil)))) (pss_one (ps_fld (pv 0) (pv 2) rfl))), GS.raw bS .nil, hr.mono (by decide), pass0, p, dx, [], rfl, hp, ?_⟩
    refine iSeq ?_
    refine ⟨_, rfl, p, a.cAdd, dx, al, rfl, hp, T.clAd, T.nAdal, ?_⟩
    have hp1 : (upd H p (.ins a.cAdd dx [("alphabet", .ref al)])) p = some (.ins a.cAdd dx [("alphabet", .ref al)]) := upd_same
    have f1 : Fr [p] H (upd H p (.ins a.cAdd dx [("alphabet", .ref al)])) := Fr.in0
    have hdd : ∀ {y : Addr}, (upd H p (.ins a.cAdd dx [("alphabet", .ref al)])) y = none → H y = none := fun {y} hy => by
      have : y ≠ p := fun e => by
        rw [e, hp1] at hy
        cases hy
      rw [upd_ne this] at hy
      exact hy
    generalize upd H p (.ins a.cAdd dx [("alphabet", .ref al)]) = H1 at hp1 f1 hdd
    have hal1 := hal.fr f1 (by simpa using hap)
    walk_at "go"
    refine ⟨al, l, v, sg, rfl, hal1, hsl, fun hsb H2 s2 => ?_, fun hsb dd H2 h1 h2 h3 => ?_⟩
    rotate_left
    · exact k2 _ (by unfold whatOf; rw [if_pos ⟨by decide, hsb⟩]) dd H2 (hdd h1) h2 (Fr.trans f1 (Fr.of_same h3))
    have hp2 := s2 _ _ hp1
    walk_at "go"
    exact k1 (by unfold whatOf; rw [if_neg (by simp [hsb]), if_neg (by simp)]) [] (fun h => absurd rfl h) _ upd_same (by walk_at "fr")
end
end
section
set_option Elab.async false
set_option linter.all false
set_option maxRecDepth 100000
set_option maxHeartbeats 2000000
open PySem PySem.Spec PyProof.Rows L2

local macro_rules | `(tactic| walk_at "side") => `(tactic| exact .inl (by assumption))
section
variable {P : Program} {w : World} {K : PySem.W.Frag} {mg : Str → Option Value} {base : Heap} {a : Ad} {d : Fd}
def spCallI (k : Nat) (C CA BT : Addr) : Sp := fun vs H Q E => ∃ (p dx al : Addr) (l v nm ms t : List Nat) (x : Nat), vs = [.ref p, .str (S t)] ∧ H p = some (.ins C dx (stFs k al nm [x] ms)) ∧ IsAl CA H al l v ∧ Tx t ∧
  ((∀ c ∈ t, c ∈ 45 :: srtL l) → ∀ H', Same H H' → Q (.str (S (dueL k x ms t))) H') ∧
  ((¬ ∀ c ∈ t, c ∈ 45 :: srtL l) → ∀ dd H', H dd = none → H' dd = some (.xd [("text", .str (S t))]) → Same H H' → E (.ref BT) (some dd) H')
theorem scWriteCall : FnScope ["self", "text", "sign"] ["self", "text"] (defScope sWriteCall) := ⟨rfl, rfl, rfl, by decide +kernel, rfl, by decide +kernel, by decide +kernel⟩
theorem ok_WriteCall (T : Fns K mg a d) (GBadText : FnOk P w K mg base CX0 1 a.eBadText d.eBadText ["self", "text"] (spErr a.cBadText "text")) : FnOk P w K mg base (L2.CX P w) 4 a.aWriteCall d.dWriteCall ["self", "text"] (spCallI 0 a.cWrite a.cAlphabet a.cBadText) := by
  have GCheck := ok_check (P := P) (w := w) (base := base) T GBadText
  have hclWr := T.clWr
  have hnWral := T.nWral
  have hnWrsg := T.nWrsg
  have hnWrsi := T.nWrsi
  refine T.FWriteCall.okX scWriteCall (fun vs H Q E h => ?_) (fun cdv A0 outer s H vs Q E hr h => ?_)
  · obtain ⟨p, dx, al, l, v, nm, ms, t, x, rfl, _⟩ := h
    rfl
  · obtain ⟨p, dx, al, l, v, nm, ms, t, x, rfl, hp, hal, htx, k1, k2⟩ := h
    have hp : H p = some (.ins a.cWrite dx [("alphabet", .ref al), ("signs", .str (S ms)), ("sign", .str (S [x])), ("name", .str (S nm))]) := hp
    obtain ⟨dxa, hal2⟩ := id hal
    have htl := htx.1
    refine ⟨_, (pss_cons (ps_expr (pe_meth (pe_fld (pv 0) rfl) T.clA T.mCheck GCheck (hr.mono (by decide)) T.bCheck .nil (passes_call (takes_of rfl rfl rfl rfl) (fun _ _ _ _ h => h)) (pa_cons (pv 1) pa_nil))) (pss_one (ps_ret (pe_join (pe_strS (l := []) (by decide +kernel)) (pe_lc (own := [("sign", 2)]) (g := gName 2) (by rfl) scWriteCall.nd (pi_str (pv 1)) (blkOk_by (own := [("sign", 2)]) (N := ["self", "text", "sign"]) (sc := defScope sWriteCall) (by decide +kernel)) (fun _ _ _ _ _ => pg_name (i := 2) scWriteCall.nd rfl (Or.inl rfl)) (fun _ _ _ _ _ => pts_nil) (fun _ _ _ _ _ => (pe_ifExp (pt_cmpR op_inS (pv 2) (pe_fldK (K := K) (by rfl) (pv 0) (by rfl)) rfl) (pe_fldK (K := K) (by rfl) (pv 0) (by rfl)) (pv 2)))))))), ?_⟩
    walk_at "go"
    refine ⟨al, l, v, t, rfl, hal, htx, fun hv H1 s1 => ?_, fun hv dd H1 h1 h2 h3 => k2 hv dd H1 h1 h2 h3⟩
    · have hp1 := s1 _ _ hp
      walk_at "go"
      rename_i D hD
      refine lc_text (l := t) (fun _ => true) (fun c => V.str (S [if c ∈ ms then x else c])) (by omega) (fun _ => rfl) (fun _ _ _ _ _ q => q) (fun c hc hq H2 Q2 off q => ?_) ?_
      · have hp2 := (off p (ne_of_none hp1 hD)).trans hp1
        walk_at "go"
        · rename_i hcm
          rw [if_pos hcm] at q
          exact q
        · rename_i hcm
          rw [if_neg hcm] at q
          exact q
      · rw [List.filter_eq_self.mpr (fun _ _ => rfl)]
        refine iJoinS (l := t.map fun c => if c ∈ ms then x else c) (SqL.of ?_) (by rw [List.length_map]; omega) (k1 hv _ (Vk.Same.trans s1 (Same.upd_new hD)))
        rw [upd_same, List.map_map]
        rfl
theorem scOnceCall : FnScope ["self", "text", "at", "sign"] ["self", "text"] (defScope sOnceCall) := ⟨rfl, rfl, rfl, by decide +kernel, rfl, by decide +kernel, by decide +kernel⟩
theorem ok_OnceCall (T : Fns K mg a d) (GBadText : FnOk P w K mg base CX0 1 a.eBadText d.eBadText ["self", "text"] (spErr a.cBadText "text")) : FnOk P w K mg base (L2.CX P w) 4 a.aOnceCall d.dOnceCall ["self", "text"] (spCallI 1 a.cOnce a.cAlphabet a.cBadText) := by
  have GCheck := ok_check (P := P) (w := w) (base := base) T GBadText
  have hclOn := T.clOn
  have hnOnal := T.nOnal
  have hnOnsg := T.nOnsg
  refine T.FOnceCall.okX scOnceCall (fun vs H Q E h => ?_) (fun cdv A0 outer s H vs Q E hr h => ?_)
  · obtain ⟨p, dx, al, l, v, nm, ms, t, x, rfl, _⟩ := h
    rfl
  · obtain ⟨p, dx, al, l, v, nm, ms, t, x, rfl, hp, hal, htx, k1, k2⟩ := h
    have hp : H p = some (.ins a.cOnce dx [("alphabet", .ref al), ("signs", .str (S ms)), ("name", .str (S nm))]) := hp
    obtain ⟨dxa, hal2⟩ := id hal
    have htl := htx.1
    refine ⟨_, (pss_cons (ps_expr (pe_meth (pe_fld (pv 0) rfl) T.clA T.mCheck GCheck (hr.mono (by decide)) T.bCheck .nil (passes_call (takes_of rfl rfl rfl rfl) (fun _ _ _ _ h => h)) (pa_cons (pv 1) pa_nil))) (pss_one (ps_ret (pe_join (pe_strS (l := []) (by decide +kernel)) (pe_lc (own := [("at", 2), ("sign", 3)]) (g := gTup K 2 (gCons (gName 2) (gCons (gName 3) gNil))) (by rfl) scOnceCall.nd (pi_enumS (by rfl) T.z_enum (pa_cons (pv 1) pa_nil)) (blkOk_by (own := [("at", 2), ("sign", 3)]) (N := ["self", "text", "at", "sign"]) (sc := defScope sOnceCall) (by decide +kernel)) (fun _ _ _ _ _ => pg_tup rfl (pgs_cons (pg_name (i := 2) scOnceCall.nd rfl (Or.inl rfl)) (pgs_cons (pg_name (i := 3) scOnceCall.nd rfl (Or.inl rfl)) pgs_nil)))
      (fun _ _ _ _ _ => (pts_one (PW.pt (pw_or (pt_cmpR op_eq (pv 2) pe_int (nomark _)) (pw_or (pt_cmpR op_ne (pv 3) (pe_ix ix_str (pv 1) (pe_op op_sub (pv 2) pe_int) (fun _ _ => rfl)) (nomark _)) (pw_or1 (pt_cmpR op_notInS (pv 3) (pe_fldK (K := K) (by rfl) (pv 0) (by rfl)) rfl))))))) (fun _ _ _ _ _ => (pv 3))))))), ?_⟩
    walk_at "go"
    refine ⟨al, l, v, t, rfl, hal, htx, fun hv H1 s1 => ?_, fun hv dd H1 h1 h2 h3 => k2 hv dd H1 h1 h2 h3⟩
    · have hp1 := s1 _ _ hp
      walk_at "go"
      refine ⟨_, rfl, S t, rfl, fun D hD => ?_⟩
      refine lc_it walk_enumS (fun i H' => H' D = some (.lst ((onceL t ms i).map fun c => V.str (S [c]))) ∧ Fr [D] H1 H') ⟨upd_same, Fr.in0⟩ (fun _ _ _ _ => trivial) ?_ ?_
      · rintro i y H3 H4 hi ⟨hD3, f3⟩ ⟨T, c, rfl, hT, hc, rfl⟩
        have hx1 : t[i]? = some c := S_get.mp hc
        have hDT : D ≠ T := ne_of_none hD3 hT
        have hD4 : (upd H3 T (.tup [.int (i : Nat), .str (S [c])])) D = some (.lst ((onceL t ms i).map fun c => V.str (S [c]))) := upd_oth hDT hD3
        have f4 : Fr [D] H1 (upd H3 T (.tup [.int (i : Nat), .str (S [c])])) := Fr.trans f3 (Fr.upd_new hT)
        have hp4 := f4 _ _ (by simpa using ne_of_none hp1 hD) hp1
        refine ⟨T, [.int (i : Nat), .str (S [c])], rfl, SqT.of upd_same, rfl, .int (i : Nat), [.str (S [c])], rfl, .str (S [c]), [], rfl, rfl, rfl, ?_⟩
        have hol := onceL_len t ms i
        have hit : i < t.length := (List.getElem?_eq_some_iff.mp hx1).1
        have hsx := onceL_succ t ms i
        rw [hx1] at hsx
        show tOr _ _ _ (upd H3 T (.tup [.int (i : Nat), .str (S [c])])) _
        generalize upd H3 T (.tup [.int (i : Nat), .str (S [c])]) = H4 at hD4 f4 hp4
        have yes : keepB t ms i = true → ((onceL t ms i).map fun c => V.str (S [c])).length < sizeLine ∧ ((upd H4 D (.lst (((onceL t ms i).map fun c => V.str (S [c])) ++ [.str (S [c])]))) D = some (.lst ((onceL t ms (i + 1)).map fun c => V.str (S [c]))) ∧ Fr [D] H1 (upd H4 D (.lst (((onceL t ms i).map fun c => V.str (S [c])) ++ [.str (S [c])])))) := fun hk => by
          refine ⟨by rw [List.length_map, sizeLine_eq]; omega, ?_, Fr.trans f4 Fr.in0⟩
          rw [upd_same, hsx, if_pos hk, List.map_append]
          rfl
        have no : keepB t ms i = false → H4 D = some (.lst ((onceL t ms (i + 1)).map fun c => V.str (S [c]))) := fun hk => by
          rw [hsx, hk, if_neg Bool.false_ne_true, List.append_nil]
          exact hD4
        cases i with
        | zero =>
          walk_at "go"
          exact yes rfl
        | succ j =>
          have hj : j < t.length := by omega
          have hy1 : t[j]? = some t[j] := List.getElem?_eq_getElem hj
          generalize t[j] = e at hy1
          have ha0 : atI t (((j + 1 : Nat) : Int) - 1) = some e := by rw [show ((j + 1 : Nat) : Int) - 1 = (j : Int) by omega]; exact atI_nat hy1
          have hkb : keepB t ms (j + 1) = ((!decide (c = e)) || !decide (c ∈ ms)) := by
            show ((!decide (t[j + 1]? = t[j]?)) || (match t[j + 1]? with | some c => !decide (c ∈ ms) | none => false)) = _
            rw [hx1, hy1]
            simp
          walk_at "go"
          · rename_i h1 h2
            exact yes (by rw [hkb, decide_eq_false h2]; rfl)
          · rename_i h1 h2 h3
            exact yes (by rw [hkb, decide_eq_false h3, Bool.or_comm]; rfl)
          · rename_i h1 h2 h3
            exact ⟨no (by rw [hkb, decide_eq_true h2, decide_eq_true h3]; rfl), f4⟩
      · rintro H3 ⟨hD3, f3⟩
        rw [S_size] at hD3
        have hol := onceL_len t ms t.length
        exact iJoinS (SqL.of hD3) (by omega) (k1 hv _ (Vk.Same.trans s1 (Fr.forget1 f3 hD)))
theorem scAddCall : FnScope ["self", "text"] ["self", "text"] (defScope sAddCall) := ⟨rfl, rfl, rfl, by decide +kernel, rfl, by decide +kernel, by decide +kernel⟩
theorem ok_AddCall (T : Fns K mg a d) (GBadText : FnOk P w K mg base CX0 1 a.eBadText d.eBadText ["self", "text"] (spErr a.cBadText "text")) : FnOk P w K mg base (L2.CX P w) 4 a.aAddCall d.dAddCall ["self", "text"] (spCallI 2 a.cAdd a.cAlphabet a.cBadText) := by
  have GCheck := ok_check (P := P) (w := w) (base := base) T GBadText
  have hclAd := T.clAd
  have hnAdal := T.nAdal
  have hnAdsi := T.nAdsi
  refine T.FAddCall.okX scAddCall (fun vs H Q E h => ?_) (fun cdv A0 outer s H vs Q E hr h => ?_)
  · obtain ⟨p, dx, al, l, v, nm, ms, t, x, rfl, _⟩ := h
    rfl
  · obtain ⟨p, dx, al, l, v, nm, ms, t, x, rfl, hp, hal, htx, k1, k2⟩ := h
    have hp : H p = some (.ins a.cAdd dx [("alphabet", .ref al), ("sign", .str (S [x]))]) := hp
    obtain ⟨dxa, hal2⟩ := id hal
    have htl := htx.1
    refine ⟨_, (pss_cons (ps_expr (pe_meth (pe_fld (pv 0) rfl) T.clA T.mCheck GCheck (hr.mono (by decide)) T.bCheck .nil (passes_call (takes_of rfl rfl rfl rfl) (fun _ _ _ _ h => h)) (pa_cons (pv 1) pa_nil))) (pss_one (ps_ret (pe_op op_addS (pv 1) (pe_fld (pv 0) rfl))))), ?_⟩
    walk_at "go"
    refine ⟨al, l, v, t, rfl, hal, htx, fun hv H1 s1 => ?_, fun hv dd H1 h1 h2 h3 => k2 hv dd H1 h1 h2 h3⟩
    · have hp1 := s1 _ _ hp
      walk_at "go"
      exact k1 hv _ s1
def strOf (k : Nat) (nm sg : List Nat) : List Nat := match k with
  | 0 => [119, 114, 105, 116, 101, 32] ++ sg ++ [32, 102, 111, 114, 32] ++ nm
  | 1 => [111, 110, 99, 101, 32] ++ nm
  | _ => [97, 100, 100, 32] ++ sg
def spStr (k : Nat) (C : Addr) : Sp := fun vs H Q _ => ∃ (p dx al : Addr) (nm sg ms : List Nat), vs = [.ref p] ∧ H p = some (.ins C dx (stFs k al nm sg ms)) ∧ nm.length ≤ 100 ∧ sg.length ≤ 100 ∧ Q (.str (S (strOf k nm sg))) H
theorem scWriteStr : FnScope ["self"] ["self"] (defScope sWriteStr) := ⟨rfl, rfl, rfl, by decide +kernel, rfl, by decide +kernel, by decide +kernel⟩
theorem ok_WriteStr (T : Fns K mg a d) : FnOk P w K mg base CX0 1 a.aWriteStr d.dWriteStr ["self"] (spStr 0 a.cWrite) := by
  refine T.FWriteStr.ok scWriteStr (fun vs H Q E h => ?_) (fun cdv A0 outer s H vs Q E hr h => ?_)
  · obtain ⟨p, dx, al, nm, sg, ms, rfl, _⟩ := h
    rfl
  · obtain ⟨p, dx, al, nm, sg, ms, rfl, hp, hn, hs, kq⟩ := h
    have hp : H p = some (.ins a.cWrite dx [("alphabet", .ref al), ("signs", .str (S ms)), ("sign", .str (S sg)), ("name", .str (S nm))]) := hp
    have q0 : (PySem.Str.ofString "write ").length = 6 := by decide +kernel
    have q1 : (PySem.Str.ofString " for ").length = 5 := by decide +kernel
    refine ⟨_, (pss_one (ps_ret (pe_joined (.cons pe_str (.cons (pe_fmt (pe_fld (pv 0) rfl)) (.cons pe_str (.cons (pe_fmt (pe_fld (pv 0) rfl)) .nil))))))), ?_⟩
    refine ⟨_, rfl, sl4 (by simp only [al2, S_len, e0l, q0, q1]; omega), _, rfl, p, a.cWrite, dx, _, _, rfl, hp, T.clWr, T.nWrsi, rfl, .inl ⟨S sg, rfl, sl4 (by rw [S_len]; omega), _, rfl, sl4 (by simp only [al2, S_len, e0l, q0, q1]; omega), _, rfl, sl4 (by simp only [al2, S_len, e0l, q0, q1]; omega), _, rfl, p, a.cWrite, dx, _, _, rfl, hp, T.clWr, T.nWrnm, rfl, .inl ⟨S nm, rfl, sl4 (by rw [S_len]; omega), _, rfl, sl4 (by simp only [al2, S_len, e0l, q0, q1]; omega), ?_⟩⟩⟩
    have e : ((((Str.empty ++ PySem.Str.ofString "write ") ++ S sg) ++ PySem.Str.ofString " for ") ++ S nm) = S (strOf 0 nm sg) := by
      rw [show Str.empty = S [] by decide +kernel, show PySem.Str.ofString "write " = S [119, 114, 105, 116, 101, 32] by decide +kernel, show PySem.Str.ofString " for " = S [32, 102, 111, 114, 32] by decide +kernel]
      simp only [S_app]
      rfl
    rw [← e] at kq
    exact kq
theorem scOnceStr : FnScope ["self"] ["self"] (defScope sOnceStr) := ⟨rfl, rfl, rfl, by decide +kernel, rfl, by decide +kernel, by decide +kernel⟩
theorem ok_OnceStr (T : Fns K mg a d) : FnOk P w K mg base CX0 1 a.aOnceStr d.dOnceStr ["self"] (spStr 1 a.cOnce) := by
  refine T.FOnceStr.ok scOnceStr (fun vs H Q E h => ?_) (fun cdv A0 outer s H vs Q E hr h => ?_)
  · obtain ⟨p, dx, al, nm, sg, ms, rfl, _⟩ := h
    rfl
  · obtain ⟨p, dx, al, nm, sg, ms, rfl, hp, hn, hs, kq⟩ := h
    have hp : H p = some (.ins a.cOnce dx [("alphabet", .ref al), ("signs", .str (S ms)), ("name", .str (S nm))]) := hp
    have q0 : (PySem.Str.ofString "once ").length = 5 := by decide +kernel
    refine ⟨_, (pss_one (ps_ret (pe_joined (.cons pe_str (.cons (pe_fmt (pe_fld (pv 0) rfl)) .nil))))), ?_⟩
    refine ⟨_, rfl, sl4 (by simp only [al2, S_len, e0l, q0]; omega), _, rfl, p, a.cOnce, dx, _, _, rfl, hp, T.clOn, T.nOnnm, rfl, .inl ⟨S nm, rfl, sl4 (by rw [S_len]; omega), _, rfl, sl4 (by simp only [al2, S_len, e0l, q0]; omega), ?_⟩⟩
    have e : ((Str.empty ++ PySem.Str.ofString "once ") ++ S nm) = S (strOf 1 nm sg) := by
      rw [show Str.empty = S [] by decide +kernel, show PySem.Str.ofString "once " = S [111, 110, 99, 101, 32] by decide +kernel]
      simp only [S_app]
      rfl
    rw [← e] at kq
    exact kq
theorem scAddStr : FnScope ["self"] ["self"] (defScope sAddStr) := ⟨rfl, rfl, rfl, by decide +kernel, rfl, by decide +kernel, by decide +kernel⟩
theorem ok_AddStr (T : Fns K mg a d) : FnOk P w K mg base CX0 1 a.aAddStr d.dAddStr ["self"] (spStr 2 a.cAdd) := by
  refine T.FAddStr.ok scAddStr (fun vs H Q E h => ?_) (fun cdv A0 outer s H vs Q E hr h => ?_)
  · obtain ⟨p, dx, al, nm, sg, ms, rfl, _⟩ := h
    rfl
  · obtain ⟨p, dx, al, nm, sg, ms, rfl, hp, hn, hs, kq⟩ := h
    have hp : H p = some (.ins a.cAdd dx [("alphabet", .ref al), ("sign", .str (S sg))]) := hp
    have q0 : (PySem.Str.ofString "add ").length = 4 := by decide +kernel
    refine ⟨_, (pss_one (ps_ret (pe_joined (.cons pe_str (.cons (pe_fmt (pe_fld (pv 0) rfl)) .nil))))), ?_⟩
    refine ⟨_, rfl, sl4 (by simp only [al2, S_len, e0l, q0]; omega), _, rfl, p, a.cAdd, dx, _, _, rfl, hp, T.clAd, T.nAdsi, rfl, .inl ⟨S sg, rfl, sl4 (by rw [S_len]; omega), _, rfl, sl4 (by simp only [al2, S_len, e0l, q0]; omega), ?_⟩⟩
    have e : ((Str.empty ++ PySem.Str.ofString "add ") ++ S sg) = S (strOf 2 nm sg) := by
      rw [show Str.empty = S [] by decide +kernel, show PySem.Str.ofString "add " = S [97, 100, 100, 32] by decide +kernel]
      simp only [S_app]
      rfl
    rw [← e] at kq
    exact kq
end
end
section
set_option Elab.async false
set_option linter.all false
set_option maxRecDepth 100000
set_option maxHeartbeats 2000000
open PySem PySem.Spec PyProof.Rows L2
/-! which names are names of sets -/
structure AlOk (l v : List Nat) : Prop where
  dl : Differ l azL
  h1 : 1 ≤ l.length
  h4 : l.length ≤ 4
  vn : v.Nodup
  vl : ∀ c ∈ v, c ∈ l
theorem az_ge : ∀ c ∈ azL, 97 ≤ c ∧ c ≤ 122 := by decide +kernel
theorem AlOk.ge {l v : List Nat} (h : AlOk l v) : ∀ c ∈ l, 97 ≤ c ∧ c ≤ 122 := fun c hc => az_ge c (h.dl.2 c hc)
theorem AlOk.sg {l v : List Nat} (h : AlOk l v) : ∀ c ∈ 45 :: srtL l, c = 45 ∨ (97 ≤ c ∧ c ≤ 122) := fun c hc => by
  rcases List.mem_cons.mp hc with e | e
  · exact .inl e
  · exact .inr (h.ge c (srtL_mem.mp e))
theorem AlOk.nd {l v : List Nat} (h : AlOk l v) : (45 :: srtL l).Nodup := by
  refine List.nodup_cons.mpr ⟨fun hm => ?_, srtL_nodup.mpr h.dl.1⟩
  have := h.ge 45 (srtL_mem.mp hm)
  omega
theorem AlOk.le {l v : List Nat} (h : AlOk l v) : (45 :: srtL l).Pairwise (· ≤ ·) := by
  refine List.pairwise_cons.mpr ⟨fun c hc => ?_, srtL_le l⟩
  have := h.ge c (srtL_mem.mp hc)
  omega
theorem srt_of_le {t : List Nat} (h : t.Pairwise (· ≤ ·)) : t = srtL t := srt_eq (List.Perm.refl t) h
theorem asc_sub {l v li : List Nat} (h : AlOk l v) (hs : li.Sublist (45 :: srtL l)) : ascB (45 :: srtL l) li = true := by
  unfold ascB
  rw [decide_eq_true (p := Differ li (45 :: srtL l)) ⟨h.nd.sublist hs, fun c hc => hs.mem hc⟩, decide_eq_true (srt_of_le (h.le.sublist hs))]
  rfl
theorem vow_eq {l v : List Nat} (h : AlOk l v) : srtL v = (srtL l).filter (fun c => decide (c ∈ v)) := by
  refine (srt_eq ?_ ((srtL_le l).sublist List.filter_sublist)).symm
  refine (List.perm_ext_iff_of_nodup ((srtL_nodup.mpr h.dl.1).sublist List.filter_sublist) h.vn).mpr fun c => ?_
  rw [List.mem_filter, srtL_mem, decide_eq_true_iff]
  exact ⟨fun q => q.2, fun q => ⟨h.vl c q, q⟩⟩
theorem br_ne {li nm : List Nat} {x : Nat} (hx : nm.head? = some x) (h : x ≠ 91) : ¬ [91] ++ li ++ [93] = nm := fun e => by
  rw [← e] at hx
  simp at hx
  omega
theorem setOf_good {l v nm : List Nat} (h : AlOk l v) (g : GoodNm (45 :: srtL l) nm) : setOf l v nm = some (memL (45 :: srtL l) v nm) := by
  unfold setOf memL
  rcases g with rfl | rfl | rfl | rfl | rfl | ⟨li, rfl, h0, hs⟩
  · rw [if_pos rfl, if_pos rfl]
  · rw [if_neg (by decide), if_pos rfl, if_neg (by decide), if_pos rfl]
    rfl
  · rw [if_neg (by decide), if_neg (by decide), if_pos rfl, if_neg (by decide), if_neg (by decide), if_pos rfl, vow_eq h]
    rfl
  · rw [if_neg (by decide), if_neg (by decide), if_neg (by decide), if_pos rfl, if_neg (by decide), if_neg (by decide), if_neg (by decide), if_pos rfl]
    rfl
  · rw [if_neg (by decide), if_neg (by decide), if_neg (by decide), if_neg (by decide), if_pos rfl, if_neg (by decide), if_neg (by decide), if_neg (by decide), if_neg (by decide), if_pos rfl]
  · have n1 : ¬ [91] ++ li ++ [93] = nmAll := br_ne (x := 97) rfl (by decide)
    have n2 : ¬ [91] ++ li ++ [93] = nmLet := br_ne (x := 108) rfl (by decide)
    have n3 : ¬ [91] ++ li ++ [93] = nmVow := br_ne (x := 118) rfl (by decide)
    have n4 : ¬ [91] ++ li ++ [93] = nmCon := br_ne (x := 99) rfl (by decide)
    have n5 : ¬ [91] ++ li ++ [93] = nmJoi := br_ne (x := 106) rfl (by decide)
    rw [if_neg n1, if_neg n2, if_neg n3, if_neg n4, if_neg n5, if_neg n1, if_neg n2, if_neg n3, if_neg n4, if_neg n5, mid_br, if_neg (by
      rintro (q | q | q)
      · exact h0 q
      · exact q rfl
      · rw [asc_sub h hs] at q
        cases q)]
theorem what_good {l v nm : List Nat} {n : Nat} (h : AlOk l v) (g : GoodNm (45 :: srtL l) nm) (hn : n ≤ 3) : whatD (n : Int) l v nm = none := by
  unfold whatD
  rw [if_neg (by rw [setOf_good h g]; simp), if_pos (by omega)]
theorem what_far {l v nm : List Nat} {n : Int} (h : AlOk l v) (g : GoodNm (45 :: srtL l) nm) (hn : ¬ (0 ≤ n ∧ n ≤ 3)) : whatD n l v nm = some kAfter := by
  unfold whatD
  rw [if_neg (by rw [setOf_good h g]; simp), if_neg hn]
/-- names that are none -/
def BadNm (l nm : List Nat) : Prop := nm ≠ nmAll ∧ nm ≠ nmLet ∧ nm ≠ nmVow ∧ nm ≠ nmCon ∧ nm ≠ nmJoi ∧ (mid nm = [] ∨ nm ≠ [91] ++ mid nm ++ [93] ∨ ascB (45 :: srtL l) (mid nm) = false)
theorem setOf_bad {l v nm : List Nat} (h : BadNm l nm) : setOf l v nm = none := by
  obtain ⟨h1, h2, h3, h4, h5, h6⟩ := h
  unfold setOf
  rw [if_neg h1, if_neg h2, if_neg h3, if_neg h4, if_neg h5, if_pos h6]
theorem asc_no1 {sg t : List Nat} (h : ¬ t.Nodup) : ascB sg t = false := by
  unfold ascB
  rw [decide_eq_false fun q => h q.1]
  rfl
theorem asc_no2 {sg t : List Nat} {c : Nat} (hc : c ∈ t) (h : c ∉ sg) : ascB sg t = false := by
  unfold ascB
  rw [decide_eq_false fun q => h (q.2 c hc)]
  rfl
theorem asc_no3 {sg : List Nat} {x y : Nat} (h : y < x) : ascB sg [x, y] = false := by
  unfold ascB
  have : ¬ [x, y] = srtL [x, y] := fun e => by
    have q := srtL_le [x, y]
    rw [← e] at q
    have := (List.pairwise_cons.mp q).1 y (by simp)
    omega
  rw [decide_eq_false this, Bool.and_false]
theorem br_bad {l v li : List Nat} (h : ascB (45 :: srtL l) li = false) : BadNm l ([91] ++ li ++ [93]) :=
  ⟨br_ne (x := 97) rfl (by decide), br_ne (x := 108) rfl (by decide), br_ne (x := 118) rfl (by decide), br_ne (x := 99) rfl (by decide), br_ne (x := 106) rfl (by decide), by rw [mid_br]; exact .inr (.inr h)⟩
theorem plain_bad {l nm : List Nat} (h : (nm ≠ nmAll ∧ nm ≠ nmLet ∧ nm ≠ nmVow ∧ nm ≠ nmCon ∧ nm ≠ nmJoi) ∧ (mid nm = [] ∨ nm ≠ [91] ++ mid nm ++ [93])) : BadNm l nm :=
  ⟨h.1.1, h.1.2.1, h.1.2.2.1, h.1.2.2.2.1, h.1.2.2.2.2, h.2.elim .inl fun q => .inr (.inl q)⟩
/-- the law's odd names: s a letter of the alphabet, c none -/
def oddNames (s c : Nat) : List (List Nat) := [[], [91, 93], [91, 97, 97, 93], [91, 97, 45, 93], [118, 111, 119, 101, 108], [65, 108, 108], [97, 108, 108, 32], [91, 97], [97, 93], [106, 111, 105, 110, 116], [45], [91, 65, 93], [91, 45, 45, 93], [91, 32, 93], [32, 97, 108, 108], [91, 45], [91, s, 45, 93], [91, c, 93]]
theorem odd_bad {l v nm : List Nat} {s c : Nat} (h : AlOk l v) (hs : s ∈ l) (hc : c ∉ 45 :: srtL l) (hn : nm ∈ oddNames s c) : BadNm l nm := by
  have no : ∀ z, z ≠ 45 → ¬ (97 ≤ z ∧ z ≤ 122) → z ∉ 45 :: srtL l := fun z h1 h2 hm => (h.sg z hm).elim h1 h2
  simp only [oddNames, List.mem_cons, List.not_mem_nil, or_false] at hn
  rcases hn with rfl | rfl | rfl | rfl | rfl | rfl | rfl | rfl | rfl | rfl | rfl | rfl | rfl | rfl | rfl | rfl | rfl | rfl
  · exact plain_bad (by decide)
  · exact plain_bad (by decide)
  · exact br_bad (v := v) (li := [97, 97]) (asc_no1 (by decide))
  · exact br_bad (v := v) (li := [97, 45]) (asc_no3 (by decide))
  · exact plain_bad (by decide)
  · exact plain_bad (by decide)
  · exact plain_bad (by decide)
  · exact plain_bad (by decide)
  · exact plain_bad (by decide)
  · exact plain_bad (by decide)
  · exact plain_bad (by decide)
  · exact br_bad (v := v) (li := [65]) (asc_no2 (c := 65) (by simp) (no 65 (by decide) (by decide)))
  · exact br_bad (v := v) (li := [45, 45]) (asc_no1 (by decide))
  · exact br_bad (v := v) (li := [32]) (asc_no2 (c := 32) (by simp) (no 32 (by decide) (by decide)))
  · exact plain_bad (by decide)
  · exact plain_bad (by decide)
  · exact br_bad (v := v) (li := [s, 45]) (asc_no3 (by have := (h.ge s hs).1; omega))
  · exact br_bad (v := v) (li := [c]) (asc_no2 (c := c) (by simp) hc)
theorem odd_small {s c : Nat} (hs : s < 128) (hc : c < 128) : ∀ nm ∈ oddNames s c, nm.length ≤ 60 ∧ ∀ z ∈ nm, z < 0x110000 := by
  intro nm hn
  simp only [oddNames, List.mem_cons, List.not_mem_nil, or_false] at hn
  rcases hn with rfl | rfl | rfl | rfl | rfl | rfl | rfl | rfl | rfl | rfl | rfl | rfl | rfl | rfl | rfl | rfl | rfl | rfl
  all_goals first | decide | (refine ⟨by simp, fun z hz => ?_⟩; simp at hz; omega)
theorem what_odd {l v nm : List Nat} {n : Int} (h : BadNm l nm) : whatD n l v nm = some [115, 101, 116] := by
  unfold whatD
  rw [if_pos (setOf_bad h)]
theorem shaped_bs {b : Bool} {z : Str} (h : PyData.strOk z = true) : SeqAt.shaped (.tuple [.bool b, .str z]) = true := by
  simp [SeqAt.shaped, PyData.canLay0, PyData.canLayAll0, PyData.depth, PyData.depthAll, h]
theorem eqv_bs (b : Bool) (z : Str) : PyData.eqv (.tuple [.bool b, .str z]) (.tuple [.bool b, .str z]) = true := by
  simp [PyData.eqv, PyData.eqvAll]
theorem iNeBS {K : PySem.W.Frag} {H : Hp} {Q : VK} {t q : Addr} {b : Bool} {z : List Nat} (h1 : H t = some (.tup [.bl b, .str (S z)])) (h2 : H q = some (.tup [.bl b, .str (S z)])) (hz : PyData.strOk (S z) = true) (h : Q (.bl false) H) : rNeD K (.ref t) (.ref q) H Q := by
  refine ⟨.tuple [.bool b, .str (S z)], .tuple [.bool b, .str (S z)], .tup (SqT.of h1) (.cons (.bl _) (.cons (.str _) .nil)), .tup (SqT.of h2) (.cons (.bl _) (.cons (.str _) .nil)), shaped_bs hz, shaped_bs hz, ?_⟩
  rw [eqv_bs]
  exact h
theorem good_small {l v nm : List Nat} (h : AlOk l v) (g : GoodNm (45 :: srtL l) nm) : nm.length ≤ 60 ∧ ∀ c ∈ nm, c < 0x110000 := by
  have h4 := h.h4
  have hs : (45 :: srtL l).length ≤ 30 := by
    rw [List.length_cons, srtL_len]
    omega
  refine ⟨Nat.le_trans (g.len hs) (by decide), ?_⟩
  have dec : ∀ n : List Nat, (n.all fun c => decide (c < 0x110000)) = true → ∀ c ∈ n, c < 0x110000 := fun n hn c hc => of_decide_eq_true (List.all_eq_true.mp hn c hc)
  rcases g with rfl | rfl | rfl | rfl | rfl | ⟨li, rfl, h0, hsub⟩
  · exact dec _ (by decide)
  · exact dec _ (by decide)
  · exact dec _ (by decide)
  · exact dec _ (by decide)
  · exact dec _ (by decide)
  · intro c hc
    simp only [List.mem_append, List.mem_singleton] at hc
    rcases hc with (rfl | hc) | rfl
    · decide
    · rcases h.sg c (hsub.mem hc) with e | e
      · omega
      · omega
    · decide
theorem pick_odd {os : List (List Nat)} {r : Nat} (h : r < os.length) : ∃ z, z ∈ os ∧ (os.map fun z => V.str (S z))[r]? = some (.str (S z)) := ⟨os[r], List.getElem_mem h, by simp [List.getElem?_eq_getElem h]⟩
end
section
set_option Elab.async false
set_option linter.all false
set_option maxRecDepth 100000
set_option maxHeartbeats 2000000
open PySem PySem.Spec PyProof.Rows L2
/-! a text cut at its spaces -/
def cutA : List Nat → List Nat → List (List Nat)
  | acc, [] => [acc]
  | acc, c :: r => if c = 32 then acc :: cutA [] r else cutA (acc ++ [c]) r
def cut (t : List Nat) : List (List Nat) := cutA [] t
theorem pre_one (s c : Nat) (r : List Nat) : TL.pre [s] (c :: r) = decide (c = s) := by
  show ([c] == [s]) = _
  by_cases h : c = s
  · simp [h]
  · simp [h]
theorem spl_cut : ∀ (t acc : List Nat), TL.spl [32] 0 acc t = cutA acc t
  | [], acc => rfl
  | c :: r, acc => by
    show (if TL.pre [32] (c :: r) = true then acc :: TL.spl [32] 0 [] r else TL.spl [32] 0 (acc ++ [c]) r) = _
    rw [pre_one, spl_cut r [], spl_cut r (acc ++ [c])]
    by_cases h : c = 32
    · simp [cutA, h]
    · simp [cutA, h]
theorem split_S (t : List Nat) : Txt.split (S t) (S [32]) = (cut t).map S := by
  refine TL.map_tl_inj ?_
  have hne : TL.tl (S [32]) ≠ [] := by
    show (S [32]).cps.toList ≠ []
    rw [S_cps]
    simp
  rw [TL.split_spl (S t) (S [32]) hne (TL.kind_ok (by decide +kernel))]
  have e1 : TL.tl (S [32]) = [32] := by
    show (S [32]).cps.toList = _
    rw [S_cps]
  have e2 : TL.tl (S t) = t := by
    show (S t).cps.toList = _
    rw [S_cps]
  rw [e1, e2, spl_cut, List.map_map]
  have e3 : ∀ q : List (List Nat), q.map (TL.tl ∘ S) = q := fun q => by
    refine (List.map_congr_left fun c _ => ?_).trans (List.map_id q)
    show (S c).cps.toList = c
    rw [S_cps]
  rw [e3]
  rfl
theorem cutA_ne (acc t : List Nat) : cutA acc t ≠ [] := by
  induction t generalizing acc with
  | nil => simp [cutA]
  | cons c r ih =>
    unfold cutA
    split
    · simp
    · exact ih _
theorem spaced_cons (x : List Nat) {r : List (List Nat)} (h : r ≠ []) : spaced (x :: r) = x ++ [32] ++ spaced r := by
  cases r with
  | nil => exact absurd rfl h
  | cons y r => rfl
theorem spaced_cutA (t acc : List Nat) : spaced (cutA acc t) = acc ++ t := by
  induction t generalizing acc with
  | nil => simp [cutA, spaced]
  | cons c r ih =>
    unfold cutA
    by_cases h : c = 32
    · rw [if_pos h, spaced_cons acc (cutA_ne [] r), ih [], h]
      simp
    · rw [if_neg h, ih]
      simp
theorem spaced_cut (t : List Nat) : spaced (cut t) = t := spaced_cutA t []
theorem cutA_len (t acc : List Nat) : (cutA acc t).length ≤ t.length + 1 := by
  induction t generalizing acc with
  | nil => simp [cutA]
  | cons c r ih =>
    unfold cutA
    split
    · have := ih []
      simp only [List.length_cons]
      omega
    · have := ih (acc ++ [c])
      simp only [List.length_cons]
      omega
theorem cut_len (t : List Nat) : (cut t).length ≤ t.length + 1 := cutA_len t []
theorem cutA_mem (t acc : List Nat) : ∀ w ∈ cutA acc t, w.length ≤ acc.length + t.length ∧ ∀ c ∈ w, c ∈ acc ∨ c ∈ t := by
  induction t generalizing acc with
  | nil =>
    intro w hw
    rw [cutA, List.mem_singleton] at hw
    subst hw
    exact ⟨by simp, fun c hc => .inl hc⟩
  | cons d r ih =>
    intro w hw
    unfold cutA at hw
    split at hw
    · rcases List.mem_cons.mp hw with rfl | hw
      · exact ⟨by simp, fun c hc => .inl hc⟩
      · obtain ⟨h1, h2⟩ := ih [] w hw
        refine ⟨by simp only [List.length_cons, List.length_nil] at h1 ⊢; omega, fun c hc => ?_⟩
        rcases h2 c hc with h | h
        · cases h
        · exact .inr (List.mem_cons_of_mem _ h)
    · obtain ⟨h1, h2⟩ := ih _ w hw
      refine ⟨by simp only [List.length_cons, List.length_append, List.length_nil] at h1 ⊢; omega, fun c hc => ?_⟩
      rcases h2 c hc with h | h
      · rcases List.mem_append.mp h with h | h
        · exact .inl h
        · rw [List.mem_singleton] at h
          exact .inr (by rw [h]; exact List.mem_cons_self ..)
      · exact .inr (List.mem_cons_of_mem _ h)
theorem cut_mem {t w : List Nat} (h : w ∈ cut t) : w.length ≤ t.length ∧ ∀ c ∈ w, c ∈ t := by
  obtain ⟨h1, h2⟩ := cutA_mem t [] w h
  refine ⟨by simpa using h1, fun c hc => (h2 c hc).elim (fun h => by cases h) id⟩
/-! what the words of a stage say -/
def kDrop : List Nat := [100, 114, 111, 112]
def kWrite : List Nat := [119, 114, 105, 116, 101]
def kFor : List Nat := [102, 111, 114]
def kOnce : List Nat := [111, 110, 99, 101]
def kAdd : List Nat := [97, 100, 100]
def kEach : List Nat := [101, 97, 99, 104]
def kBut : List Nat := [98, 117, 116]
def kLast : List Nat := [108, 97, 115, 116]
def kText : List Nat := [116, 101, 120, 116]
def kSign : List Nat := [115, 105, 103, 110]
def kSet : List Nat := [115, 101, 116]
structure Pt where
  k : Nat
  sg : List Nat
  nm : List Nat
  num : Option (List Nat)
  j : Bool
def numP (r : List (List Nat)) : Option (List Nat) := match r with
  | a :: n :: _ => if a = kAfter then some n else none
  | _ => none
def restP (r : List (List Nat)) : List (List Nat) := match r with
  | a :: _ :: s => if a = kAfter then s else r
  | _ => r
def eachP (r : List (List Nat)) : Bool := decide (r.take 1 = [kEach])
def dropP (nm : List Nat) (r : List (List Nat)) : Option Pt :=
  if (if eachP (restP r) = true then (restP r).drop 1 else restP r) = [kBut, kLast] then some ⟨1, [], nm, numP r, eachP (restP r)⟩
  else if (if eachP (restP r) = true then (restP r).drop 1 else restP r) = [] then some ⟨0, [], nm, numP r, eachP (restP r)⟩ else none
def partsP (ws : List (List Nat)) : Option Pt := match ws with
  | [] => none
  | [_] => none
  | w :: x :: r =>
    if r.length = 2 ∧ w = kWrite ∧ r[0]? = some kFor then some ⟨2, x, r.getD 1 [], none, false⟩
    else if r = [] ∧ w = kOnce then some ⟨3, [], x, none, false⟩
    else if r = [] ∧ w = kAdd then some ⟨4, x, [], none, false⟩
    else if w = kDrop then dropP x r else none
def digs : List (List Nat) := [[49], [50], [51]]
def wrongP (l v : List Nat) (o : Option Pt) : List Nat := match o with
  | none => kText
  | some p => if (p.k = 2 ∨ p.k = 4) ∧ signB (45 :: srtL l) p.sg = false then kSign
    else if p.k ≠ 4 ∧ setOf l v p.nm = none then kSet
    else match p.num with
      | some n => if n ∈ digs then [] else kAfter
      | none => []
/-- the same, as a drop's words are read from both ends -/
def lastR (r : List (List Nat)) : Bool := decide (2 ≤ r.length) && decide (r.drop (r.length - 2) = [kBut, kLast])
def cutR (r : List (List Nat)) : List (List Nat) := if lastR r = true then r.take (r.length - 2) else r
def numbR (r : List (List Nat)) : Bool := decide (2 ≤ (cutR r).length) && decide ((cutR r)[0]? = some kAfter)
def endR (r : List (List Nat)) : List (List Nat) := if numbR r = true then (cutR r).drop 2 else cutR r
def dropR (nm : List Nat) (r : List (List Nat)) : Option Pt :=
  if endR r = [] ∨ endR r = [kEach] then some ⟨if lastR r = true then 1 else 0, [], nm, if numbR r = true then (cutR r)[1]? else none, decide (endR r = [kEach])⟩ else none
theorem cutR_len (r : List (List Nat)) : r.length ≤ (cutR r).length + 2 := by
  unfold cutR
  split
  · rw [List.length_take]
    omega
  · omega
theorem endR_len (r : List (List Nat)) : r.length ≤ (endR r).length + 4 := by
  have h := cutR_len r
  unfold endR
  split
  · rw [List.length_drop]
    omega
  · omega
theorem restP_len (r : List (List Nat)) : r.length ≤ (restP r).length + 2 := by
  unfold restP
  split
  · split
    · simp only [List.length_cons]
      omega
    · omega
  · omega
theorem drop_long (nm : List Nat) {r : List (List Nat)} (h : 6 ≤ r.length) : dropR nm r = dropP nm r := by
  have h1 := endR_len r
  have h2 := restP_len r
  unfold dropR dropP
  rw [if_neg (by
    rintro (e | e)
    · rw [e] at h1
      simp at h1
      omega
    · rw [e] at h1
      simp at h1
      omega)]
  have h3 : 3 ≤ (if eachP (restP r) = true then (restP r).drop 1 else restP r).length := by
    split
    · rw [List.length_drop]
      omega
    · omega
  rw [if_neg (fun e => by rw [e] at h3; simp at h3), if_neg (fun e => by rw [e] at h3; simp at h3)]
theorem dropR_eq (nm : List Nat) (r : List (List Nat)) : dropR nm r = dropP nm r := by
  by_cases h6 : 6 ≤ r.length
  · exact drop_long nm h6
  have n1 : kAfter ≠ kEach := by decide
  have n2 : kAfter ≠ kBut := by decide
  have n3 : kEach ≠ kBut := by decide
  have n4 : kLast ≠ kEach := by decide
  have n5 : kLast ≠ kAfter := by decide
  have n6 : kBut ≠ kLast := by decide
  generalize hA : kAfter = A at *
  generalize hE : kEach = E at *
  generalize hB : kBut = B at *
  generalize hL : kLast = L at *
  unfold dropR dropP endR numbR cutR lastR eachP restP numP
  rw [hA, hE, hB, hL]
  rcases r with _ | ⟨a, _ | ⟨b, _ | ⟨c, _ | ⟨d, _ | ⟨e, _ | ⟨f, r⟩⟩⟩⟩⟩⟩
  · simp
  · by_cases h1 : a = E <;> simp [h1] <;> grind
  · by_cases h1 : a = A <;> by_cases h2 : b = E <;> by_cases h3 : a = E <;> simp [h1, h2, h3] <;> grind
  · by_cases h1 : a = A <;> by_cases h2 : b = B <;> by_cases h3 : c = L <;> simp [h1, h2, h3] <;> grind
  · by_cases h1 : a = A <;> by_cases h2 : c = B <;> by_cases h3 : d = L <;> simp [h1, h2, h3] <;> grind
  · by_cases h1 : a = A <;> by_cases h2 : d = B <;> by_cases h3 : e = L <;> simp [h1, h2, h3] <;> grind
  · exact absurd (by simp only [List.length_cons]; omega) h6
end
section
set_option Elab.async false
set_option linter.all false
set_option maxRecDepth 100000
set_option maxHeartbeats 2000000
open PySem PySem.Spec PyProof.Rows L2

local macro_rules | `(tactic| walk_at "side") => `(tactic| exact .inl (by assumption))

theorem pe_either {X : Cx} {e : Expr} {t u : TE} (h1 : PE X e t) (h2 : PE X e u) : PE X e (fun σ H Q => t σ H Q ∨ u σ H Q) := ⟨fun pins s σ H Q I h => h.elim (h1.run pins s σ H Q I) (h2.run pins s σ H Q I)⟩
theorem callR_either {X : Cx} {f : Value} {r q : List V → Hp → VK → Prop} (h1 : CallR X f r) (h2 : CallR X f q) : CallR X f (fun xs H Q => r xs H Q ∨ q xs H Q) := fun pins s σ H xs us Q I rv h => h.elim (h1 pins s σ H xs us Q I rv) (h2 pins s σ H xs us Q I rv)
theorem iMakeD {C : Addr} {sp : Sp} {dvs : List V} {E : XK} {t : TA} {σ : L2.St} {H : Hp} {Q : VK} (h : t σ H fun vs H1 => ∀ x dx, H1 x = none → H1 dx = none → dx ≠ x → sp (.ref x :: (vs ++ dvs)) (upd (upd H1 dx (.own x)) x (.ins C dx [])) (fun v H2 => v = .non ∧ Q (.ref x) H2) E) : tMake C sp dvs E t σ H Q := h
theorem iMakeK {C : Addr} {n m : Nat} {sp : Sp} {gV : List V → List V → List V} {E : XK} {t tk : TA} {σ : L2.St} {H : Hp} {Q : VK} (h : t σ H fun vs H1 => tk σ H1 fun zs H2 => vs.length = n ∧ zs.length = m ∧ ∀ x dx, H2 x = none → H2 dx = none → dx ≠ x →
  sp (gV (.ref x :: vs) zs) (upd (upd H2 dx (.own x)) x (.ins C dx [])) (fun v H3 => v = .non ∧ Q (.ref x) H3) E) : tMakeK C n m sp gV E t tk σ H Q := h
theorem fr_made {H H' : Hp} {pg dx C : Addr} (hx : H pg = none) (hd : H dx = none) (hn : dx ≠ pg) (f : Fr [pg] (upd (upd H dx (.own pg)) pg (.ins C dx [])) H') : Fr [pg] H H' :=
  Fr.trans (Fr.trans (Fr.upd_new hd) Fr.in0) f
local macro_rules | `(tactic| walk_at "go1") => `(tactic| first | (with_reducible refine iMakeD ?_) | (with_reducible refine iMakeK ?_))
/-! slices and equality of lists of texts -/
theorem cut_from2 (xs : List V) : cutV xs (some 2) none = xs.drop 2 := by
  unfold cutV
  rw [HT.sIx_none, show (2 : Int) = ((2 : Nat) : Int) from rfl, HT.sIx_nat]
  by_cases h : 2 ≤ xs.length
  · rw [Nat.min_eq_left h, List.take_of_length_le (by rw [List.length_drop]; omega)]
  · rw [List.drop_of_length_le (by omega), List.drop_of_length_le (by omega)]
    simp
theorem cut_from1 (xs : List V) : cutV xs (some 1) none = xs.drop 1 := by
  unfold cutV
  rw [HT.sIx_none, show (1 : Int) = ((1 : Nat) : Int) from rfl, HT.sIx_nat]
  by_cases h : 1 ≤ xs.length
  · rw [Nat.min_eq_left h, List.take_of_length_le (by rw [List.length_drop]; omega)]
  · rw [List.drop_of_length_le (by omega), List.drop_of_length_le (by omega)]
    simp
theorem cut_to1 (xs : List V) : cutV xs none (some 1) = xs.take 1 := by
  unfold cutV
  rw [HT.sIx_none, show (1 : Int) = ((1 : Nat) : Int) from rfl, HT.sIx_nat]
  simp only [List.drop_zero, Nat.sub_zero]
  by_cases h : 1 ≤ xs.length
  · rw [Nat.min_eq_left h]
  · rw [List.take_of_length_le (by omega), List.take_of_length_le (by omega)]
theorem sIx_m2 {n d : Nat} (h : 2 ≤ n) : HT.sIx n d (some (-2)) = n - 2 := by
  unfold HT.sIx
  simp only []
  rw [if_pos (by decide)]
  omega
theorem cut_last2 {xs : List V} (h : 2 ≤ xs.length) : cutV xs (some (-2)) none = xs.drop (xs.length - 2) := by
  unfold cutV
  rw [HT.sIx_none, sIx_m2 h, List.take_of_length_le (by rw [List.length_drop]; omega)]
theorem cut_mid2 {xs : List V} (h : 4 ≤ xs.length) : cutV xs (some 2) (some (-2)) = (xs.take (xs.length - 2)).drop 2 := by
  unfold cutV
  rw [sIx_m2 (by omega), show (2 : Int) = ((2 : Nat) : Int) from rfl, HT.sIx_nat, Nat.min_eq_left (by omega), List.drop_take]
theorem strV_drop (ws : List (List Nat)) (n : Nat) : (strV ws).drop n = strV (ws.drop n) := List.map_drop.symm
theorem strV_take (ws : List (List Nat)) (n : Nat) : (strV ws).take n = strV (ws.take n) := List.map_take.symm
theorem strV_len (ws : List (List Nat)) : (strV ws).length = ws.length := List.length_map _
theorem strV_get (ws : List (List Nat)) (n : Nat) : (strV ws)[n]? = (ws[n]?).map fun z => V.str (S z) := List.getElem?_map ..
/-- all the words' signs are code points -/
def OkW (ws : List (List Nat)) : Prop := ∀ w ∈ ws, ∀ c ∈ w, c < 0x110000
theorem OkW.drop {ws : List (List Nat)} (h : OkW ws) (n : Nat) : OkW (ws.drop n) := fun w hw => h w (List.mem_of_mem_drop hw)
theorem OkW.take {ws : List (List Nat)} (h : OkW ws) (n : Nat) : OkW (ws.take n) := fun w hw => h w (List.mem_of_mem_take hw)
theorem map_S_eq {a b : List (List Nat)} : a.map S = b.map S ↔ a = b := by
  refine ⟨fun e => ?_, fun e => by rw [e]⟩
  have := congrArg (List.map fun z : Str => z.cps.toList) e
  rw [List.map_map, List.map_map] at this
  have e1 : ∀ q : List (List Nat), q.map ((fun z : Str => z.cps.toList) ∘ S) = q := fun q => by
    refine (List.map_congr_left fun c _ => ?_).trans (List.map_id q)
    show (S c).cps.toList = c
    rw [S_cps]
  rw [e1, e1] at this
  exact this
theorem dp_W {K : PySem.W.Frag} {H : Hp} {p : Addr} {ws : List (List Nat)} (h : H p = some (.lst (strV ws))) : Dp K H (.ref p) (.list ((ws.map S).map PyData.str)) := dp_strs (SqL.of (by rw [h, strV_eq]))
theorem shaped_W {ws : List (List Nat)} (h : OkW ws) : SeqAt.shaped (.list ((ws.map S).map PyData.str)) = true := shaped_strs fun y hy => by
  obtain ⟨c, hc, rfl⟩ := List.mem_map.mp hy
  exact ok_S (h c hc)
theorem eqv_W (a b : List (List Nat)) : PyData.eqv (.list ((a.map S).map PyData.str)) (.list ((b.map S).map PyData.str)) = decide (a = b) := (eqv_strs _ _).trans (decide_eq_decide.mpr map_S_eq)
theorem iEqW {K : PySem.W.Frag} {H : Hp} {Q : VK} {p q : Addr} {ws us : List (List Nat)} (h1 : H p = some (.lst (strV ws))) (h2 : H q = some (.lst (strV us))) (c1 : OkW ws) (c2 : OkW us) (h : Q (.bl (decide (ws = us))) H) : rEqD K (.ref p) (.ref q) H Q := by
  refine ⟨_, _, dp_W h1, dp_W h2, shaped_W c1, shaped_W c2, ?_⟩
  rw [eqv_strs, decide_eq_decide.mpr map_S_eq]
  exact h
end
section
set_option Elab.async false
set_option linter.all false
set_option maxRecDepth 100000
set_option maxHeartbeats 4000000
open PySem PySem.Spec PyProof.Rows L2

local macro_rules | `(tactic| walk_at "side") => `(tactic| exact .inl (by assumption))
local macro_rules | `(tactic| walk_at "go1") => `(tactic| first | (with_reducible refine iMakeD ?_) | (with_reducible refine iMakeK ?_))
def kStrU21_0 : List Nat := [97, 102, 116, 101, 114]
theorem kStrU21_0_eq : PySem.Str.ofString "after" = S kStrU21_0 := by decide +kernel
theorem iNotInEnd {K : PySem.W.Frag} {H : Hp} {Q : VK} {e p q r : Addr} {es : List (List Nat)} (h1 : H e = some (.lst (strV es))) (hp : H p = some (.lst [.ref q, .ref r])) (hq : H q = some (.lst [])) (hr : H r = some (.lst [.str (S kEach)])) (c1 : OkW es)
    (h : Q (.bl (!decide (es = [] ∨ es = [kEach]))) H) : rNotInD K (.ref e) (.ref p) H Q := by
  refine ⟨_, _, dp_W h1, .lst (SqL.of hp) (.cons (dp_W (ws := []) hq) (.cons (dp_W (ws := [kEach]) hr) .nil)), shaped_W c1, by decide +kernel, ?_⟩
  have e1 : ([PyData.list (([] : List (List Nat)).map S |>.map PyData.str), PyData.list (([kEach] : List (List Nat)).map S |>.map PyData.str)].any fun z => PyData.eqv z (.list ((es.map S).map PyData.str))) = decide (es = [] ∨ es = [kEach]) := by
    rw [List.any_cons, List.any_cons, List.any_nil, eqv_W, eqv_W, Bool.or_false]
    by_cases a1 : es = []
    · subst a1
      simp
    · by_cases a2 : es = [kEach]
      · subst a2
        simp
      · have a3 : ¬ [] = es := fun e => a1 e.symm
        have a4 : ¬ [kEach] = es := fun e => a2 e.symm
        simp [a1, a2, a3, a4]
  have e2 : ∀ b : Bool, b = decide (es = [] ∨ es = [kEach]) → Q (.bl (!b)) H := fun b e => by rw [e]; exact h
  exact e2 _ e1
/-- the stages' classes -/
def sK (a : Ad) (i : Nat) : Addr := match i with
  | 0 => a.cDrop
  | 1 => a.cLastDrop
  | 2 => a.cWrite
  | 3 => a.cOnce
  | _ => a.cAdd
structure IsO (K : PySem.W.Frag) (C : Addr) : Prop where
  cl : Cls K C
  ha : PySem.W.findIn K (.ref C) "__class__" = some (some (.builtin "object.__class__"))
  hn : PySem.W.specialIn K (.builtin "object.__class__") "__get__" = some (some (.builtin "getset_descriptor.__get__"))
  ht : PySem.W.takesIn K (.builtin "object.__class__") = some true
  hm : PySem.W.mroIn K C (.type "object") = some true
/-- what the written part says of the stages' classes -/
structure Mx (K : PySem.W.Frag) (a : Ad) (d : Fd) : Prop where
  mkW : Mk K a.cDrop a.fDI
  mkO : Mk K a.cLastDrop a.fDI
  mkWr : Mk K a.cWrite a.fWI
  mkOn : Mk K a.cOnce a.fOI
  mkAd : Mk K a.cAdd a.fAI
  bWr : Binds K d.fWI ["self", "alphabet", "sign", "name"] []
  bOn : Binds K d.fOI ["self", "alphabet", "name"] []
  bAd : Binds K d.fAI ["self", "alphabet", "sign"] []
  kAE : KBn K d.fDI psDI 3 ["after", "each"] (fun us ws => us ++ ws) (fun vs zs => vs ++ zs)
  ob : ∀ i, i < 5 → IsO K (sK a i)
  kit : ∀ i j, i < 5 → j < 5 → PySem.W.kitOne K (.ref (sK a i)) (.ref (sK a j)) = some (decide (i = j) || (decide (i = 1) && decide (j = 0)))
  fnDrop : PySem.W.fnIn K a.aDropCall = true
  fnLastDrop : PySem.W.fnIn K a.aLastDropCall = true
  fnWrite : PySem.W.fnIn K a.aWriteCall = true
  fnOnce : PySem.W.fnIn K a.aOnceCall = true
  fnAdd : PySem.W.fnIn K a.aAddCall = true
def numN (o : Option (List Nat)) : Nat := match o with
  | some [c] => c - 48
  | _ => 0
section
variable {P : Program} {w : World} {K : PySem.W.Frag} {mg : Str → Option Value} {base : Heap} {a : Ad} {d : Fd}
theorem made_D {i n : Nat} {j : Bool} {H : Hp} {p dx al : Addr} {l v nm ms : List Nat} {Q : VK} {E : XK} (hp : H p = none) (hdx : H dx = none) (hne : dx ≠ p) (hal : IsAl a.cAlphabet H al l v) (hn : n ≤ 3) (hnl : nm.length ≤ 60) (hnc : ∀ c ∈ nm, c < 0x110000) (hms : setOf l v nm = some ms)
    (k1 : ∀ (p dx : Addr) H', H p = none → H dx = none → H' p = some (.ins (dK a i) dx (fsD al nm ms n j)) → Same H H' → Q (.ref p) H') :
    spInitD (dK a i) a.cAlphabet a.cBadStage [.ref p, .ref al, .str (S nm), .int (n : Int), .bl j] (upd (upd H dx (.own p)) p (.ins (dK a i) dx [])) (fun v H2 => v = .non ∧ Q (.ref p) H2) E := by
  have hap : al ≠ p := hal.ne hp
  refine ⟨p, dx, al, l, v, nm, n, j, rfl, upd_same, hal.fr (L := [p]) (Fr.trans (Fr.upd_new hdx) Fr.in0) (by simpa using hap), hap, hnl, hnc, fun _ ms2 m h1 h2 h3 H' h4 f => ⟨rfl, ?_⟩, fun z hz => ?_⟩
  · rw [hms] at h1
    obtain rfl := Option.some.inj h1
    obtain rfl : n = m := by omega
    exact k1 p dx H' hp hdx h4 (Fr.forget1 (fr_made hp hdx hne f) hp)
  · unfold whatD at hz
    rw [if_neg (by rw [hms]; simp), if_pos (by omega)] at hz
    cases hz
theorem _root_.L2.PE.imp {X : Cx} {e : Expr} {t t' : TE} (h : PE X e t) (k : ∀ σ H Q, t' σ H Q → t σ H Q) : PE X e t' := ⟨fun pins s σ H Q I q => h.run pins s σ H Q I (k σ H Q q)⟩
theorem _root_.L2.Room.units1 {k : Nat} {A : Around} (r : Room (k + 1) A) : A.units + 65 < cLine := by have := r.un; omega
def partsD (ws : List (List Nat)) : Option Pt := match ws with
  | [] => none
  | x :: r => dropR x r
def sRD (al wl : Addr) (b : Option V) (p : Option V) (n : Option V) (q : Option V) : L2.St := [some (.ref al), some (.ref wl), b, p, n, q, none]
theorem wrong_drop {l v x : List Nat} {num : Option (List Nat)} {j : Bool} {k : Nat} (hk : k < 2) : wrongP l v (some ⟨k, [], x, num, j⟩) = if setOf l v x = none then kSet else match num with
    | some n => if n ∈ digs then [] else kAfter
    | none => [] := by
  unfold wrongP
  simp only []
  rw [if_neg (by rintro ⟨h | h, _⟩ <;> omega)]
  by_cases hs : setOf l v x = none
  · rw [if_pos ⟨by omega, hs⟩, if_pos hs]
  · rw [if_neg (fun h => hs h.2), if_neg hs]
    all_goals (cases num <;> rfl)
def tLast (al wl : Addr) (w0 x : List Nat) (r : List (List Nat)) : TE := fun σ H Q => σ = sRD al wl none none none none ∧ H wl = some (.lst (strV (w0 :: x :: r))) ∧ ∀ H', Same H H' → Q (.bl (lastR r)) H'
def tRest (al wl : Addr) (w0 x : List Nat) (r : List (List Nat)) : TE := fun σ H Q => σ = sRD al wl (some (.bl (lastR r))) none none none ∧ H wl = some (.lst (strV (w0 :: x :: r))) ∧ ∀ p H', H p = none → H' p = some (.lst (strV (cutR r))) → Same H H' → Q (.ref p) H'
def tNumb (al wl : Addr) (r : List (List Nat)) : TE := fun σ H Q => ∃ p, σ = sRD al wl (some (.bl (lastR r))) (some (.ref p)) none none ∧ H p = some (.lst (strV (cutR r))) ∧ Q (.bl (numbR r)) H
def tEnd (al wl : Addr) (r : List (List Nat)) : TE := fun σ H Q => ∃ p, σ = sRD al wl (some (.bl (lastR r))) (some (.ref p)) (some (.bl (numbR r))) none ∧ H p = some (.lst (strV (cutR r))) ∧ ∀ q H', H' q = some (.lst (strV (endR r))) → Same H H' → Q (.ref q) H'
def tAft (al wl : Addr) (r : List (List Nat)) : TE := fun σ H Q => ∃ p q, σ = sRD al wl (some (.bl (lastR r))) (some (.ref p)) (some (.bl (numbR r))) (some (.ref q)) ∧ H p = some (.lst (strV (cutR r))) ∧ (numbR r = true → ∃ n, (cutR r)[1]? = some n ∧ n ∈ digs) ∧ Q (.int (numN (if numbR r = true then (cutR r)[1]? else none) : Nat)) H
def spReadDrop (a : Ad) : Sp := fun vs H Q E => ∃ (al wl : Addr) (l v : List Nat) (w0 : List Nat) (ws : List (List Nat)), vs = [.ref al, .ref wl] ∧ H wl = some (.lst (strV (w0 :: ws))) ∧ IsAl a.cAlphabet H al l v ∧ ws.length ≤ 100 ∧ OkW (w0 :: ws) ∧ (∀ z ∈ ws, z.length ≤ 60) ∧
  (∀ pt ms, partsD ws = some pt → wrongP l v (some pt) = [] → setOf l v pt.nm = some ms → ∀ (p dx : Addr) H', H p = none → H' p = some (.ins (dK a pt.k) dx (fsD al pt.nm ms (numN pt.num) pt.j)) → Same H H' → Q (.ref p) H') ∧
  (∀ z, z ≠ [] → wrongP l v (partsD ws) = z → ∀ dd H', H dd = none → H' dd = some (.xd [("what", .str (S z))]) → Same H H' → E (.ref a.cBadStage) (some dd) H')
theorem scPReadDrop : FnScope ["alphabet", "words", "last", "rest", "numbered", "ending", "after"] ["alphabet", "words"] (defScope sPReadDrop) := ⟨rfl, rfl, rfl, by decide +kernel, rfl, by decide +kernel, by decide +kernel⟩
theorem ok_readDrop {mc : Value} {tm tj tl : Tok} (T : Fns K mg a d) (AV : AlV K mg a.cAlphabet mc tm tj tl) (hB : Hnd K a.cBadSet) (M : Mx K a d) (GIW : FnOk P w K mg base (L2.CX P w) 6 a.fDI d.fDI psDI (spInitD (dK a 0) a.cAlphabet a.cBadStage)) (GIO : FnOk P w K mg base (L2.CX P w) 6 a.fDI d.fDI psDI (spInitD (dK a 1) a.cAlphabet a.cBadStage))
    (GBadSet : FnOk P w K mg base CX0 1 a.eBadSet d.eBadSet ["self", "name"] (spErr a.cBadSet "name")) (HBadStage : L2H.FnH P w K mg base CX0 1 a.eBadStage d.eBadStage ["self", "what"] (spErr a.cBadStage "what")) (GBadStage : FnOk P w K mg base CX0 1 a.eBadStage d.eBadStage ["self", "what"] (spErr a.cBadStage "what")) :
    FnOk P w K mg base (L2.CX P w) 8 a.aPReadDrop d.dPReadDrop ["alphabet", "words"] (spReadDrop a) := by
  have GPSignsOfSet := ok_setOf (P := P) (w := w) (base := base) T AV hB GBadSet HBadStage
  have hAE := M.kAE
  refine T.FPReadDrop.okX scPReadDrop (fun vs H Q E h => ?_) (fun cdv A0 outer s H vs Q E hr h => ?_)
  · obtain ⟨al, wl, l, v, w0, ws, rfl, _⟩ := h
    rfl
  · obtain ⟨al, wl, l, v, w0, ws, rfl, hw, hal, hln, hok, hsz, k1, k2⟩ := h
    obtain ⟨dxa, hal2⟩ := id hal
    rcases ws with _ | ⟨x, r⟩
    · refine ⟨_, ((pss_cons (ps_set (i := 2) scPReadDrop.nd rfl (Or.inl rfl) (pe_and (pe_cmpR op_ge (pe_callB call_len_seq (by rfl) T.z_len (by decide +kernel) (pa_cons (pv 1) pa_nil)) pe_int (nomark _)) (pe_one (pe_cmpR (op_eqD hr.units) (pe_slice sl_list (pv 1) (po_some (pe_un un_neg pe_int)) po_none) (pe_lst (pa_cons (pe_strS (l := [98, 117, 116]) (by decide +kernel)) (pa_cons (pe_strS (l := [108, 97, 115, 116]) (by decide +kernel)) pa_nil))) (nomark _)))))
      (pss_cons (ps_set (i := 3) scPReadDrop.nd rfl (Or.inl rfl) (pe_ifExp (pt_val (pv 2)) (pe_slice sl_list (pv 1) (po_some pe_int) (po_some (pe_un un_neg pe_int))) (pe_slice sl_list (pv 1) (po_some pe_int) po_none)))
      (pss_cons (ps_set (i := 4) scPReadDrop.nd rfl (Or.inl rfl) (pe_and (pe_cmpR op_ge (pe_callB call_len_seq (by rfl) T.z_len (by decide +kernel) (pa_cons (pv 3) pa_nil)) pe_int (nomark _)) (pe_one (pe_cmpR op_eq (pe_ix (r := rIxL K) ix_list (pv 3) pe_int (fun _ _ => rfl)) (pe_strS (l := kStrU21_0) kStrU21_0_eq) (nomark _)))))
      (pss_cons (ps_set (i := 5) scPReadDrop.nd rfl (Or.inl rfl) (pe_ifExp (pt_val (pv 4)) (pe_slice sl_list (pv 3) (po_some pe_int) po_none) (pv 3)))
      (pss_cons (ps_if (PW.pt (pw_or (pt_cmpR op_lt (pe_callB call_len_seq (by rfl) T.z_len (by decide +kernel) (pa_cons (pv 1) pa_nil)) pe_int (nomark _)) (pw_or1 (pt_cmpR (op_notInD hr.units1) (pv 5) (pe_lst (pa_cons (pe_lst pa_nil) (pa_cons (pe_lst (pa_cons (pe_strS (l := [101, 97, 99, 104]) (by decide +kernel)) pa_nil)) pa_nil))) rfl)))) (pss_one (ps_raise rfl (takes_of rfl rfl rfl rfl) (pmk_oex T.xBadStage.ox T.xBadStage.iC T.xBadStage.tI GBadStage (hr.mono (by decide)) T.xBadStage.bB .nil pass0 (by rfl) T.xBadStage.gB (pa_cons (pe_strS (l := [116, 101, 120, 116]) (by decide +kernel)) pa_nil)))) pss_nil)
      (pss_cons (ps_expr (pe_call GPSignsOfSet (hr.mono (by decide)) (by rfl) T.gPSignsOfSet T.FPSignsOfSet.kp T.bPSignsOfSet .nil (passes_call (takes_of rfl rfl rfl rfl) (fun _ _ _ _ h => h)) (pa_cons (pv 0) (pa_cons (pe_ix (r := rIxL K) ix_list (pv 1) pe_int (fun _ _ => rfl)) pa_nil))))
      (pss_cons (ps_if (PW.pt (pw_and (pt_val (pv 4)) (pw_and1 (pt_cmpR op_notIn_seq (pe_ix (r := rIxL K) ix_list (pv 3) pe_int (fun _ _ => rfl)) (pe_lst (pa_cons (pe_strS (l := [49]) (by decide +kernel)) (pa_cons (pe_strS (l := [50]) (by decide +kernel)) (pa_cons (pe_strS (l := [51]) (by decide +kernel)) pa_nil)))) rfl)))) (pss_one (ps_raise rfl (takes_of rfl rfl rfl rfl) (pmk_oex T.xBadStage.ox T.xBadStage.iC T.xBadStage.tI GBadStage (hr.mono (by decide)) T.xBadStage.bB .nil pass0 (by rfl) T.xBadStage.gB (pa_cons (pe_strS (l := kStrU21_0) kStrU21_0_eq) pa_nil)))) pss_nil)
      (pss_cons (ps_set (i := 6) scPReadDrop.nd rfl (Or.inl rfl) (pe_ifExp (pt_val (pv 4)) (pe_callTy call_int_str (by rfl) T.z_int (by decide +kernel) (pa_cons (pe_ix (r := rIxL K) ix_list (pv 3) pe_int (fun _ _ => rfl)) pa_nil)) pe_int))
      (pss_cons (ps_if (pt_val (pv 2)) (pss_one (ps_ret (pe_makeK M.mkO GIO (hr.mono (by decide)) (by rfl) T.gcLastDrop hAE (passes_call (takes_of rfl rfl rfl rfl) (fun _ _ _ _ h => h)) (pa_cons (pv 0) (pa_cons (pe_ix (r := rIxL K) ix_list (pv 1) pe_int (fun _ _ => rfl)) pa_nil)) (pk_cons (pv 6) (pk_cons (pe_cmpR (op_eqD hr.units) (pv 5) (pe_lst (pa_cons (pe_strS (l := [101, 97, 99, 104]) (by decide +kernel)) pa_nil)) (nomark _)) pk_nil))))) pss_nil)
      (pss_one (ps_ret (pe_makeK M.mkW GIW (hr.mono (by decide)) (by rfl) T.gcDrop hAE (passes_call (takes_of rfl rfl rfl rfl) (fun _ _ _ _ h => h)) (pa_cons (pv 0) (pa_cons (pe_ix (r := rIxL K) ix_list (pv 1) pe_int (fun _ _ => rfl)) pa_nil)) (pk_cons (pv 6) (pk_cons (pe_cmpR (op_eqD hr.units) (pv 5) (pe_lst (pa_cons (pe_strS (l := [101, 97, 99, 104]) (by decide +kernel)) pa_nil)) (nomark _)) pk_nil))))))))))))))), ?_⟩
      have e0 : cutV (strV [w0]) (some 2) none = strV [] := by rw [cut_from2]; rfl
      have l0 : (strV [w0]).length = 1 := rfl
      walk_at "go"
      rename_i p1 hp1 _ _
      exact ⟨by show 1 ≤ 1000; decide, fun b hb => ⟨b, kText, rfl, ⟨by decide, by decide⟩, upd_same, raise1 hb (Same.upd_new hp1) fun dd H' h1 h2 h3 => k2 kText (by decide) rfl dd H' h1 h2 h3⟩⟩
    · have hlr : (strV (w0 :: x :: r)).length = r.length + 2 := strV_len _
      have hlr2 : r.length ≤ 100 := by simp only [List.length_cons] at hln; omega
      have okr : OkW r := fun z hz => hok z (List.mem_cons_of_mem _ (List.mem_cons_of_mem _ hz))
      have okc : OkW (cutR r) := by
        unfold cutR
        split
        · exact okr.take _
        · exact okr
      have lc : (cutR r).length ≤ 100 := by
        unfold cutR
        split
        · rw [List.length_take]
          omega
        · omega
      have oke : OkW (endR r) := by
        unfold endR
        split
        · exact okc.drop _
        · exact okc
      have okK : ∀ z : List Nat, (∀ c ∈ z, c < 0x110000) → OkW [z] := fun z h u hu => by rw [List.mem_singleton] at hu; rw [hu]; exact h
      refine ⟨_, ((pss_cons (ps_set (i := 2) scPReadDrop.nd rfl (Or.inl rfl) (PE.imp (t' := (tLast al wl w0 x r)) (pe_and (pe_cmpR op_ge (pe_callB call_len_seq (by rfl) T.z_len (by decide +kernel) (pa_cons (pv 1) pa_nil)) pe_int (nomark _)) (pe_one (pe_cmpR (op_eqD hr.units) (pe_slice sl_list (pv 1) (po_some (pe_un un_neg pe_int)) po_none) (pe_lst (pa_cons (pe_strS (l := [98, 117, 116]) (by decide +kernel)) (pa_cons (pe_strS (l := [108, 97, 115, 116]) (by decide +kernel)) pa_nil))) (nomark _)))) ?_))
      (pss_cons (ps_set (i := 3) scPReadDrop.nd rfl (Or.inl rfl) (PE.imp (t' := (tRest al wl w0 x r)) (pe_ifExp (pt_val (pv 2)) (pe_slice sl_list (pv 1) (po_some pe_int) (po_some (pe_un un_neg pe_int))) (pe_slice sl_list (pv 1) (po_some pe_int) po_none)) ?_))
      (pss_cons (ps_set (i := 4) scPReadDrop.nd rfl (Or.inl rfl) (PE.imp (t' := (tNumb al wl r)) (pe_and (pe_cmpR op_ge (pe_callB call_len_seq (by rfl) T.z_len (by decide +kernel) (pa_cons (pv 3) pa_nil)) pe_int (nomark _)) (pe_one (pe_cmpR op_eq (pe_ix (r := rIxL K) ix_list (pv 3) pe_int (fun _ _ => rfl)) (pe_strS (l := kStrU21_0) kStrU21_0_eq) (nomark _)))) ?_))
      (pss_cons (ps_set (i := 5) scPReadDrop.nd rfl (Or.inl rfl) (PE.imp (t' := (tEnd al wl r)) (pe_ifExp (pt_val (pv 4)) (pe_slice sl_list (pv 3) (po_some pe_int) po_none) (pv 3)) ?_))
      (pss_cons (ps_if (PW.pt (pw_or (pt_cmpR op_lt (pe_callB call_len_seq (by rfl) T.z_len (by decide +kernel) (pa_cons (pv 1) pa_nil)) pe_int (nomark _)) (pw_or1 (pt_cmpR (op_notInD hr.units1) (pv 5) (pe_lst (pa_cons (pe_lst pa_nil) (pa_cons (pe_lst (pa_cons (pe_strS (l := [101, 97, 99, 104]) (by decide +kernel)) pa_nil)) pa_nil))) rfl)))) (pss_one (ps_raise rfl (takes_of rfl rfl rfl rfl) (pmk_oex T.xBadStage.ox T.xBadStage.iC T.xBadStage.tI GBadStage (hr.mono (by decide)) T.xBadStage.bB .nil pass0 (by rfl) T.xBadStage.gB (pa_cons (pe_strS (l := [116, 101, 120, 116]) (by decide +kernel)) pa_nil)))) pss_nil)
      (pss_cons (ps_expr (pe_call GPSignsOfSet (hr.mono (by decide)) (by rfl) T.gPSignsOfSet T.FPSignsOfSet.kp T.bPSignsOfSet .nil (passes_call (takes_of rfl rfl rfl rfl) (fun _ _ _ _ h => h)) (pa_cons (pv 0) (pa_cons (pe_ix (r := rIxL K) ix_list (pv 1) pe_int (fun _ _ => rfl)) pa_nil))))
      (pss_cons (ps_if (PW.pt (pw_and (pt_val (pv 4)) (pw_and1 (pt_cmpR op_notIn_seq (pe_ix (r := rIxL K) ix_list (pv 3) pe_int (fun _ _ => rfl)) (pe_lst (pa_cons (pe_strS (l := [49]) (by decide +kernel)) (pa_cons (pe_strS (l := [50]) (by decide +kernel)) (pa_cons (pe_strS (l := [51]) (by decide +kernel)) pa_nil)))) rfl)))) (pss_one (ps_raise rfl (takes_of rfl rfl rfl rfl) (pmk_oex T.xBadStage.ox T.xBadStage.iC T.xBadStage.tI GBadStage (hr.mono (by decide)) T.xBadStage.bB .nil pass0 (by rfl) T.xBadStage.gB (pa_cons (pe_strS (l := kStrU21_0) kStrU21_0_eq) pa_nil)))) pss_nil)
      (pss_cons (ps_set (i := 6) scPReadDrop.nd rfl (Or.inl rfl) (PE.imp (t' := (tAft al wl r)) (pe_ifExp (pt_val (pv 4)) (pe_callTy call_int_str (by rfl) T.z_int (by decide +kernel) (pa_cons (pe_ix (r := rIxL K) ix_list (pv 3) pe_int (fun _ _ => rfl)) pa_nil)) pe_int) ?_))
      (pss_cons (ps_if (pt_val (pv 2)) (pss_one (ps_ret (pe_makeK M.mkO GIO (hr.mono (by decide)) (by rfl) T.gcLastDrop hAE (passes_call (takes_of rfl rfl rfl rfl) (fun _ _ _ _ h => h)) (pa_cons (pv 0) (pa_cons (pe_ix (r := rIxL K) ix_list (pv 1) pe_int (fun _ _ => rfl)) pa_nil)) (pk_cons (pv 6) (pk_cons (pe_cmpR (op_eqD hr.units) (pv 5) (pe_lst (pa_cons (pe_strS (l := [101, 97, 99, 104]) (by decide +kernel)) pa_nil)) (nomark _)) pk_nil))))) pss_nil)
      (pss_one (ps_ret (pe_makeK M.mkW GIW (hr.mono (by decide)) (by rfl) T.gcDrop hAE (passes_call (takes_of rfl rfl rfl rfl) (fun _ _ _ _ h => h)) (pa_cons (pv 0) (pa_cons (pe_ix (r := rIxL K) ix_list (pv 1) pe_int (fun _ _ => rfl)) pa_nil)) (pk_cons (pv 6) (pk_cons (pe_cmpR (op_eqD hr.units) (pv 5) (pe_lst (pa_cons (pe_strS (l := [101, 97, 99, 104]) (by decide +kernel)) pa_nil)) (nomark _)) pk_nil))))))))))))))), ?_⟩
      · rintro σ H1 Q1 ⟨rfl, hw1, kq⟩
        walk_at "go"
        · rename_i h4 p1 hp1 p2 hp2
          have hr2 : 2 ≤ r.length := by omega
          have ec : cutV (strV (w0 :: x :: r)) (some (-2)) none = strV (r.drop (r.length - 2)) := by
            rw [cut_last2 (by omega), strV_drop, hlr]
            congr 1
            rw [show r.length + 2 - 2 = (r.length - 2) + 2 by omega]
            rfl
          refine iEqW (ws := r.drop (r.length - 2)) (us := [kBut, kLast]) ?_ upd_same (okr.drop _) (show ∀ w ∈ [kBut, kLast], ∀ c ∈ w, c < 0x110000 by decide) ?_
          · rw [← ec]
            exact upd_old hp2 upd_same
          · have e : decide (r.drop (r.length - 2) = [kBut, kLast]) = lastR r := by
              unfold lastR
              rw [decide_eq_true hr2, Bool.true_and]
            rw [e]
            exact kq _ (Vk.Same.trans (Same.upd_new hp1) (Same.upd_new hp2))
        · rename_i h4
          have e : lastR r = false := by
            unfold lastR
            rw [decide_eq_false (by omega), Bool.false_and]
          rw [e] at kq
          exact kq _ (Same.refl _)
      · rintro σ H1 Q1 ⟨rfl, hw1, kq⟩
        cases hL : lastR r with
        | true =>
          have hr2 : 2 ≤ r.length := by
            unfold lastR at hL
            rw [Bool.and_eq_true, decide_eq_true_iff] at hL
            exact hL.1
          have ec : cutV (strV (w0 :: x :: r)) (some 2) (some (-2)) = strV (cutR r) := by
            rw [cut_mid2 (by omega), strV_take, strV_drop, hlr]
            unfold cutR
            rw [if_pos hL]
            congr 1
            rw [show r.length + 2 - 2 = (r.length - 2) + 2 by omega]
            rfl
          walk_at "go"
          rename_i p1 hp1
          exact kq p1 _ hp1 (by rw [← ec]; exact upd_same) (Same.upd_new hp1)
        | false =>
          have ec : cutV (strV (w0 :: x :: r)) (some 2) none = strV (cutR r) := by
            rw [cut_from2, strV_drop]
            unfold cutR
            rw [if_neg (by rw [hL]; decide)]
            rfl
          walk_at "go"
          rename_i p1 hp1
          exact kq p1 _ hp1 (by rw [← ec]; exact upd_same) (Same.upd_new hp1)
      · rintro σ H1 Q1 ⟨p, rfl, hp1, kq⟩
        have hlc := strV_len (cutR r)
        rcases hc : cutR r with _ | ⟨u0, _ | ⟨u1, us⟩⟩
        · have e : numbR r = false := by unfold numbR; rw [hc]; rfl
          rw [hc] at hp1 hlc
          rw [e] at kq
          walk_at "go"
          exact kq
        · have e : numbR r = false := by unfold numbR; rw [hc]; rfl
          rw [hc] at hp1 hlc
          rw [e] at kq
          walk_at "go"
          exact kq
        · have e : numbR r = decide (u0 = kAfter) := by unfold numbR; rw [hc]; simp
          rw [hc] at hp1 hlc
          rw [e] at kq
          have hg : (strV (u0 :: u1 :: us))[0]? = some (.str (S u0)) := rfl
          have hl2 : (strV (u0 :: u1 :: us)).length = us.length + 2 := strV_len _
          have e3 : kStrU21_0 = kAfter := rfl
          rw [e3]
          walk_at "go"
          rw [show decide (V.str (S u0) = V.str (S kAfter)) = decide (u0 = kAfter) by simp [S_inj]]
          exact kq
      · rintro σ H1 Q1 ⟨p, rfl, hp1, kq⟩
        cases hN : numbR r with
        | true =>
          have ec : cutV (strV (cutR r)) (some 2) none = strV (endR r) := by
            rw [cut_from2, strV_drop]
            unfold endR
            rw [if_pos hN]
          walk_at "go"
          rename_i p2 hp2
          exact kq p2 _ (by rw [← ec]; exact upd_same) (Same.upd_new hp2)
        | false =>
          have ec : endR r = cutR r := by
            unfold endR
            rw [if_neg (by rw [hN]; decide)]
          rw [ec] at kq
          walk_at "go"
          exact kq p _ hp1 (Same.refl _)
      · rintro σ H1 Q1 ⟨p, q, rfl, hp1, hnum, kq⟩
        cases hN : numbR r with
        | true =>
          obtain ⟨n, hn, hd⟩ := hnum hN
          rw [if_pos hN, hn] at kq
          have hg : (strV (cutR r))[1]? = some (.str (S n)) := by rw [strV_get, hn]; rfl
          have hd' : n = [49] ∨ n = [50] ∨ n = [51] := by simpa [digs] using hd
          rcases hd' with rfl | rfl | rfl
          · walk_at "go"
            exact ⟨(by decide +kernel : PySem.intText? (S [49]) = some 1), by decide, kq⟩
          · walk_at "go"
            exact ⟨(by decide +kernel : PySem.intText? (S [50]) = some 2), by decide, kq⟩
          · walk_at "go"
            exact ⟨(by decide +kernel : PySem.intText? (S [51]) = some 3), by decide, kq⟩
        | false =>
          rw [if_neg (by rw [hN]; decide)] at kq
          walk_at "go"
          exact kq
      · walk_at "go"
        refine ⟨rfl, hw, fun H1 s1 => ?_⟩
        have hw1 := s1 _ _ hw
        walk_at "go"
        refine ⟨rfl, hw1, fun p H2 hp hp2 s2 => ?_⟩
        have s2 := Vk.Same.trans s1 s2
        have hw2 := s2 _ _ hw
        walk_at "go"
        refine ⟨p, rfl, hp2, ?_⟩
        walk_at "go"
        refine ⟨p, rfl, hp2, fun q H3 hq3 s23 => ?_⟩
        have s3 := Vk.Same.trans s2 s23
        have hw3 := s3 _ _ hw
        walk_at "go"
        rename_i q1 hq1 q2 hq2 q4 hq4
        have s4 : Same H3 (upd (upd (upd H3 q1 (.lst [])) q2 (.lst [.str (S [101, 97, 99, 104])])) q4 (.lst [.ref q1, .ref q2])) := Vk.Same.trans (Vk.Same.trans (Same.upd_new hq1) (Same.upd_new hq2)) (Same.upd_new hq4)
        refine iNotInEnd (es := endR r) (upd_old hq4 (upd_old hq2 (upd_old hq1 hq3))) upd_same (upd_old hq4 (upd_old hq2 upd_same)) (upd_old hq4 upd_same) oke ?_
        have s5 := Vk.Same.trans s3 s4
        have hq5 := s4 _ _ hq3
        have hp5 := s4 _ _ (s23 _ _ hp2)
        have hw5 := s4 _ _ hw3
        generalize (upd (upd (upd H3 q1 (.lst [])) q2 (.lst [.str (S [101, 97, 99, 104])])) q4 (.lst [.ref q1, .ref q2])) = H5 at s5 hq5 hp5 hw5 ⊢
        by_cases hE : endR r = [] ∨ endR r = [kEach]
        · rw [decide_eq_true hE]
          walk_at "go"
          have hg1 : (strV (w0 :: x :: r))[1]? = some (.str (S x)) := rfl
          refine iIxL (SqL.of hw5) (atI_nat (j := 1) hg1) ?_
          walk_at "go"
          have hal5 := hal.same s5
          have epd : partsD (x :: r) = some ⟨if lastR r = true then 1 else 0, [], x, if numbR r = true then (cutR r)[1]? else none, decide (endR r = [kEach])⟩ := by
            show dropR x r = _
            unfold dropR
            rw [if_pos hE]
          have ek : (if lastR r = true then 1 else 0) < 2 := by split <;> decide
          have hkd : dK a (if lastR r = true then 1 else 0) = (if lastR r = true then a.cLastDrop else a.cDrop) := by split <;> rfl
          refine ⟨al, l, v, x, rfl, hal5, hsz x (List.mem_cons_self ..), hok x (List.mem_cons_of_mem _ (List.mem_cons_self ..)), fun ms hms H6 s6 => ?_, fun hno dd H6 h1 h2 h3 => ?_⟩
          · have hp6 := s6 _ _ hp5
            have hq6 := s6 _ _ hq5
            have hgx : (strV (w0 :: x :: r))[1]? = some (.str (S x)) := rfl
            have hw6 := s6 _ _ hw5
            have hal6 := hal5.same s6
            have s7 := Vk.Same.trans s5 s6
            clear hg1 hal5 s5 hq5 hp5 hw5 hw2 hw1
            rcases Bool.eq_false_or_eq_true (numbR r) with hN | hN
            · have hl2 : 2 ≤ (cutR r).length := by
                unfold numbR at hN
                rw [Bool.and_eq_true, decide_eq_true_iff] at hN
                exact hN.1
              have hn : (cutR r)[1]? = some (cutR r)[1] := List.getElem?_eq_getElem (by omega)
              generalize (cutR r)[1] = n at hn
              have hg2 : (strV (cutR r))[1]? = some (.str (S n)) := by rw [strV_get, hn]; rfl
              rw [hN] at epd ⊢
              walk_at "go"
              · rename_i q7 hq7 hnd
                have e9 : wrongP l v (partsD (x :: r)) = kAfter := by
                  rw [epd, wrong_drop ek, if_neg (by rw [hms]; simp), if_pos rfl, hn]
                  show (if n ∈ digs then [] else kAfter) = kAfter
                  exact if_neg hnd
                exact ⟨by show 1 ≤ 1000; decide, fun b hb => ⟨b, kAfter, rfl, ⟨by decide, by decide⟩, upd_same, raise1 hb (Vk.Same.trans s7 (Same.upd_new hq7)) fun dd H' h1 h2 h3 => k2 kAfter (by decide) e9 dd H' h1 h2 h3⟩⟩
              · rename_i q7 hq7 hnd
                have e9 : wrongP l v (partsD (x :: r)) = [] := by
                  rw [epd, wrong_drop ek, if_neg (by rw [hms]; simp), if_pos rfl, hn]
                  show (if n ∈ digs then [] else kAfter) = []
                  exact if_pos hnd
                have hn3 : numN (some n) ≤ 3 := by
                  have hd' : n = [49] ∨ n = [50] ∨ n = [51] := by simpa [digs] using hnd
                  rcases hd' with rfl | rfl | rfl <;> decide
                refine ⟨p, q, by rw [hN]; rfl, upd_old hq7 hp6, fun _ => ⟨n, hn, hnd⟩, ?_⟩
                have s8 := Vk.Same.trans s7 (Same.upd_new (o := .lst [.str (S [49]), .str (S [50]), .str (S [51])]) hq7)
                have hq8 := upd_old (o := .lst [.str (S [49]), .str (S [50]), .str (S [51])]) hq7 hq6
                have hw8 := upd_old (o := .lst [.str (S [49]), .str (S [50]), .str (S [51])]) hq7 hw6
                generalize upd H6 q7 (.lst [.str (S [49]), .str (S [50]), .str (S [51])]) = H8 at s8 hq8 hw8 ⊢
                rw [hN, if_pos rfl, hn]
                cases hL : lastR r
                all_goals walk_at "go"
                all_goals rename_i q9 hq9
                all_goals refine iEqW (ws := endR r) (us := [kEach]) (upd_old hq9 hq8) upd_same oke (okK _ (by decide)) ?_
                all_goals walk_at "go"
                all_goals rw [hL] at epd
                all_goals intro y dx hy hdx hne
                · exact made_D (i := 0) (a := a) hy hdx hne (hal.same (Vk.Same.trans s8 (Same.upd_new hq9))) hn3 (hsz x (List.mem_cons_self ..)) (hok x (List.mem_cons_of_mem _ (List.mem_cons_self ..))) hms fun p2 dx2 H9 e1 e2 e3 s9 => k1 _ ms epd (epd ▸ e9) hms p2 dx2 H9 (L2.Same.free (Vk.Same.trans s8 (Same.upd_new hq9)) e1) (by show H9 p2 = some (.ins (dK a 0) dx2 (fsD al x ms (numN ((cutR r)[1]?)) (decide (endR r = [kEach])))); rw [hn]; exact e3) (Vk.Same.trans (Vk.Same.trans s8 (Same.upd_new hq9)) s9)
                · exact made_D (i := 1) (a := a) hy hdx hne (hal.same (Vk.Same.trans s8 (Same.upd_new hq9))) hn3 (hsz x (List.mem_cons_self ..)) (hok x (List.mem_cons_of_mem _ (List.mem_cons_self ..))) hms fun p2 dx2 H9 e1 e2 e3 s9 => k1 _ ms epd (epd ▸ e9) hms p2 dx2 H9 (L2.Same.free (Vk.Same.trans s8 (Same.upd_new hq9)) e1) (by show H9 p2 = some (.ins (dK a 1) dx2 (fsD al x ms (numN ((cutR r)[1]?)) (decide (endR r = [kEach])))); rw [hn]; exact e3) (Vk.Same.trans (Vk.Same.trans s8 (Same.upd_new hq9)) s9)
            · rw [hN] at epd ⊢
              walk_at "go"
              refine ⟨p, q, by rw [hN]; rfl, hp6, fun h => (by rw [hN] at h; cases h), ?_⟩
              rw [hN]
              cases hL : lastR r
              all_goals walk_at "go"
              all_goals rename_i q7 hq7
              all_goals refine iEqW (ws := endR r) (us := [kEach]) (upd_old hq7 hq6) upd_same oke (okK _ (by decide)) ?_
              all_goals walk_at "go"
              all_goals rw [hL] at epd
              all_goals intro y dx hy hdx hne
              · exact made_D (i := 0) (n := 0) (a := a) hy hdx hne (hal.same (Vk.Same.trans s7 (Same.upd_new hq7))) (by decide) (hsz x (List.mem_cons_self ..)) (hok x (List.mem_cons_of_mem _ (List.mem_cons_self ..))) hms fun p2 dx2 H9 e1 e2 e3 s9 => k1 _ ms epd (by rw [wrong_drop (by decide), if_neg (by rw [hms]; simp)]; rfl) hms p2 dx2 H9 (L2.Same.free (Vk.Same.trans s7 (Same.upd_new hq7)) e1) (by exact e3) (Vk.Same.trans (Vk.Same.trans s7 (Same.upd_new hq7)) s9)
              · exact made_D (i := 1) (n := 0) (a := a) hy hdx hne (hal.same (Vk.Same.trans s7 (Same.upd_new hq7))) (by decide) (hsz x (List.mem_cons_self ..)) (hok x (List.mem_cons_of_mem _ (List.mem_cons_self ..))) hms fun p2 dx2 H9 e1 e2 e3 s9 => k1 _ ms epd (by rw [wrong_drop (by decide), if_neg (by rw [hms]; simp)]; rfl) hms p2 dx2 H9 (L2.Same.free (Vk.Same.trans s7 (Same.upd_new hq7)) e1) (by exact e3) (Vk.Same.trans (Vk.Same.trans s7 (Same.upd_new hq7)) s9)
          · exact k2 kSet (by decide) (by rw [epd, wrong_drop ek, if_pos hno]) dd H6 (L2.Same.free s5 h1) h2 (Vk.Same.trans s5 h3)
        · rw [decide_eq_false hE]
          walk_at "go"
          have ep : partsD (x :: r) = none := by
            show dropR x r = none
            unfold dropR
            rw [if_neg hE]
          exact ⟨by show 1 ≤ 1000; decide, fun b hb => ⟨b, kText, rfl, ⟨by decide, by decide⟩, upd_same, raise1 hb s5 fun dd H' h1 h2 h3 => k2 kText (by decide) (by rw [ep]; rfl) dd H' h1 h2 h3⟩⟩
end
end
section
set_option Elab.async false
set_option linter.all false
set_option maxRecDepth 100000
set_option maxHeartbeats 4000000
open PySem PySem.Spec PyProof.Rows L2

local macro_rules | `(tactic| walk_at "ix") => `(tactic| first | exact atI_nat (j := 0) rfl | exact atI_nat (j := 1) rfl)
local macro_rules | `(tactic| walk_at "side") => `(tactic| exact .inl (by assumption))
def kStrU22_0 : List Nat := [106, 111, 105, 110, 116]
theorem kStrU22_0_eq : PySem.Str.ofString "joint" = S kStrU22_0 := by decide +kernel
def kStrU22_1 : List Nat := [97, 102, 116, 101, 114]
theorem kStrU22_1_eq : PySem.Str.ofString "after" = S kStrU22_1 := by decide +kernel
def kStrU22_2 : List Nat := [118, 111, 119, 101, 108]
theorem kStrU22_2_eq : PySem.Str.ofString "vowel" = S kStrU22_2 := by decide +kernel
/-! the words that are drawn -/
def GoodW (n : Nat) (z : List Nat) : Prop := z.length ≤ n ∧ ∀ c ∈ z, c < 0x110000
instance (n : Nat) (z : List Nat) : Decidable (GoodW n z) := by unfold GoodW; infer_instance
theorem GoodW.mono {m n : Nat} {z : List Nat} (h : GoodW m z) (hn : m ≤ n) : GoodW n z := ⟨Nat.le_trans h.1 hn, h.2⟩
theorem pick_w {zs : List (List Nat)} {n r : Nat} (h : ∀ z ∈ zs, GoodW n z) (hr : r < zs.length) : ∃ z, (strV zs)[r]? = some (.str (S z)) ∧ GoodW n z :=
  ⟨zs[r], by rw [strV_get, List.getElem?_eq_getElem hr]; rfl, h _ (List.getElem_mem hr)⟩
theorem ch_at {pool : List Nat} {x : Nat} (hx : x < pool.length) : ∃ c, c ∈ pool ∧ (chV pool)[x]? = some (.str (S [c])) := ⟨pool[x], List.getElem_mem hx, by unfold chV; rw [List.getElem?_map, List.getElem?_eq_getElem hx]; rfl⟩
section
variable {P : Program} {w : World} {K : PySem.W.Frag} {mg : Str → Option Value} {base : Heap} {a : Ad} {d : Fd}
/-- what stands while words are drawn -/
structure Dr (H : Hp) (b pp : Addr) (c0 c1 : Nat) (sr pool : List Nat) : Prop where
  bx : IsBox H b
  pl : H pp = some (.lst (chV pool))
  nb : pp ≠ b
  sl : sr.length ≤ 6
  sc : ∀ c ∈ c0 :: c1 :: sr, c < 128
  p0 : 0 < pool.length
  p1 : pool.length ≤ 30
  pc : ∀ c ∈ pool, c < 128
theorem Dr.fr {H H' : Hp} {b pp : Addr} {c0 c1 : Nat} {sr pool : List Nat} (h : Dr H b pp c0 c1 sr pool) (hb : IsBox H' b) (f : Fr [b] H H') : Dr H' b pp c0 c1 sr pool :=
  { h with bx := hb, pl := f _ _ (by simpa using h.nb) h.pl }
theorem Dr.same {H H' : Hp} {b pp : Addr} {c0 c1 : Nat} {sr pool : List Nat} (h : Dr H b pp c0 c1 sr pool) (s : Same H H') : Dr H' b pp c0 c1 sr pool := by
  obtain ⟨c, bb, n, r, hb⟩ := h.bx
  exact { h with bx := ⟨c, bb, n, r, s _ _ hb⟩, pl := s _ _ h.pl }
def spSignWord : Sp := fun vs H Q _ => ∃ (b pp : Addr) (c0 c1 : Nat) (sr pool : List Nat), vs = [.ref b, .str (S (c0 :: c1 :: sr)), .ref pp] ∧ Dr H b pp c0 c1 sr pool ∧ ∀ (z : List Nat) (H' : Hp), GoodW 4 z → IsBox H' b → Fr [b] H H' → Q (.str (S z)) H'
theorem scSignWord : FnScope ["_law_box_here", "_law_signs", "_law_pool", "_law_words_here"] ["_law_box_here", "_law_signs", "_law_pool"] (defScope sSignWord) := ⟨rfl, rfl, rfl, by decide +kernel, rfl, by decide +kernel, by decide +kernel⟩
theorem ok_signWord (T : Fns K mg a d) : FnOk P w K mg base CX0 2 a.aSignWord d.dSignWord ["_law_box_here", "_law_signs", "_law_pool"] spSignWord := by
  have GTake : FnOk P w K mg base CX0 1 a.aTake d.dTake ["_law_box_here", "_law_many"] spTake := ok_take T
  refine T.FSignWord.ok scSignWord (fun vs H Q E h => ?_) (fun cdv A0 outer s H vs Q E hr h => ?_)
  · obtain ⟨b, pp, c0, c1, sr, pool, rfl, _⟩ := h
    rfl
  · obtain ⟨b, pp, c0, c1, sr, pool, rfl, D, k⟩ := h
    have hls := D.sl
    have hp0 := D.p0
    have hp1 := D.p1
    refine ⟨_, ((pss_cons (ps_if (pt_cmpR op_gt (pe_call GTake (hr.mono (by decide)) (by rfl) T.gTake T.FTake.kp T.bTake .nil pass0 (pa_cons (pv 0) (pa_cons pe_int pa_nil))) pe_int (nomark _)) (pss_one (ps_ret (pe_ix ix_str (pv 1) (pe_call GTake (hr.mono (by decide)) (by rfl) T.gTake T.FTake.kp T.bTake .nil pass0 (pa_cons (pv 0) (pa_cons (pe_callB call_lenS (by rfl) T.z_len (by decide +kernel) (pa_cons (pv 1) pa_nil)) pa_nil))) (fun _ _ => rfl)))) pss_nil)
      (pss_cons (ps_set (i := 3) scSignWord.nd rfl (Or.inl rfl) (pe_lst (pa_cons (pe_strS (l := []) (by decide +kernel)) (pa_cons (pe_strS (l := [45, 45]) (by decide +kernel)) (pa_cons (pe_strS (l := [65]) (by decide +kernel)) (pa_cons (pe_strS (l := [97, 108, 108]) (by decide +kernel)) (pa_cons (pe_strS (l := [91, 45, 93]) (by decide +kernel)) (pa_cons (pe_strS (l := [95]) (by decide +kernel)) (pa_cons (pe_strS (l := [102, 111, 114]) (by decide +kernel)) (pa_cons (pe_strS (l := [101, 97, 99, 104]) (by decide +kernel)) (pa_cons (pe_op op_addS (pe_ix ix_str (pv 1) pe_int (fun _ _ => rfl)) (pe_ix ix_str (pv 1) pe_int (fun _ _ => rfl))) pa_nil)))))))))))
      (pss_cons (ps_set (i := 3) scSignWord.nd rfl (Or.inl rfl) (pe_op op_cat (pv 3) (pe_lst (pa_cons (pe_ix (r := rIxL K) ix_list (pv 2) (pe_call GTake (hr.mono (by decide)) (by rfl) T.gTake T.FTake.kp T.bTake .nil pass0 (pa_cons (pv 0) (pa_cons (pe_callB call_len_seq (by rfl) T.z_len (by decide +kernel) (pa_cons (pv 2) pa_nil)) pa_nil))) (fun _ _ => rfl)) pa_nil))))
      (pss_one (ps_ret (pe_ix (r := rIxL K) ix_list (pv 3) (pe_call GTake (hr.mono (by decide)) (by rfl) T.gTake T.FTake.kp T.bTake .nil pass0 (pa_cons (pv 0) (pa_cons pe_int pa_nil))) (fun _ _ => rfl)))))))), ?_⟩
    walk_at "go"
    refine ⟨b, 4, rfl, D.bx, by decide, by decide, fun r H1 hr1 hB1 f1 => ?_⟩
    have D1 := D.fr hB1 f1
    have hpl1 := D1.pl
    have hcl : (chV pool).length = pool.length := List.length_map _
    walk_at "go"
    · refine ⟨b, (c0 :: c1 :: sr).length, rfl, D1.bx, by simp, by simp only [List.length_cons]; omega, fun x H2 hx hB2 f2 => ?_⟩
      have hx1 : (c0 :: c1 :: sr)[x]? = some (c0 :: c1 :: sr)[x] := List.getElem?_eq_getElem hx
      have hxm : (c0 :: c1 :: sr)[x] ∈ c0 :: c1 :: sr := List.getElem_mem hx
      generalize (c0 :: c1 :: sr)[x] = c at hx1 hxm
      refine iIxS (by simp only [List.length_cons]; omega) (atI_nat hx1) ?_
      walk_at "go"
      exact k [c] H2 ⟨by simp, fun z hz => by rw [List.mem_singleton] at hz; have := D.sc c hxm; omega⟩ hB2 (Fr.trans f1 f2)
    · rename_i p1 hp1
      have nb1 : p1 ≠ b := (hB1.ne hp1).symm
      refine ⟨b, pool.length, by rw [hcl], hB1.laid hp1, hp0, by omega, fun x H2 hx hB2 f2 => ?_⟩
      obtain ⟨c, hc, hcx⟩ := ch_at hx
      have hpl2 : H2 pp = some (.lst (chV pool)) := f2 _ _ (by simpa using D.nb) (upd_old hp1 hpl1)
      have hl2 := f2 p1 _ (by simpa using nb1) upd_same
      refine iIxL (SqL.of hpl2) (atI_nat hcx) ?_
      walk_at "go"
      rename_i p2 hp2 p3 hp3
      refine ⟨b, 10, rfl, (hB2.laid hp2).laid hp3, by decide, by decide, fun y H3 hy hB3 f3 => ?_⟩
      have nb3 : p3 ≠ b := ((hB2.laid hp2).ne hp3).symm
      have hl3 := f3 p3 _ (by simpa using nb3) upd_same
      have hc1 : c1 < 128 := D.sc c1 (by simp)
      have hcp := D.pc c hc
      obtain ⟨z, hz, hzg⟩ := pick_w (zs := [[], [45, 45], [65], [97, 108, 108], [91, 45, 93], [95], [102, 111, 114], [101, 97, 99, 104], [c1] ++ [c1], [c]]) (n := 4) (r := y) (by
        intro z hz
        simp only [List.mem_cons, List.not_mem_nil, or_false] at hz
        rcases hz with rfl | rfl | rfl | rfl | rfl | rfl | rfl | rfl | rfl | rfl
        all_goals first
          | decide
          | (refine ⟨by simp, fun u hu => ?_⟩; simp only [List.mem_append, List.mem_cons, List.not_mem_nil, or_false, or_self] at hu; omega)) hy
      refine iIxL (SqL.of hl3) (atI_nat hz) ?_
      refine k z H3 hzg hB3 ?_
      have g1 : Fr [b] H1 H2 := Fr.trans (Fr.upd_new hp1) f2
      have g2 : Fr [b] H2 H3 := Fr.trans (Fr.trans (Fr.upd_new hp2) (Fr.upd_new hp3)) f3
      exact Fr.trans (Fr.trans f1 g1) g2
def spSetWord : Sp := fun vs H Q _ => ∃ (b pp : Addr) (c0 c1 : Nat) (sr pool : List Nat), vs = [.ref b, .str (S (c0 :: c1 :: sr)), .ref pp] ∧ Dr H b pp c0 c1 sr pool ∧ ∀ (z : List Nat) (H' : Hp), GoodW 10 z → IsBox H' b → Fr [b] H H' → Q (.str (S z)) H'
theorem scSetWord : FnScope ["_law_box_here", "_law_signs", "_law_pool", "_law_words_here"] ["_law_box_here", "_law_signs", "_law_pool"] (defScope sSetWord) := ⟨rfl, rfl, rfl, by decide +kernel, rfl, by decide +kernel, by decide +kernel⟩
theorem goodNm_w {sg nm : List Nat} (hl : sg.length ≤ 8) (hc : ∀ c ∈ sg, c < 128) (g : GoodNm sg nm) : GoodW 10 nm := by
  rcases g with rfl | rfl | rfl | rfl | rfl | ⟨li, rfl, h0, hs⟩
  · decide
  · decide
  · decide
  · decide
  · decide
  · have := hs.length_le
    refine ⟨by simp only [List.length_append, List.length_cons, List.length_nil]; omega, fun c h => ?_⟩
    rcases List.mem_append.mp h with h | h
    · rcases List.mem_append.mp h with h | h
      · rw [List.mem_singleton] at h; omega
      · have := hc c (hs.mem h); omega
    · rw [List.mem_singleton] at h; omega
theorem ok_setWord (T : Fns K mg a d) : FnOk P w K mg base CX0 3 a.aSetWord d.dSetWord ["_law_box_here", "_law_signs", "_law_pool"] spSetWord := by
  have GTake : FnOk P w K mg base CX0 1 a.aTake d.dTake ["_law_box_here", "_law_many"] spTake := ok_take T
  have GName := ok_name (P := P) (w := w) (base := base) T
  refine T.FSetWord.ok scSetWord (fun vs H Q E h => ?_) (fun cdv A0 outer s H vs Q E hr h => ?_)
  · obtain ⟨b, pp, c0, c1, sr, pool, rfl, _⟩ := h
    rfl
  · obtain ⟨b, pp, c0, c1, sr, pool, rfl, D, k⟩ := h
    have hls := D.sl
    have hp0 := D.p0
    have hp1 := D.p1
    refine ⟨_, ((pss_cons (ps_if (pt_cmpR op_gt (pe_call GTake (hr.mono (by decide)) (by rfl) T.gTake T.FTake.kp T.bTake .nil pass0 (pa_cons (pv 0) (pa_cons pe_int pa_nil))) pe_int (nomark _)) (pss_one (ps_ret (pe_call GName (hr.mono (by decide)) (by rfl) T.gName T.FName.kp T.bName .nil pass0 (pa_cons (pv 0) (pa_cons (pv 1) pa_nil))))) pss_nil)
      (pss_cons (ps_set (i := 3) scSetWord.nd rfl (Or.inl rfl) (pe_lst (pa_cons (pe_strS (l := []) (by decide +kernel)) (pa_cons (pe_strS (l := [91, 93]) (by decide +kernel)) (pa_cons (pe_strS (l := [91, 97, 97, 93]) (by decide +kernel)) (pa_cons (pe_strS (l := [91, 97, 45, 93]) (by decide +kernel)) (pa_cons (pe_strS (l := kStrU22_2) kStrU22_2_eq) (pa_cons (pe_strS (l := [65, 108, 108]) (by decide +kernel)) (pa_cons (pe_strS (l := [101, 97, 99, 104]) (by decide +kernel)) (pa_cons (pe_strS (l := kStrU22_1) kStrU22_1_eq) (pa_cons (pe_strS (l := [98, 117, 116]) (by decide +kernel)) (pa_cons (pe_strS (l := kStrU22_0) kStrU22_0_eq) (pa_cons (pe_strS (l := [45]) (by decide +kernel)) (pa_cons (pe_strS (l := [91, 65, 93]) (by decide +kernel)) (pa_cons (pe_strS (l := [102, 111, 114]) (by decide +kernel)) (pa_cons (pe_strS (l := [49]) (by decide +kernel)) pa_nil))))))))))))))))
      (pss_cons (ps_set (i := 3) scSetWord.nd rfl (Or.inl rfl) (pe_op op_cat (pv 3) (pe_lst (pa_cons (pe_op op_addS (pe_op op_addS (pe_strS (l := [91]) (by decide +kernel)) (pe_ix ix_str (pv 1) pe_int (fun _ _ => rfl))) (pe_strS (l := [45, 93]) (by decide +kernel))) (pa_cons (pe_op op_addS (pe_op op_addS (pe_strS (l := [91]) (by decide +kernel)) (pe_ix (r := rIxL K) ix_list (pv 2) (pe_call GTake (hr.mono (by decide)) (by rfl) T.gTake T.FTake.kp T.bTake .nil pass0 (pa_cons (pv 0) (pa_cons (pe_callB call_len_seq (by rfl) T.z_len (by decide +kernel) (pa_cons (pv 2) pa_nil)) pa_nil))) (fun _ _ => rfl))) (pe_strS (l := [93]) (by decide +kernel))) (pa_cons (pe_ix ix_str (pv 1) pe_int (fun _ _ => rfl)) (pa_cons (pe_strS (l := [91, 45]) (by decide +kernel)) pa_nil)))))))
      (pss_one (ps_ret (pe_ix (r := rIxL K) ix_list (pv 3) (pe_call GTake (hr.mono (by decide)) (by rfl) T.gTake T.FTake.kp T.bTake .nil pass0 (pa_cons (pv 0) (pa_cons pe_int pa_nil))) (fun _ _ => rfl)))))))), ?_⟩
    walk_at "go"
    refine ⟨b, 4, rfl, D.bx, by decide, by decide, fun r H1 hr1 hB1 f1 => ?_⟩
    have D1 := D.fr hB1 f1
    have hpl1 := D1.pl
    have hcl : (chV pool).length = pool.length := List.length_map _
    walk_at "go"
    · refine ⟨b, c0 :: c1 :: sr, rfl, hB1, by simp, by simp only [List.length_cons]; omega, fun nm H2 hg hB2 f2 => ?_⟩
      exact k nm H2 (goodNm_w (by simp only [List.length_cons]; omega) D.sc hg) hB2 (Fr.trans f1 f2)
    · rename_i p1 hp1
      have nb1 : p1 ≠ b := (hB1.ne hp1).symm
      refine ⟨b, pool.length, by rw [hcl], hB1.laid hp1, hp0, by omega, fun x H2 hx hB2 f2 => ?_⟩
      obtain ⟨c, hc, hcx⟩ := ch_at hx
      have hpl2 : H2 pp = some (.lst (chV pool)) := f2 _ _ (by simpa using D.nb) (upd_old hp1 hpl1)
      have hl2 := f2 p1 _ (by simpa using nb1) upd_same
      refine iIxL (SqL.of hpl2) (atI_nat hcx) ?_
      walk_at "go"
      rename_i p2 hp2 p3 hp3
      refine ⟨b, 18, rfl, (hB2.laid hp2).laid hp3, by decide, by decide, fun y H3 hy hB3 f3 => ?_⟩
      have nb3 : p3 ≠ b := ((hB2.laid hp2).ne hp3).symm
      have hl3 := f3 p3 _ (by simpa using nb3) upd_same
      have hc1 : c1 < 128 := D.sc c1 (by simp)
      have hcp := D.pc c hc
      obtain ⟨z, hz, hzg⟩ := pick_w (zs := [[], [91, 93], [91, 97, 97, 93], [91, 97, 45, 93], kStrU22_2, [65, 108, 108], [101, 97, 99, 104], kStrU22_1, [98, 117, 116], kStrU22_0, [45], [91, 65, 93], [102, 111, 114], [49], [91] ++ [c1] ++ [45, 93], [91] ++ [c] ++ [93], [c1], [91, 45]]) (n := 10) (r := y) (by
        intro z hz
        simp only [List.mem_cons, List.not_mem_nil, or_false] at hz
        rcases hz with rfl | rfl | rfl | rfl | rfl | rfl | rfl | rfl | rfl | rfl | rfl | rfl | rfl | rfl | rfl | rfl | rfl | rfl
        all_goals first
          | decide
          | (refine ⟨by simp, fun u hu => ?_⟩; simp only [List.mem_append, List.mem_cons, List.not_mem_nil, or_false, or_self] at hu; omega)) hy
      refine iIxL (SqL.of hl3) (atI_nat hz) ?_
      refine k z H3 hzg hB3 ?_
      have g1 : Fr [b] H1 H2 := Fr.trans (Fr.upd_new hp1) f2
      have g2 : Fr [b] H2 H3 := Fr.trans (Fr.trans (Fr.upd_new hp2) (Fr.upd_new hp3)) f3
      exact Fr.trans (Fr.trans f1 g1) g2
def spNumberWord : Sp := fun vs H Q _ => ∃ (b : Addr), vs = [.ref b] ∧ IsBox H b ∧ ∀ (z : List Nat) (H' : Hp), GoodW 4 z → IsBox H' b → Fr [b] H H' → Q (.str (S z)) H'
theorem scNumberWord : FnScope ["_law_box_here"] ["_law_box_here"] (defScope sNumberWord) := ⟨rfl, rfl, rfl, by decide +kernel, rfl, by decide +kernel, by decide +kernel⟩
theorem ok_numberWord (T : Fns K mg a d) : FnOk P w K mg base CX0 2 a.aNumberWord d.dNumberWord ["_law_box_here"] spNumberWord := by
  have GTake : FnOk P w K mg base CX0 1 a.aTake d.dTake ["_law_box_here", "_law_many"] spTake := ok_take T
  refine T.FNumberWord.ok scNumberWord (fun vs H Q E h => ?_) (fun cdv A0 outer s H vs Q E hr h => ?_)
  · obtain ⟨b, rfl, _⟩ := h
    rfl
  · obtain ⟨b, rfl, hB, k⟩ := h
    refine ⟨_, ((pss_cons (ps_if (pt_cmpR op_gt (pe_call GTake (hr.mono (by decide)) (by rfl) T.gTake T.FTake.kp T.bTake .nil pass0 (pa_cons (pv 0) (pa_cons pe_int pa_nil))) pe_int (nomark _)) (pss_one (ps_ret (pe_ix ix_str (pe_strS (l := [49, 50, 51]) (by decide +kernel)) (pe_call GTake (hr.mono (by decide)) (by rfl) T.gTake T.FTake.kp T.bTake .nil pass0 (pa_cons (pv 0) (pa_cons pe_int pa_nil))) (fun _ _ => rfl)))) pss_nil)
      (pss_one (ps_ret (pe_ix (r := rIxL K) ix_list (pe_lst (pa_cons (pe_strS (l := [48]) (by decide +kernel)) (pa_cons (pe_strS (l := [52]) (by decide +kernel)) (pa_cons (pe_strS (l := [48, 49]) (by decide +kernel)) (pa_cons (pe_strS (l := [43, 49]) (by decide +kernel)) (pa_cons (pe_strS (l := [49, 46]) (by decide +kernel)) (pa_cons (pe_strS (l := []) (by decide +kernel)) (pa_cons (pe_strS (l := [101, 97, 99, 104]) (by decide +kernel)) (pa_cons (pe_strS (l := [98, 117, 116]) (by decide +kernel)) (pa_cons (pe_strS (l := [45, 49]) (by decide +kernel)) (pa_cons (pe_strS (l := [111, 110, 101]) (by decide +kernel)) (pa_cons (pe_strS (l := [49, 50]) (by decide +kernel)) pa_nil)))))))))))) (pe_call GTake (hr.mono (by decide)) (by rfl) T.gTake T.FTake.kp T.bTake .nil pass0 (pa_cons (pv 0) (pa_cons pe_int pa_nil))) (fun _ _ => rfl)))))), ?_⟩
    walk_at "go"
    refine ⟨b, 4, rfl, hB, by decide, by decide, fun r H1 hr1 hB1 f1 => ?_⟩
    walk_at "go"
    · refine ⟨b, 3, rfl, hB1, by decide, by decide, fun x H2 hx hB2 f2 => ?_⟩
      have hx1 : ([49, 50, 51] : List Nat)[x]? = some ([49, 50, 51] : List Nat)[x] := List.getElem?_eq_getElem hx
      have hxm : ([49, 50, 51] : List Nat)[x] ∈ ([49, 50, 51] : List Nat) := List.getElem_mem hx
      generalize ([49, 50, 51] : List Nat)[x] = c at hx1 hxm
      refine iIxS (by decide) (atI_nat hx1) ?_
      walk_at "go"
      refine k [c] H2 ⟨by simp, fun z hz => ?_⟩ hB2 (Fr.trans f1 f2)
      rw [List.mem_singleton] at hz
      simp only [List.mem_cons, List.not_mem_nil, or_false] at hxm
      omega
    · rename_i p1 hp1
      have nb1 : p1 ≠ b := (hB1.ne hp1).symm
      refine ⟨b, 11, rfl, hB1.laid hp1, by decide, by decide, fun y H3 hy hB3 f3 => ?_⟩
      have hl3 := f3 p1 _ (by simpa using nb1) upd_same
      obtain ⟨z, hz, hzg⟩ := pick_w (zs := [[48], [52], [48, 49], [43, 49], [49, 46], [], [101, 97, 99, 104], [98, 117, 116], [45, 49], [111, 110, 101], [49, 50]]) (n := 4) (r := y) (by decide) hy
      refine iIxL (SqL.of hl3) (atI_nat hz) ?_
      exact k z H3 hzg hB3 (Fr.trans f1 (Fr.trans (Fr.upd_new hp1) f3))
end
end
section
set_option Elab.async false
set_option linter.all false
set_option maxRecDepth 100000
set_option maxHeartbeats 4000000
open PySem PySem.Spec PyProof.Rows L2

local macro_rules | `(tactic| walk_at "side") => `(tactic| exact .inl (by assumption))
local macro_rules | `(tactic| walk_at "bxx") => `(tactic| first | assumption | (refine IsBox.laid ?_ (by assumption); walk_at "bxx"))
def kStrU23_0 : List Nat := [119, 114, 105, 116, 101]
theorem kStrU23_0_eq : PySem.Str.ofString "write" = S kStrU23_0 := by decide +kernel
def kStrU23_1 : List Nat := [97, 102, 116, 101, 114]
theorem kStrU23_1_eq : PySem.Str.ofString "after" = S kStrU23_1 := by decide +kernel
theorem fr_to {b : Addr} {H H' : Hp} (f : Fr [b] H H') : Fr [b] H H' := f
def wsum (ws : List (List Nat)) : Nat := (ws.map fun z => z.length + 1).sum
/-- words, few and short -/
structure WsOk (m : Nat) (ws : List (List Nat)) : Prop where
  l2 : 2 ≤ ws.length
  l7 : ws.length ≤ 7
  su : wsum ws ≤ m
  ok : OkW ws
theorem okw_nil : OkW [] := fun _ h => by cases h
theorem okw_cons {z : List Nat} {ws : List (List Nat)} (h : ∀ c ∈ z, c < 0x110000) (hw : OkW ws) : OkW (z :: ws) := fun u hu => by
  rcases List.mem_cons.mp hu with rfl | hu
  · exact h
  · exact hw u hu
theorem fr_free {b p : Addr} {H H' : Hp} (f : Fr [b] H H') (hb : IsBox H' b) (hp : H' p = none) : H p = none := by
  cases e : H p with
  | none => rfl
  | some o =>
    have nb : p ≠ b := (hb.ne hp).symm
    have := f p o (by simpa using nb) e
    rw [hp] at this
    cases this
section
variable {P : Program} {w : World} {K : PySem.W.Frag} {mg : Str → Option Value} {base : Heap} {a : Ad} {d : Fd}
def spDWords : Sp := fun vs H Q _ => ∃ (b pp : Addr) (c0 c1 : Nat) (sr pool : List Nat), vs = [.ref b, .str (S (c0 :: c1 :: sr)), .ref pp] ∧ Dr H b pp c0 c1 sr pool ∧
  ∀ (p : Addr) (ws : List (List Nat)) (H' : Hp), H p = none → H' p = some (.lst (strV ws)) → WsOk 41 ws → IsBox H' b → Fr [b] H H' → Q (.ref p) H'
theorem scWords : FnScope ["_law_box_here", "_law_signs", "_law_pool", "_law_pick", "_law_sign", "_law_words_here"] ["_law_box_here", "_law_signs", "_law_pool"] (defScope sWords) := ⟨rfl, rfl, rfl, by decide +kernel, rfl, by decide +kernel, by decide +kernel⟩
theorem ok_dwords (T : Fns K mg a d) : FnOk P w K mg base CX0 4 a.aWords d.dWords ["_law_box_here", "_law_signs", "_law_pool"] spDWords := by
  have GTake : FnOk P w K mg base CX0 1 a.aTake d.dTake ["_law_box_here", "_law_many"] spTake := ok_take T
  have GSignWord := ok_signWord (P := P) (w := w) (base := base) T
  have GSetWord := ok_setWord (P := P) (w := w) (base := base) T
  have GNumberWord := ok_numberWord (P := P) (w := w) (base := base) T
  refine T.FWords.ok scWords (fun vs H Q E h => ?_) (fun cdv A0 outer s H vs Q E hr h => ?_)
  · obtain ⟨b, pp, c0, c1, sr, pool, rfl, _⟩ := h
    rfl
  · obtain ⟨b, pp, c0, c1, sr, pool, rfl, D, k⟩ := h
    refine ⟨_, ((pss_cons (ps_set (i := 3) scWords.nd rfl (Or.inl rfl) (pe_call GTake (hr.mono (by decide)) (by rfl) T.gTake T.FTake.kp T.bTake .nil pass0 (pa_cons (pv 0) (pa_cons pe_int pa_nil))))
      (pss_cons (ps_if (pt_cmpR op_eq (pv 3) pe_int (nomark _)) (pss_cons (ps_set (i := 4) scWords.nd rfl (Or.inl rfl) (pe_call GSignWord (hr.mono (by decide)) (by rfl) T.gSignWord T.FSignWord.kp T.bSignWord .nil pass0 (pa_cons (pv 0) (pa_cons (pv 1) (pa_cons (pv 2) pa_nil)))))
      (pss_one (ps_ret (pe_lst (pa_cons (pe_strS (l := kStrU23_0) kStrU23_0_eq) (pa_cons (pv 4) (pa_cons (pe_strS (l := [102, 111, 114]) (by decide +kernel)) (pa_cons (pe_call GSetWord (hr.mono (by decide)) (by rfl) T.gSetWord T.FSetWord.kp T.bSetWord .nil pass0 (pa_cons (pv 0) (pa_cons (pv 1) (pa_cons (pv 2) pa_nil)))) pa_nil)))))))) pss_nil)
      (pss_cons (ps_if (pt_cmpR op_eq (pv 3) pe_int (nomark _)) (pss_one (ps_ret (pe_lst (pa_cons (pe_strS (l := [111, 110, 99, 101]) (by decide +kernel)) (pa_cons (pe_call GSetWord (hr.mono (by decide)) (by rfl) T.gSetWord T.FSetWord.kp T.bSetWord .nil pass0 (pa_cons (pv 0) (pa_cons (pv 1) (pa_cons (pv 2) pa_nil)))) pa_nil))))) pss_nil)
      (pss_cons (ps_if (pt_cmpR op_eq (pv 3) pe_int (nomark _)) (pss_one (ps_ret (pe_lst (pa_cons (pe_strS (l := [97, 100, 100]) (by decide +kernel)) (pa_cons (pe_call GSignWord (hr.mono (by decide)) (by rfl) T.gSignWord T.FSignWord.kp T.bSignWord .nil pass0 (pa_cons (pv 0) (pa_cons (pv 1) (pa_cons (pv 2) pa_nil)))) pa_nil))))) pss_nil)
      (pss_cons (ps_set (i := 5) scWords.nd rfl (Or.inl rfl) (pe_lst (pa_cons (pe_strS (l := [100, 114, 111, 112]) (by decide +kernel)) (pa_cons (pe_call GSetWord (hr.mono (by decide)) (by rfl) T.gSetWord T.FSetWord.kp T.bSetWord .nil pass0 (pa_cons (pv 0) (pa_cons (pv 1) (pa_cons (pv 2) pa_nil)))) pa_nil))))
      (pss_cons (ps_if (pt_cmpR op_eq (pe_op op_mod (pv 3) pe_int) pe_int (nomark _)) (pss_one (ps_set (i := 5) scWords.nd rfl (Or.inl rfl) (pe_op op_cat (pv 5) (pe_lst (pa_cons (pe_strS (l := kStrU23_1) kStrU23_1_eq) (pa_cons (pe_call GNumberWord (hr.mono (by decide)) (by rfl) T.gNumberWord T.FNumberWord.kp T.bNumberWord .nil pass0 (pa_cons (pv 0) pa_nil)) pa_nil)))))) pss_nil)
      (pss_cons (ps_if (pt_cmpR op_eq (pe_op op_mod (pe_op op_fdiv (pv 3) pe_int) pe_int) pe_int (nomark _)) (pss_one (ps_set (i := 5) scWords.nd rfl (Or.inl rfl) (pe_op op_cat (pv 5) (pe_lst (pa_cons (pe_strS (l := [101, 97, 99, 104]) (by decide +kernel)) pa_nil))))) pss_nil)
      (pss_cons (ps_if (pt_cmpR op_eq (pe_op op_fdiv (pv 3) pe_int) pe_int (nomark _)) (pss_one (ps_set (i := 5) scWords.nd rfl (Or.inl rfl) (pe_op op_cat (pv 5) (pe_lst (pa_cons (pe_strS (l := [98, 117, 116]) (by decide +kernel)) (pa_cons (pe_strS (l := [108, 97, 115, 116]) (by decide +kernel)) pa_nil)))))) pss_nil)
      (pss_one (ps_ret (pv 5)))))))))))), ?_⟩
    walk_at "go"
    refine ⟨b, 11, rfl, D.bx, by decide, by decide, fun r H1 hr1 hB1 f1 => ?_⟩
    have D1 := D.fr hB1 f1
    have lk0 : kStrU23_0.length ≤ 5 := by decide
    have fin : ∀ (ws : List (List Nat)) (p : Addr) (H' : Hp), H p = none → H' p = some (.lst (strV ws)) → (2 ≤ ws.length ∧ ws.length ≤ 7 ∧ wsum ws ≤ 41) → OkW ws → IsBox H' b → Fr [b] H H' → Q (.ref p) H' := fun ws p H' h1 h2 h3 h4 h5 h6 => k p ws H' h1 h2 ⟨h3.1, h3.2.1, h3.2.2, h4⟩ h5 h6
    walk_at "go"
    · refine ⟨b, pp, c0, c1, sr, pool, rfl, D1, fun z H2 hz hB2 f2 => ?_⟩
      walk_at "go"
      refine ⟨b, pp, c0, c1, sr, pool, rfl, D1.fr hB2 f2, fun z3 H3 hz3 hB3 f3 => ?_⟩
      walk_at "go"
      rename_i p hp
      have f4 := Fr.trans (Fr.trans f1 f2) f3
      have h1 := hz.1
      have h3 := hz3.1
      exact fin [kStrU23_0, z, [102, 111, 114], z3] p _ (fr_free f4 hB3 hp) upd_same ⟨by simp, by simp, by simp only [wsum, List.map_cons, List.map_nil, List.sum_cons, List.sum_nil, List.length_cons, List.length_nil]; omega⟩ (okw_cons (by decide) (okw_cons hz.2 (okw_cons (by decide) (okw_cons hz3.2 okw_nil)))) (hB3.laid hp) (Fr.trans f4 (Fr.upd_new hp))
    · refine ⟨b, pp, c0, c1, sr, pool, rfl, D1, fun z H2 hz hB2 f2 => ?_⟩
      walk_at "go"
      rename_i p hp
      have f4 := Fr.trans f1 f2
      have h1 := hz.1
      exact fin [[111, 110, 99, 101], z] p _ (fr_free f4 hB2 hp) upd_same ⟨by simp, by simp, by simp only [wsum, List.map_cons, List.map_nil, List.sum_cons, List.sum_nil, List.length_cons, List.length_nil]; omega⟩ (okw_cons (by decide) (okw_cons hz.2 okw_nil)) (hB2.laid hp) (Fr.trans f4 (Fr.upd_new hp))
    · refine ⟨b, pp, c0, c1, sr, pool, rfl, D1, fun z H2 hz hB2 f2 => ?_⟩
      walk_at "go"
      rename_i p hp
      have f4 := Fr.trans f1 f2
      have h1 := hz.1
      exact fin [[97, 100, 100], z] p _ (fr_free f4 hB2 hp) upd_same ⟨by simp, by simp, by simp only [wsum, List.map_cons, List.map_nil, List.sum_cons, List.sum_nil, List.length_cons, List.length_nil]; omega⟩ (okw_cons (by decide) (okw_cons hz.2 okw_nil)) (hB2.laid hp) (Fr.trans f4 (Fr.upd_new hp))
    · refine ⟨b, pp, c0, c1, sr, pool, rfl, D1, fun z H2 hz hB2 f2 => ?_⟩
      have f4 := Fr.trans f1 f2
      have h1 := hz.1
      have fin4 : ∀ (zs us : List (List Nat)) (p : Addr) (H3 H' : Hp), zs = [] ∨ (∃ n, zs = [kStrU23_1, n] ∧ GoodW 4 n) → (us = [] ∨ us = [[101, 97, 99, 104]] ∨ us = [[98, 117, 116], [108, 97, 115, 116]] ∨ us = [[101, 97, 99, 104], [98, 117, 116], [108, 97, 115, 116]]) → Fr [b] H2 H3 → IsBox H3 b → H3 p = none → H' p = some (.lst (strV ([[100, 114, 111, 112], z] ++ zs ++ us))) → IsBox H' b → Fr [b] H3 H' → Q (.ref p) H' := by
        intro zs us p H3 H' hzs hus g1 g2 g3 g4 g5 g6
        refine fin _ p H' (fr_free (Fr.trans f4 g1) g2 g3) g4 ?_ ?_ g5 (Fr.trans (Fr.trans f4 g1) g6)
        · rcases hzs with rfl | ⟨n, rfl, hn⟩ <;> rcases hus with rfl | rfl | rfl | rfl <;> (refine ⟨by simp, by simp, ?_⟩; try have hn1 := hn.1) <;> simp only [wsum, List.map_cons, List.map_nil, List.sum_cons, List.sum_nil, List.length_cons, List.length_nil, List.cons_append, List.nil_append, List.append_nil, kStrU23_1] <;> omega
        · rcases hzs with rfl | ⟨n, rfl, hn⟩ <;> rcases hus with rfl | rfl | rfl | rfl
          all_goals first
            | exact okw_cons (by decide) (okw_cons hz.2 (by decide +kernel))
            | exact okw_cons (by decide) (okw_cons hz.2 (okw_cons (by decide) (okw_cons hn.2 okw_nil)))
            | exact okw_cons (by decide) (okw_cons hz.2 (okw_cons (by decide) (okw_cons hn.2 (okw_cons (by decide) okw_nil))))
            | exact okw_cons (by decide) (okw_cons hz.2 (okw_cons (by decide) (okw_cons hn.2 (okw_cons (by decide) (okw_cons (by decide) okw_nil)))))
            | exact okw_cons (by decide) (okw_cons hz.2 (okw_cons (by decide) (okw_cons hn.2 (okw_cons (by decide) (okw_cons (by decide) (okw_cons (by decide) okw_nil))))))
            | exact okw_cons (by decide) (okw_cons hz.2 okw_nil)
            | exact okw_cons (by decide) (okw_cons hz.2 (okw_cons (by decide) okw_nil))
            | exact okw_cons (by decide) (okw_cons hz.2 (okw_cons (by decide) (okw_cons (by decide) okw_nil)))
            | exact okw_cons (by decide) (okw_cons hz.2 (okw_cons (by decide) (okw_cons (by decide) (okw_cons (by decide) okw_nil))))
      walk_at "go"
      · rename_i p hp _
        have nb : p ≠ b := (hB2.ne hp).symm
        refine ⟨b, rfl, hB2.laid hp, fun n H3 hn hB3 f3 => ?_⟩
        have hl3 := f3 p _ (by simpa using nb) upd_same
        have f5 : Fr [b] H2 H3 := Fr.trans (Fr.upd_new hp) f3
        walk_at "go"
        all_goals first
        | (refine fin4 [kStrU23_1, n] [] _ _ _ (.inr ⟨n, rfl, hn⟩) (.inl rfl) (fr_to ?_) ?_ (by assumption) upd_same ?_ (Fr.upd_new (by assumption)); (walk_at "fr"); (walk_at "bxx"); (refine IsBox.laid ?_ (by assumption); (walk_at "bxx")))
        | (refine fin4 [kStrU23_1, n] [[101, 97, 99, 104]] _ _ _ (.inr ⟨n, rfl, hn⟩) (.inr (.inl rfl)) (fr_to ?_) ?_ (by assumption) upd_same ?_ (Fr.upd_new (by assumption)); (walk_at "fr"); (walk_at "bxx"); (refine IsBox.laid ?_ (by assumption); (walk_at "bxx")))
        | (refine fin4 [kStrU23_1, n] [[98, 117, 116], [108, 97, 115, 116]] _ _ _ (.inr ⟨n, rfl, hn⟩) (.inr (.inr (.inl rfl))) (fr_to ?_) ?_ (by assumption) upd_same ?_ (Fr.upd_new (by assumption)); (walk_at "fr"); (walk_at "bxx"); (refine IsBox.laid ?_ (by assumption); (walk_at "bxx")))
        | (refine fin4 [kStrU23_1, n] [[101, 97, 99, 104], [98, 117, 116], [108, 97, 115, 116]] _ _ _ (.inr ⟨n, rfl, hn⟩) (.inr (.inr (.inr rfl))) (fr_to ?_) ?_ (by assumption) upd_same ?_ (Fr.upd_new (by assumption)); (walk_at "fr"); (walk_at "bxx"); (refine IsBox.laid ?_ (by assumption); (walk_at "bxx")))
      all_goals first
        | (refine fin4 [] [] _ _ _ (.inl rfl) (.inl rfl) (fr_to ?_) ?_ (by assumption) upd_same ?_ (Fr.upd_new (by assumption)); (walk_at "fr"); (walk_at "bxx"); (refine IsBox.laid ?_ (by assumption); (walk_at "bxx")))
        | (refine fin4 [] [[101, 97, 99, 104]] _ _ _ (.inl rfl) (.inr (.inl rfl)) (fr_to ?_) ?_ (by assumption) upd_same ?_ (Fr.upd_new (by assumption)); (walk_at "fr"); (walk_at "bxx"); (refine IsBox.laid ?_ (by assumption); (walk_at "bxx")))
        | (refine fin4 [] [[98, 117, 116], [108, 97, 115, 116]] _ _ _ (.inl rfl) (.inr (.inr (.inl rfl))) (fr_to ?_) ?_ (by assumption) upd_same ?_ (Fr.upd_new (by assumption)); (walk_at "fr"); (walk_at "bxx"); (refine IsBox.laid ?_ (by assumption); (walk_at "bxx")))
        | (refine fin4 [] [[101, 97, 99, 104], [98, 117, 116], [108, 97, 115, 116]] _ _ _ (.inl rfl) (.inr (.inr (.inr rfl))) (fr_to ?_) ?_ (by assumption) upd_same ?_ (Fr.upd_new (by assumption)); (walk_at "fr"); (walk_at "bxx"); (refine IsBox.laid ?_ (by assumption); (walk_at "bxx")))
end
end
section
set_option Elab.async false
set_option linter.all false
set_option maxRecDepth 100000
set_option maxHeartbeats 4000000
open PySem PySem.Spec PyProof.Rows L2

local macro_rules | `(tactic| walk_at "side") => `(tactic| exact .inl (by assumption))
def kStrU24_0 : List Nat := [119, 114, 105, 116, 101]
theorem kStrU24_0_eq : PySem.Str.ofString "write" = S kStrU24_0 := by decide +kernel
def kStrU24_1 : List Nat := [97, 102, 116, 101, 114]
theorem kStrU24_1_eq : PySem.Str.ofString "after" = S kStrU24_1 := by decide +kernel
theorem cut_toN (xs : List V) (k : Nat) : cutV xs none (some (k : Int)) = xs.take k := by
  unfold cutV
  rw [HT.sIx_none, HT.sIx_nat]
  simp only [List.drop_zero, Nat.sub_zero]
  by_cases h : k ≤ xs.length
  · rw [Nat.min_eq_left h]
  · rw [List.take_of_length_le (by omega), List.take_of_length_le (by omega)]
theorem cut_fromN (xs : List V) (k : Nat) : cutV xs (some (k : Int)) none = xs.drop k := by
  unfold cutV
  rw [HT.sIx_none, HT.sIx_nat]
  by_cases h : k ≤ xs.length
  · rw [Nat.min_eq_left h, List.take_of_length_le (by rw [List.length_drop]; omega)]
  · rw [List.drop_of_length_le (by omega), List.drop_of_length_le (by omega)]
    simp
theorem strV_app (xs ys : List (List Nat)) : strV (xs ++ ys) = strV xs ++ strV ys := List.map_append
theorem wsum_app (xs ys : List (List Nat)) : wsum (xs ++ ys) = wsum xs + wsum ys := by simp [wsum]
theorem wsum_td (ws : List (List Nat)) (i : Nat) : wsum (ws.take i) + wsum (ws.drop i) = wsum ws := by rw [← wsum_app, List.take_append_drop]
theorem wsum_one (z : List Nat) : wsum [z] = z.length + 1 := by simp [wsum]
theorem OkW.app {xs ys : List (List Nat)} (h1 : OkW xs) (h2 : OkW ys) : OkW (xs ++ ys) := fun z hz => (List.mem_append.mp hz).elim (h1 z) (h2 z)
theorem drop_split {ws : List (List Nat)} {i : Nat} (h : i < ws.length) : ws.drop i = ws[i] :: ws.drop (i + 1) := List.drop_eq_getElem_cons h
section
variable {P : Program} {w : World} {K : PySem.W.Frag} {mg : Str → Option Value} {base : Heap} {a : Ad} {d : Fd}
def spSpoilt : Sp := fun vs H Q _ => ∃ (b q : Addr) (ws : List (List Nat)), vs = [.ref b, .ref q] ∧ IsBox H b ∧ H q = some (.lst (strV ws)) ∧ q ≠ b ∧ WsOk 41 ws ∧
  ∀ (p : Addr) (us : List (List Nat)) (H' : Hp), H' p = some (.lst (strV us)) → us ≠ [] → us.length ≤ 8 → wsum us ≤ 47 → OkW us → IsBox H' b → Fr [b] H H' → Q (.ref p) H'
theorem scSpoilt : FnScope ["_law_box_here", "_law_words_here", "_law_way", "_law_index", "_law_more"] ["_law_box_here", "_law_words_here"] (defScope sSpoilt) := ⟨rfl, rfl, rfl, by decide +kernel, rfl, by decide +kernel, by decide +kernel⟩
theorem ok_spoilt (T : Fns K mg a d) : FnOk P w K mg base CX0 2 a.aSpoilt d.dSpoilt ["_law_box_here", "_law_words_here"] spSpoilt := by
  have GTake : FnOk P w K mg base CX0 1 a.aTake d.dTake ["_law_box_here", "_law_many"] spTake := ok_take T
  refine T.FSpoilt.ok scSpoilt (fun vs H Q E h => ?_) (fun cdv A0 outer s H vs Q E hr h => ?_)
  · obtain ⟨b, q, ws, rfl, _⟩ := h
    rfl
  · obtain ⟨b, q, ws, rfl, hB, hq, hqb, hw, k⟩ := h
    have hl2 := hw.l2
    have hl7 := hw.l7
    have hsu := hw.su
    have hvl := strV_len ws
    refine ⟨_, ((pss_cons (ps_set (i := 2) scSpoilt.nd rfl (Or.inl rfl) (pe_call GTake (hr.mono (by decide)) (by rfl) T.gTake T.FTake.kp T.bTake .nil pass0 (pa_cons (pv 0) (pa_cons pe_int pa_nil))))
      (pss_cons (ps_if (pt_cmpR op_eq (pv 2) pe_int (nomark _)) (pss_cons (ps_set (i := 3) scSpoilt.nd rfl (Or.inl rfl) (pe_call GTake (hr.mono (by decide)) (by rfl) T.gTake T.FTake.kp T.bTake .nil pass0 (pa_cons (pv 0) (pa_cons (pe_callB call_len_seq (by rfl) T.z_len (by decide +kernel) (pa_cons (pv 1) pa_nil)) pa_nil))))
      (pss_one (ps_ret (pe_op op_cat (pe_slice sl_list (pv 1) po_none (po_some (pv 3))) (pe_slice sl_list (pv 1) (po_some (pe_op op_add (pv 3) pe_int)) po_none))))) pss_nil)
      (pss_cons (ps_if (pt_cmpR op_eq (pv 2) pe_int (nomark _)) (pss_cons (ps_set (i := 3) scSpoilt.nd rfl (Or.inl rfl) (pe_call GTake (hr.mono (by decide)) (by rfl) T.gTake T.FTake.kp T.bTake .nil pass0 (pa_cons (pv 0) (pa_cons (pe_op op_add (pe_callB call_len_seq (by rfl) T.z_len (by decide +kernel) (pa_cons (pv 1) pa_nil)) pe_int) pa_nil))))
      (pss_cons (ps_set (i := 4) scSpoilt.nd rfl (Or.inl rfl) (pe_lst (pa_cons (pe_strS (l := []) (by decide +kernel)) (pa_cons (pe_strS (l := [101, 97, 99, 104]) (by decide +kernel)) (pa_cons (pe_strS (l := [98, 117, 116]) (by decide +kernel)) (pa_cons (pe_strS (l := [108, 97, 115, 116]) (by decide +kernel)) (pa_cons (pe_strS (l := kStrU24_1) kStrU24_1_eq) (pa_cons (pe_strS (l := [100, 114, 111, 112]) (by decide +kernel)) (pa_cons (pe_strS (l := [49]) (by decide +kernel)) (pa_cons (pe_strS (l := [97, 108, 108]) (by decide +kernel)) (pa_cons (pe_strS (l := [102, 111, 114]) (by decide +kernel)) (pa_cons (pe_strS (l := kStrU24_0) kStrU24_0_eq) (pa_cons (pe_strS (l := [97, 100, 100]) (by decide +kernel)) (pa_cons (pe_strS (l := [111, 110, 99, 101]) (by decide +kernel)) (pa_cons (pe_strS (l := [97]) (by decide +kernel)) pa_nil)))))))))))))))
      (pss_one (ps_ret (pe_op op_cat (pe_op op_cat (pe_slice sl_list (pv 1) po_none (po_some (pv 3))) (pe_lst (pa_cons (pe_ix (r := rIxL K) ix_list (pv 4) (pe_call GTake (hr.mono (by decide)) (by rfl) T.gTake T.FTake.kp T.bTake .nil pass0 (pa_cons (pv 0) (pa_cons pe_int pa_nil))) (fun _ _ => rfl)) pa_nil))) (pe_slice sl_list (pv 1) (po_some (pv 3)) po_none)))))) pss_nil)
      (pss_cons (ps_if (pt_cmpR op_eq (pv 2) pe_int (nomark _)) (pss_cons (ps_set (i := 3) scSpoilt.nd rfl (Or.inl rfl) (pe_call GTake (hr.mono (by decide)) (by rfl) T.gTake T.FTake.kp T.bTake .nil pass0 (pa_cons (pv 0) (pa_cons (pe_op op_sub (pe_callB call_len_seq (by rfl) T.z_len (by decide +kernel) (pa_cons (pv 1) pa_nil)) pe_int) pa_nil))))
      (pss_one (ps_ret (pe_op op_cat (pe_op op_cat (pe_slice sl_list (pv 1) po_none (po_some (pv 3))) (pe_lst (pa_cons (pe_ix (r := rIxL K) ix_list (pv 1) (pe_op op_add (pv 3) pe_int) (fun _ _ => rfl)) (pa_cons (pe_ix (r := rIxL K) ix_list (pv 1) (pv 3) (fun _ _ => rfl)) pa_nil)))) (pe_slice sl_list (pv 1) (po_some (pe_op op_add (pv 3) pe_int)) po_none))))) pss_nil)
      (pss_one (ps_ret (pv 1)))))))), ?_⟩
    walk_at "go"
    refine ⟨b, 6, rfl, hB, by decide, by decide, fun r H1 hr1 hB1 f1 => ?_⟩
    have hq1 := f1 q _ (by simpa using hqb) hq
    walk_at "go"
    · refine ⟨b, ws.length, by rw [hvl], hB1, by omega, by omega, fun i H2 hi hB2 f2 => ?_⟩
      have hq2 := f2 q _ (by simpa using hqb) hq1
      have e1 : cutV (strV ws) none (some (i : Int)) = strV (ws.take i) := by rw [cut_toN, strV_take]
      have e2 : cutV (strV ws) (some ((i : Int) + 1)) none = strV (ws.drop (i + 1)) := by rw [show (i : Int) + 1 = ((i + 1 : Nat) : Int) from rfl, cut_fromN, strV_drop]
      walk_at "go"
      rename_i p1 hp1 p2 hp2
      rw [e1, e2] at *
      refine iCat (upd_old hp2 upd_same) upd_same (by rw [strV_len, strV_len, List.length_take, List.length_drop, sizeLine_eq]; omega) fun p3 hp3 => ?_
      have hd := drop_split hi
      have hs := wsum_td ws i
      rw [hd, show ws[i] :: ws.drop (i + 1) = [ws[i]] ++ ws.drop (i + 1) from rfl, wsum_app, wsum_one] at hs
      refine k p3 (ws.take i ++ ws.drop (i + 1)) _ (by rw [upd_same, strV_app]) (fun e => ?_) (by rw [List.length_append, List.length_take, List.length_drop]; omega) (by rw [wsum_app]; omega) ((hw.ok.take i).app (hw.ok.drop (i + 1))) (((hB2.laid hp1).laid hp2).laid hp3) (Fr.trans (Fr.trans f1 f2) (Fr.trans (Fr.trans (Fr.upd_new hp1) (Fr.upd_new hp2)) (Fr.upd_new hp3)))
      have := congrArg List.length e
      rw [List.length_append, List.length_take, List.length_drop] at this
      simp only [List.length_nil] at this
      omega
    · refine ⟨b, ws.length + 1, by rw [hvl]; rfl, hB1, by omega, by omega, fun i H2 hi hB2 f2 => ?_⟩
      have hq2 := f2 q _ (by simpa using hqb) hq1
      have e1 : cutV (strV ws) none (some (i : Int)) = strV (ws.take i) := by rw [cut_toN, strV_take]
      have e2 : cutV (strV ws) (some (i : Int)) none = strV (ws.drop i) := by rw [cut_fromN, strV_drop]
      walk_at "go"
      rename_i p1 hp1 p2 hp2
      rw [e1] at *
      refine ⟨b, 13, rfl, (hB2.laid hp1).laid hp2, by decide, by decide, fun y H3 hy hB3 f3 => ?_⟩
      have nb1 : p1 ≠ b := (hB2.ne hp1).symm
      have nb2 : p2 ≠ b := ((hB2.laid hp1).ne hp2).symm
      have hl1 := f3 p1 _ (by simpa using nb1) (upd_old hp2 upd_same)
      have hl2' := f3 p2 _ (by simpa using nb2) upd_same
      have hq3 := f3 q _ (by simpa using hqb) (upd_old hp2 (upd_old hp1 hq2))
      obtain ⟨z, hz, hzg⟩ := pick_w (zs := [[], [101, 97, 99, 104], [98, 117, 116], [108, 97, 115, 116], kStrU24_1, [100, 114, 111, 112], [49], [97, 108, 108], [102, 111, 114], kStrU24_0, [97, 100, 100], [111, 110, 99, 101], [97]]) (n := 5) (r := y) (by decide) hy
      refine iIxL (SqL.of hl1) (atI_nat hz) ?_
      have hz1 := hzg.1
      walk_at "go"
      rename_i p4 hp4
      refine iCat (upd_old hp4 hl2') upd_same (by rw [strV_len, List.length_take, sizeLine_eq]; simp only [List.length_cons, List.length_nil]; omega) fun p5 hp5 => ?_
      have hq5 := upd_old (o := .lst (strV (ws.take i) ++ [V.str (S z)])) hp5 (upd_old (o := .lst [V.str (S z)]) hp4 hq3)
      walk_at "go"
      rename_i p6 hp6
      rw [e2] at *
      refine iCat (upd_old hp6 upd_same) upd_same (by rw [List.length_append, strV_len, strV_len, List.length_take, List.length_drop, sizeLine_eq]; simp only [List.length_cons, List.length_nil]; omega) fun p7 hp7 => ?_
      have hs := wsum_td ws i
      have f9 : Fr [b] H H3 := Fr.trans (Fr.trans f1 f2) (Fr.trans (Fr.trans (Fr.upd_new hp1) (Fr.upd_new hp2)) f3)
      refine k p7 (ws.take i ++ [z] ++ ws.drop i) _ (by rw [upd_same, strV_app, strV_app]; rfl) (by simp) (by rw [List.length_append, List.length_append, List.length_take, List.length_drop]; simp only [List.length_cons, List.length_nil]; omega) (by rw [wsum_app, wsum_app, wsum_one]; omega) (((hw.ok.take i).app (okw_cons hzg.2 okw_nil)).app (hw.ok.drop i)) ((((hB3.laid hp4).laid hp5).laid hp6).laid hp7) (Fr.trans f9 (Fr.trans (Fr.trans (Fr.trans (Fr.upd_new hp4) (Fr.upd_new hp5)) (Fr.upd_new hp6)) (Fr.upd_new hp7)))
    · refine ⟨b, ws.length - 1, by rw [hvl, show ((ws.length : Int) - 1) = ((ws.length - 1 : Nat) : Int) by omega], hB1, by omega, by omega, fun i H2 hi hB2 f2 => ?_⟩
      have hq2 := f2 q _ (by simpa using hqb) hq1
      have e1 : cutV (strV ws) none (some (i : Int)) = strV (ws.take i) := by rw [cut_toN, strV_take]
      have e2 : cutV (strV ws) (some ((i : Int) + 2)) none = strV (ws.drop (i + 2)) := by rw [show (i : Int) + 2 = ((i + 2 : Nat) : Int) from rfl, cut_fromN, strV_drop]
      have g0 : (strV ws)[i]? = some (.str (S ws[i])) := by rw [strV_get, List.getElem?_eq_getElem (by omega)]; rfl
      have g1 : (strV ws)[i + 1]? = some (.str (S ws[i + 1])) := by rw [strV_get, List.getElem?_eq_getElem (by omega)]; rfl
      walk_at "go"
      rename_i p1 hp1 p2 hp2
      rw [e1] at *
      have hlg : (V.str (S ws[i + 1]) :: [V.str (S ws[i])]).length = 2 := rfl
      refine iCat (upd_old hp2 upd_same) upd_same (by rw [strV_len, List.length_take, sizeLine_eq, hlg]; omega) fun p3 hp3 => ?_
      have hq3 := upd_old (o := .lst (strV (ws.take i) ++ [V.str (S ws[i + 1]), V.str (S ws[i])])) hp3 (upd_old (o := .lst [V.str (S ws[i + 1]), V.str (S ws[i])]) hp2 (upd_old (o := .lst (strV (ws.take i))) hp1 hq2))
      walk_at "go"
      rename_i p4 hp4
      rw [e2] at *
      refine iCat (upd_old hp4 upd_same) upd_same (by rw [List.length_append, strV_len, strV_len, List.length_take, List.length_drop, sizeLine_eq, hlg]; omega) fun p5 hp5 => ?_
      have hd1 := drop_split (ws := ws) (i := i) (by omega)
      have hd2 := drop_split (ws := ws) (i := i + 1) (by omega)
      have hs := wsum_td ws i
      rw [hd1, hd2, show ws[i] :: ws[i + 1] :: ws.drop (i + 1 + 1) = [ws[i]] ++ ([ws[i + 1]] ++ ws.drop (i + 2)) from rfl, wsum_app, wsum_app, wsum_one, wsum_one] at hs
      have o1 : ∀ c ∈ ws[i], c < 0x110000 := hw.ok _ (List.getElem_mem (by omega))
      have o2 : ∀ c ∈ ws[i + 1], c < 0x110000 := hw.ok _ (List.getElem_mem (by omega))
      refine k p5 (ws.take i ++ [ws[i + 1], ws[i]] ++ ws.drop (i + 2)) _ (by rw [upd_same, strV_app, strV_app]; rfl) (by simp) (by rw [List.length_append, List.length_append, List.length_take, List.length_drop]; simp only [List.length_cons, List.length_nil]; omega) ?_ (((hw.ok.take i).app (okw_cons o2 (okw_cons o1 okw_nil))).app (hw.ok.drop (i + 2))) ((((hB2.laid hp1).laid hp2).laid hp3).laid hp4 |>.laid hp5) (Fr.trans (Fr.trans f1 f2) (Fr.trans (Fr.trans (Fr.trans (Fr.trans (Fr.upd_new hp1) (Fr.upd_new hp2)) (Fr.upd_new hp3)) (Fr.upd_new hp4)) (Fr.upd_new hp5)))
      rw [wsum_app, wsum_app, show [ws[i + 1], ws[i]] = [ws[i + 1]] ++ [ws[i]] from rfl, wsum_app, wsum_one, wsum_one]
      omega
    · exact k q ws H1 hq1 (by intro e; rw [e] at hl2; simp at hl2) (by omega) (by omega) hw.ok hB1 f1
theorem spaced_len (ws : List (List Nat)) : (spaced ws).length ≤ wsum ws := by
  induction ws with
  | nil => simp [spaced]
  | cons x r ih =>
    cases r with
    | nil => simp [spaced, wsum]
    | cons y r =>
      show (x ++ [32] ++ spaced (y :: r)).length ≤ _
      rw [show x :: y :: r = [x] ++ (y :: r) from rfl, wsum_app, wsum_one, List.length_append, List.length_append]
      simp only [List.length_cons, List.length_nil]
      omega
theorem spaced_ok {ws : List (List Nat)} (h : OkW ws) : ∀ c ∈ spaced ws, c < 0x110000 := by
  induction ws with
  | nil => intro c hc; cases hc
  | cons x r ih =>
    cases r with
    | nil => exact h x (List.mem_cons_self ..)
    | cons y r =>
      intro c hc
      have hc : c ∈ x ++ [32] ++ spaced (y :: r) := hc
      rcases List.mem_append.mp hc with hc | hc
      · rcases List.mem_append.mp hc with hc | hc
        · exact h x (List.mem_cons_self ..) c hc
        · rw [List.mem_singleton] at hc
          omega
      · exact ih (fun z hz => h z (List.mem_cons_of_mem _ hz)) c hc
end
end
section
set_option Elab.async false
set_option linter.all false
set_option maxRecDepth 100000
set_option maxHeartbeats 4000000
open PySem PySem.Spec PyProof.Rows L2
theorem _root_.L2.PS.imp {X : Cx} {st : Stmt} {t t' : TS} (h : PS X st t) (k : ∀ D σ H, t' D σ H → t D σ H) : PS X st t' := ⟨fun pins s σ H D I q => h.run pins s σ H D I (k D σ H q)⟩

local macro_rules | `(tactic| walk_at "ix") => `(tactic| first | exact atI_nat (j := 0) rfl | exact atI_nat (j := 1) rfl | exact atI_nat (j := 2) rfl | exact atI_nat (j := 3) rfl)
local macro_rules | `(tactic| walk_at "side") => `(tactic| exact .inl (by assumption))
def kStrU25_0 : List Nat := [119, 114, 105, 116, 101]
theorem kStrU25_0_eq : PySem.Str.ofString "write" = S kStrU25_0 := by decide +kernel
def kStrU25_1 : List Nat := [97, 102, 116, 101, 114]
theorem kStrU25_1_eq : PySem.Str.ofString "after" = S kStrU25_1 := by decide +kernel
set_option hygiene false in
local macro_rules | `(tactic| walk_at "tail") => `(tactic| (
  rename_i p0 hp0
  refine ⟨p0, rfl, by rw [← e2]; exact upd_same, fun p1 H1 hp1 s1 => ?_⟩
  have s1 := Vk.Same.trans (Same.upd_new hp0) s1
  have hq1 := s1 _ _ hq
  walk_at "go"
  refine ⟨p1, rfl, hp1, fun H2 s2 => ?_⟩
  have hp2 := s2 _ _ hp1
  have s2 := Vk.Same.trans s1 s2
  walk_at "go"
  refine ⟨p1, rfl, hp2, fun p3 H3 hp3 s3 => ?_⟩
  have s3 := Vk.Same.trans s2 s3
  have hq3 := s3 _ _ hq
  walk_at "go"
  rename_i p4 hp4
  refine iEqW (ws := restW (restP r)) (us := [kBut, kLast]) (upd_old hp4 hp3) upd_same okW (show ∀ w ∈ [kBut, kLast], ∀ c ∈ w, c < 0x110000 by decide) ?_
  have s4 := Vk.Same.trans s3 (Same.upd_new (o := .lst [.str (S [98, 117, 116]), .str (S [108, 97, 115, 116])]) hp4)
  have hq4 := s4 _ _ hq
  have hp4' := upd_old (o := .lst [.str (S [98, 117, 116]), .str (S [108, 97, 115, 116])]) hp4 hp3
  generalize upd H3 p4 (.lst [.str (S [98, 117, 116]), .str (S [108, 97, 115, 116])]) = H4 at s4 hq4 hp4' ⊢
  by_cases hBL : restW (restP r) = [kBut, kLast]
  · rw [decide_eq_true hBL]
    walk_at "go"
    rename_i p5 hp5
    exact k2 ⟨1, [], x, numP r, eachP (restP r)⟩ (by rw [ep]; unfold dropP; exact if_pos hBL) p5 _ upd_same (Vk.Same.trans s4 (Same.upd_new hp5))
  · rw [decide_eq_false hBL]
    walk_at "go"
    rename_i p5 hp5
    refine iEqW (ws := restW (restP r)) (us := []) (upd_old hp5 hp4') upd_same okW okw_nil ?_
    have s5 := Vk.Same.trans s4 (Same.upd_new (o := .lst []) hp5)
    have hq5 := s5 _ _ hq
    generalize upd H4 p5 (.lst []) = H5 at s5 hq5 ⊢
    by_cases hN : restW (restP r) = []
    · rw [decide_eq_true hN]
      walk_at "go"
      rename_i p6 hp6
      exact k2 ⟨0, [], x, numP r, eachP (restP r)⟩ (by rw [ep, dropP_W, if_neg hBL]; exact if_pos hN) p6 _ upd_same (Vk.Same.trans s5 (Same.upd_new hp6))
    · rw [decide_eq_false hN]
      walk_at "go"
      exact k1 (by rw [ep, dropP_W, if_neg hBL]; exact if_neg hN) _ s5))
def numV (o : Option (List Nat)) : V := match o with
  | none => .non
  | some n => .str (S n)
def IsPt (H : Hp) (f : Addr) (pt : Pt) : Prop := H f = some (.tup [.int (pt.k : Int), .str (S pt.sg), .str (S pt.nm), numV pt.num, .bl pt.j])
def restW (r : List (List Nat)) : List (List Nat) := if eachP r = true then r.drop 1 else r
theorem dropP_W (x : List Nat) (r : List (List Nat)) : dropP x r = if restW (restP r) = [kBut, kLast] then some ⟨1, [], x, numP r, eachP (restP r)⟩ else if restW (restP r) = [] then some ⟨0, [], x, numP r, eachP (restP r)⟩ else none := rfl
theorem partsP_W (w0 x : List Nat) (r : List (List Nat)) : partsP (w0 :: x :: r) = if r.length = 2 ∧ w0 = kWrite ∧ r[0]? = some kFor then some ⟨2, x, r.getD 1 [], none, false⟩
    else if r = [] ∧ w0 = kOnce then some ⟨3, [], x, none, false⟩
    else if r = [] ∧ w0 = kAdd then some ⟨4, x, [], none, false⟩
    else if w0 = kDrop then dropP x r else none := rfl
theorem okR (r : List (List Nat)) (h : OkW r) : OkW (restP r) := by
  unfold restP
  split
  · split
    · exact fun z hz => h z (List.mem_cons_of_mem _ (List.mem_cons_of_mem _ hz))
    · exact h
  · exact h
section
variable {P : Program} {w : World} {K : PySem.W.Frag} {mg : Str → Option Value} {base : Heap} {a : Ad} {d : Fd}
def tNR (q : Addr) (r : List (List Nat)) : TS := fun D σ H => ∃ p, σ = [some (.ref q), some .non, some (.ref p), none] ∧ H p = some (.lst (strV r)) ∧ ∀ p' H', H' p' = some (.lst (strV (restP r))) → Same H H' → D.nx [some (.ref q), some (numV (numP r)), some (.ref p'), none] H'
def tJd (q : Addr) (v : V) (r : List (List Nat)) : TE := fun σ H Q => ∃ p, σ = [some (.ref q), some v, some (.ref p), none] ∧ H p = some (.lst (strV r)) ∧ ∀ H', Same H H' → Q (.bl (eachP r)) H'
def tSk (q : Addr) (v : V) (r : List (List Nat)) : TS := fun D σ H => ∃ p, σ = [some (.ref q), some v, some (.ref p), some (.bl (eachP r))] ∧ H p = some (.lst (strV r)) ∧ ∀ p' H', H' p' = some (.lst (strV (restW r))) → Same H H' → D.nx [some (.ref q), some v, some (.ref p'), some (.bl (eachP r))] H'
def spParts : Sp := fun vs H Q _ => ∃ (q : Addr) (ws : List (List Nat)), vs = [.ref q] ∧ H q = some (.lst (strV ws)) ∧ OkW ws ∧ ws.length ≤ 100 ∧
  (partsP ws = none → ∀ H', Same H H' → Q .non H') ∧ (∀ pt, partsP ws = some pt → ∀ f H', IsPt H' f pt → Same H H' → Q (.ref f) H')
theorem scParts : FnScope ["_law_words_here", "_law_number", "_law_rest", "_law_joined"] ["_law_words_here"] (defScope sParts) := ⟨rfl, rfl, rfl, by decide +kernel, rfl, by decide +kernel, by decide +kernel⟩
theorem ok_parts (T : Fns K mg a d) : FnOk P w K mg base CX0 1 a.aParts d.dParts ["_law_words_here"] spParts := by
  refine T.FParts.ok scParts (fun vs H Q E h => ?_) (fun cdv A0 outer s H vs Q E hr h => ?_)
  · obtain ⟨q, ws, rfl, _⟩ := h
    rfl
  · obtain ⟨q, ws, rfl, hq, hok, hln, k1, k2⟩ := h
    rcases ws with _ | ⟨w0, _ | ⟨x, r⟩⟩
    · refine ⟨_, ((pss_cons (ps_if (PW.pt (pw_and (pt_cmpR op_eq (pe_callB call_len_seq (by rfl) T.z_len (by decide +kernel) (pa_cons (pv 0) pa_nil)) pe_int (nomark _)) (pw_and (pt_cmpR op_eq (pe_ix (r := rIxL K) ix_list (pv 0) pe_int (fun _ _ => rfl)) (pe_strS (l := kStrU25_0) kStrU25_0_eq) (nomark _)) (pw_and1 (pt_cmpR op_eq (pe_ix (r := rIxL K) ix_list (pv 0) pe_int (fun _ _ => rfl)) (pe_strS (l := [102, 111, 114]) (by decide +kernel)) (nomark _)))))) (pss_one (ps_ret (pe_tup (pa_cons pe_int (pa_cons (pe_ix (r := rIxL K) ix_list (pv 0) pe_int (fun _ _ => rfl)) (pa_cons (pe_ix (r := rIxL K) ix_list (pv 0) pe_int (fun _ _ => rfl)) (pa_cons pe_non (pa_cons pe_bl pa_nil)))))))) pss_nil)
      (pss_cons (ps_if (PW.pt (pw_and (pt_cmpR op_eq (pe_callB call_len_seq (by rfl) T.z_len (by decide +kernel) (pa_cons (pv 0) pa_nil)) pe_int (nomark _)) (pw_and1 (pt_cmpR op_eq (pe_ix (r := rIxL K) ix_list (pv 0) pe_int (fun _ _ => rfl)) (pe_strS (l := [111, 110, 99, 101]) (by decide +kernel)) (nomark _))))) (pss_one (ps_ret (pe_tup (pa_cons pe_int (pa_cons (pe_strS (l := []) (by decide +kernel)) (pa_cons (pe_ix (r := rIxL K) ix_list (pv 0) pe_int (fun _ _ => rfl)) (pa_cons pe_non (pa_cons pe_bl pa_nil)))))))) pss_nil)
      (pss_cons (ps_if (PW.pt (pw_and (pt_cmpR op_eq (pe_callB call_len_seq (by rfl) T.z_len (by decide +kernel) (pa_cons (pv 0) pa_nil)) pe_int (nomark _)) (pw_and1 (pt_cmpR op_eq (pe_ix (r := rIxL K) ix_list (pv 0) pe_int (fun _ _ => rfl)) (pe_strS (l := [97, 100, 100]) (by decide +kernel)) (nomark _))))) (pss_one (ps_ret (pe_tup (pa_cons pe_int (pa_cons (pe_ix (r := rIxL K) ix_list (pv 0) pe_int (fun _ _ => rfl)) (pa_cons (pe_strS (l := []) (by decide +kernel)) (pa_cons pe_non (pa_cons pe_bl pa_nil)))))))) pss_nil)
      (pss_cons (ps_if (PW.pt (pw_or (pt_cmpR op_lt (pe_callB call_len_seq (by rfl) T.z_len (by decide +kernel) (pa_cons (pv 0) pa_nil)) pe_int (nomark _)) (pw_or1 (pt_cmpR op_ne (pe_ix (r := rIxL K) ix_list (pv 0) pe_int (fun _ _ => rfl)) (pe_strS (l := [100, 114, 111, 112]) (by decide +kernel)) (nomark _))))) (pss_one (ps_ret pe_non)) pss_nil)
      (pss_cons (ps_set (i := 1) scParts.nd rfl (Or.inl rfl) pe_non)
      (pss_cons (ps_set (i := 2) scParts.nd rfl (Or.inl rfl) (pe_slice sl_list (pv 0) (po_some pe_int) po_none))
      (pss_cons (ps_if (PW.pt (pw_and (pt_cmpR op_gt (pe_callB call_len_seq (by rfl) T.z_len (by decide +kernel) (pa_cons (pv 2) pa_nil)) pe_int (nomark _)) (pw_and1 (pt_cmpR op_eq (pe_ix (r := rIxL K) ix_list (pv 2) pe_int (fun _ _ => rfl)) (pe_strS (l := kStrU25_1) kStrU25_1_eq) (nomark _))))) (pss_cons (ps_set (i := 1) scParts.nd rfl (Or.inl rfl) (pe_ix (r := rIxL K) ix_list (pv 2) pe_int (fun _ _ => rfl)))
      (pss_one (ps_set (i := 2) scParts.nd rfl (Or.inl rfl) (pe_slice sl_list (pv 2) (po_some pe_int) po_none)))) pss_nil)
      (pss_cons (ps_set (i := 3) scParts.nd rfl (Or.inl rfl) (pe_cmpR (op_eqD hr.units) (pe_slice sl_list (pv 2) po_none (po_some pe_int)) (pe_lst (pa_cons (pe_strS (l := [101, 97, 99, 104]) (by decide +kernel)) pa_nil)) (nomark _)))
      (pss_cons (ps_if (pt_val (pv 3)) (pss_one (ps_set (i := 2) scParts.nd rfl (Or.inl rfl) (pe_slice sl_list (pv 2) (po_some pe_int) po_none))) pss_nil)
      (pss_cons (ps_if (pt_cmpR (op_eqD hr.units) (pv 2) (pe_lst (pa_cons (pe_strS (l := [98, 117, 116]) (by decide +kernel)) (pa_cons (pe_strS (l := [108, 97, 115, 116]) (by decide +kernel)) pa_nil))) (nomark _)) (pss_one (ps_ret (pe_tup (pa_cons pe_int (pa_cons (pe_strS (l := []) (by decide +kernel)) (pa_cons (pe_ix (r := rIxL K) ix_list (pv 0) pe_int (fun _ _ => rfl)) (pa_cons (pv 1) (pa_cons (pv 3) pa_nil)))))))) pss_nil)
      (pss_cons (ps_if (pt_cmpR (op_eqD hr.units) (pv 2) (pe_lst pa_nil) (nomark _)) (pss_one (ps_ret (pe_tup (pa_cons pe_int (pa_cons (pe_strS (l := []) (by decide +kernel)) (pa_cons (pe_ix (r := rIxL K) ix_list (pv 0) pe_int (fun _ _ => rfl)) (pa_cons (pv 1) (pa_cons (pv 3) pa_nil)))))))) pss_nil)
      (pss_one (ps_ret pe_non)))))))))))))), ?_⟩
      have l0 : (strV ([] : List (List Nat))).length = 0 := rfl
      walk_at "go"
      exact k1 rfl _ (Same.refl _)
    · refine ⟨_, ((pss_cons (ps_if (PW.pt (pw_and (pt_cmpR op_eq (pe_callB call_len_seq (by rfl) T.z_len (by decide +kernel) (pa_cons (pv 0) pa_nil)) pe_int (nomark _)) (pw_and (pt_cmpR op_eq (pe_ix (r := rIxL K) ix_list (pv 0) pe_int (fun _ _ => rfl)) (pe_strS (l := kStrU25_0) kStrU25_0_eq) (nomark _)) (pw_and1 (pt_cmpR op_eq (pe_ix (r := rIxL K) ix_list (pv 0) pe_int (fun _ _ => rfl)) (pe_strS (l := [102, 111, 114]) (by decide +kernel)) (nomark _)))))) (pss_one (ps_ret (pe_tup (pa_cons pe_int (pa_cons (pe_ix (r := rIxL K) ix_list (pv 0) pe_int (fun _ _ => rfl)) (pa_cons (pe_ix (r := rIxL K) ix_list (pv 0) pe_int (fun _ _ => rfl)) (pa_cons pe_non (pa_cons pe_bl pa_nil)))))))) pss_nil)
      (pss_cons (ps_if (PW.pt (pw_and (pt_cmpR op_eq (pe_callB call_len_seq (by rfl) T.z_len (by decide +kernel) (pa_cons (pv 0) pa_nil)) pe_int (nomark _)) (pw_and1 (pt_cmpR op_eq (pe_ix (r := rIxL K) ix_list (pv 0) pe_int (fun _ _ => rfl)) (pe_strS (l := [111, 110, 99, 101]) (by decide +kernel)) (nomark _))))) (pss_one (ps_ret (pe_tup (pa_cons pe_int (pa_cons (pe_strS (l := []) (by decide +kernel)) (pa_cons (pe_ix (r := rIxL K) ix_list (pv 0) pe_int (fun _ _ => rfl)) (pa_cons pe_non (pa_cons pe_bl pa_nil)))))))) pss_nil)
      (pss_cons (ps_if (PW.pt (pw_and (pt_cmpR op_eq (pe_callB call_len_seq (by rfl) T.z_len (by decide +kernel) (pa_cons (pv 0) pa_nil)) pe_int (nomark _)) (pw_and1 (pt_cmpR op_eq (pe_ix (r := rIxL K) ix_list (pv 0) pe_int (fun _ _ => rfl)) (pe_strS (l := [97, 100, 100]) (by decide +kernel)) (nomark _))))) (pss_one (ps_ret (pe_tup (pa_cons pe_int (pa_cons (pe_ix (r := rIxL K) ix_list (pv 0) pe_int (fun _ _ => rfl)) (pa_cons (pe_strS (l := []) (by decide +kernel)) (pa_cons pe_non (pa_cons pe_bl pa_nil)))))))) pss_nil)
      (pss_cons (ps_if (PW.pt (pw_or (pt_cmpR op_lt (pe_callB call_len_seq (by rfl) T.z_len (by decide +kernel) (pa_cons (pv 0) pa_nil)) pe_int (nomark _)) (pw_or1 (pt_cmpR op_ne (pe_ix (r := rIxL K) ix_list (pv 0) pe_int (fun _ _ => rfl)) (pe_strS (l := [100, 114, 111, 112]) (by decide +kernel)) (nomark _))))) (pss_one (ps_ret pe_non)) pss_nil)
      (pss_cons (ps_set (i := 1) scParts.nd rfl (Or.inl rfl) pe_non)
      (pss_cons (ps_set (i := 2) scParts.nd rfl (Or.inl rfl) (pe_slice sl_list (pv 0) (po_some pe_int) po_none))
      (pss_cons (ps_if (PW.pt (pw_and (pt_cmpR op_gt (pe_callB call_len_seq (by rfl) T.z_len (by decide +kernel) (pa_cons (pv 2) pa_nil)) pe_int (nomark _)) (pw_and1 (pt_cmpR op_eq (pe_ix (r := rIxL K) ix_list (pv 2) pe_int (fun _ _ => rfl)) (pe_strS (l := kStrU25_1) kStrU25_1_eq) (nomark _))))) (pss_cons (ps_set (i := 1) scParts.nd rfl (Or.inl rfl) (pe_ix (r := rIxL K) ix_list (pv 2) pe_int (fun _ _ => rfl)))
      (pss_one (ps_set (i := 2) scParts.nd rfl (Or.inl rfl) (pe_slice sl_list (pv 2) (po_some pe_int) po_none)))) pss_nil)
      (pss_cons (ps_set (i := 3) scParts.nd rfl (Or.inl rfl) (pe_cmpR (op_eqD hr.units) (pe_slice sl_list (pv 2) po_none (po_some pe_int)) (pe_lst (pa_cons (pe_strS (l := [101, 97, 99, 104]) (by decide +kernel)) pa_nil)) (nomark _)))
      (pss_cons (ps_if (pt_val (pv 3)) (pss_one (ps_set (i := 2) scParts.nd rfl (Or.inl rfl) (pe_slice sl_list (pv 2) (po_some pe_int) po_none))) pss_nil)
      (pss_cons (ps_if (pt_cmpR (op_eqD hr.units) (pv 2) (pe_lst (pa_cons (pe_strS (l := [98, 117, 116]) (by decide +kernel)) (pa_cons (pe_strS (l := [108, 97, 115, 116]) (by decide +kernel)) pa_nil))) (nomark _)) (pss_one (ps_ret (pe_tup (pa_cons pe_int (pa_cons (pe_strS (l := []) (by decide +kernel)) (pa_cons (pe_ix (r := rIxL K) ix_list (pv 0) pe_int (fun _ _ => rfl)) (pa_cons (pv 1) (pa_cons (pv 3) pa_nil)))))))) pss_nil)
      (pss_cons (ps_if (pt_cmpR (op_eqD hr.units) (pv 2) (pe_lst pa_nil) (nomark _)) (pss_one (ps_ret (pe_tup (pa_cons pe_int (pa_cons (pe_strS (l := []) (by decide +kernel)) (pa_cons (pe_ix (r := rIxL K) ix_list (pv 0) pe_int (fun _ _ => rfl)) (pa_cons (pv 1) (pa_cons (pv 3) pa_nil)))))))) pss_nil)
      (pss_one (ps_ret pe_non)))))))))))))), ?_⟩
      have l0 : (strV [w0]).length = 1 := rfl
      walk_at "go"
      exact k1 rfl _ (Same.refl _)
    · have l0 : (strV (w0 :: x :: r)).length = r.length + 2 := strV_len _
      have okr : OkW r := fun z hz => hok z (List.mem_cons_of_mem _ (List.mem_cons_of_mem _ hz))
      have hg1 : (strV (w0 :: x :: r))[1]? = some (.str (S x)) := rfl
      refine ⟨_, ((pss_cons (ps_if (PW.pt (pw_and (pt_cmpR op_eq (pe_callB call_len_seq (by rfl) T.z_len (by decide +kernel) (pa_cons (pv 0) pa_nil)) pe_int (nomark _)) (pw_and (pt_cmpR op_eq (pe_ix (r := rIxL K) ix_list (pv 0) pe_int (fun _ _ => rfl)) (pe_strS (l := kStrU25_0) kStrU25_0_eq) (nomark _)) (pw_and1 (pt_cmpR op_eq (pe_ix (r := rIxL K) ix_list (pv 0) pe_int (fun _ _ => rfl)) (pe_strS (l := [102, 111, 114]) (by decide +kernel)) (nomark _)))))) (pss_one (ps_ret (pe_tup (pa_cons pe_int (pa_cons (pe_ix (r := rIxL K) ix_list (pv 0) pe_int (fun _ _ => rfl)) (pa_cons (pe_ix (r := rIxL K) ix_list (pv 0) pe_int (fun _ _ => rfl)) (pa_cons pe_non (pa_cons pe_bl pa_nil)))))))) pss_nil)
      (pss_cons (ps_if (PW.pt (pw_and (pt_cmpR op_eq (pe_callB call_len_seq (by rfl) T.z_len (by decide +kernel) (pa_cons (pv 0) pa_nil)) pe_int (nomark _)) (pw_and1 (pt_cmpR op_eq (pe_ix (r := rIxL K) ix_list (pv 0) pe_int (fun _ _ => rfl)) (pe_strS (l := [111, 110, 99, 101]) (by decide +kernel)) (nomark _))))) (pss_one (ps_ret (pe_tup (pa_cons pe_int (pa_cons (pe_strS (l := []) (by decide +kernel)) (pa_cons (pe_ix (r := rIxL K) ix_list (pv 0) pe_int (fun _ _ => rfl)) (pa_cons pe_non (pa_cons pe_bl pa_nil)))))))) pss_nil)
      (pss_cons (ps_if (PW.pt (pw_and (pt_cmpR op_eq (pe_callB call_len_seq (by rfl) T.z_len (by decide +kernel) (pa_cons (pv 0) pa_nil)) pe_int (nomark _)) (pw_and1 (pt_cmpR op_eq (pe_ix (r := rIxL K) ix_list (pv 0) pe_int (fun _ _ => rfl)) (pe_strS (l := [97, 100, 100]) (by decide +kernel)) (nomark _))))) (pss_one (ps_ret (pe_tup (pa_cons pe_int (pa_cons (pe_ix (r := rIxL K) ix_list (pv 0) pe_int (fun _ _ => rfl)) (pa_cons (pe_strS (l := []) (by decide +kernel)) (pa_cons pe_non (pa_cons pe_bl pa_nil)))))))) pss_nil)
      (pss_cons (ps_if (PW.pt (pw_or (pt_cmpR op_lt (pe_callB call_len_seq (by rfl) T.z_len (by decide +kernel) (pa_cons (pv 0) pa_nil)) pe_int (nomark _)) (pw_or1 (pt_cmpR op_ne (pe_ix (r := rIxL K) ix_list (pv 0) pe_int (fun _ _ => rfl)) (pe_strS (l := [100, 114, 111, 112]) (by decide +kernel)) (nomark _))))) (pss_one (ps_ret pe_non)) pss_nil)
      (pss_cons (ps_set (i := 1) scParts.nd rfl (Or.inl rfl) pe_non)
      (pss_cons (ps_set (i := 2) scParts.nd rfl (Or.inl rfl) (pe_slice sl_list (pv 0) (po_some pe_int) po_none))
      (pss_cons (PS.imp (t' := (tNR q r)) (ps_if (PW.pt (pw_and (pt_cmpR op_gt (pe_callB call_len_seq (by rfl) T.z_len (by decide +kernel) (pa_cons (pv 2) pa_nil)) pe_int (nomark _)) (pw_and1 (pt_cmpR op_eq (pe_ix (r := rIxL K) ix_list (pv 2) pe_int (fun _ _ => rfl)) (pe_strS (l := kStrU25_1) kStrU25_1_eq) (nomark _))))) (pss_cons (ps_set (i := 1) scParts.nd rfl (Or.inl rfl) (pe_ix (r := rIxL K) ix_list (pv 2) pe_int (fun _ _ => rfl)))
      (pss_one (ps_set (i := 2) scParts.nd rfl (Or.inl rfl) (pe_slice sl_list (pv 2) (po_some pe_int) po_none)))) pss_nil) ?_)
      (pss_cons (ps_set (i := 3) scParts.nd rfl (Or.inl rfl) (PE.imp (t' := (tJd q (numV (numP r)) (restP r))) (pe_cmpR (op_eqD hr.units) (pe_slice sl_list (pv 2) po_none (po_some pe_int)) (pe_lst (pa_cons (pe_strS (l := [101, 97, 99, 104]) (by decide +kernel)) pa_nil)) (nomark _)) ?_))
      (pss_cons (PS.imp (t' := (tSk q (numV (numP r)) (restP r))) (ps_if (pt_val (pv 3)) (pss_one (ps_set (i := 2) scParts.nd rfl (Or.inl rfl) (pe_slice sl_list (pv 2) (po_some pe_int) po_none))) pss_nil) ?_)
      (pss_cons (ps_if (pt_cmpR (op_eqD hr.units) (pv 2) (pe_lst (pa_cons (pe_strS (l := [98, 117, 116]) (by decide +kernel)) (pa_cons (pe_strS (l := [108, 97, 115, 116]) (by decide +kernel)) pa_nil))) (nomark _)) (pss_one (ps_ret (pe_tup (pa_cons pe_int (pa_cons (pe_strS (l := []) (by decide +kernel)) (pa_cons (pe_ix (r := rIxL K) ix_list (pv 0) pe_int (fun _ _ => rfl)) (pa_cons (pv 1) (pa_cons (pv 3) pa_nil)))))))) pss_nil)
      (pss_cons (ps_if (pt_cmpR (op_eqD hr.units) (pv 2) (pe_lst pa_nil) (nomark _)) (pss_one (ps_ret (pe_tup (pa_cons pe_int (pa_cons (pe_strS (l := []) (by decide +kernel)) (pa_cons (pe_ix (r := rIxL K) ix_list (pv 0) pe_int (fun _ _ => rfl)) (pa_cons (pv 1) (pa_cons (pv 3) pa_nil)))))))) pss_nil)
      (pss_one (ps_ret pe_non)))))))))))))), ?_⟩
      · rintro ⟨D1, D2, D3, D4⟩ σ H1 ⟨p, rfl, hp, kq⟩
        dsimp only at kq
        rcases r with _ | ⟨u0, _ | ⟨u1, us⟩⟩
        · have l1 : (strV ([] : List (List Nat))).length = 0 := rfl
          walk_at "go"
          exact kq p H1 hp (Same.refl _)
        · have l1 : (strV [u0]).length = 1 := rfl
          walk_at "go"
          exact kq p H1 hp (Same.refl _)
        · have l1 : (strV (u0 :: u1 :: us)).length = us.length + 2 := strV_len _
          have hk : kStrU25_1 = kAfter := rfl
          rw [hk]
          walk_at "go"
          · rename_i h1 h2 p1 hp1
            have e1 : cutV (strV (u0 :: u1 :: us)) (some 2) none = strV (restP (u0 :: u1 :: us)) := by
              rw [cut_from2, strV_drop]
              show strV us = strV (if u0 = kAfter then us else u0 :: u1 :: us)
              rw [if_pos h2]
            have e3 : numV (numP (u0 :: u1 :: us)) = .str (S u1) := by
              show numV (if u0 = kAfter then some u1 else none) = _
              rw [if_pos h2]
              rfl
            rw [e3] at kq
            exact kq p1 _ (by rw [← e1]; exact upd_same) (Same.upd_new hp1)
          · rename_i h1 h2
            have e1 : restP (u0 :: u1 :: us) = u0 :: u1 :: us := by
              show (if u0 = kAfter then us else u0 :: u1 :: us) = _
              rw [if_neg h2]
            have e3 : numV (numP (u0 :: u1 :: us)) = .non := by
              show numV (if u0 = kAfter then some u1 else none) = _
              rw [if_neg h2]
              rfl
            rw [e3, e1] at kq
            exact kq p H1 hp (Same.refl _)
      · rintro σ H1 Q1 ⟨p, rfl, hp, kq⟩
        have e1 : cutV (strV (restP r)) none (some 1) = strV ((restP r).take 1) := by rw [cut_to1, strV_take]
        walk_at "go"
        rename_i p1 hp1 p2 hp2
        refine iEqW (ws := (restP r).take 1) (us := [kEach]) (by rw [← e1]; exact upd_old hp2 upd_same) upd_same ((okR r okr).take 1) (okw_cons (by decide) okw_nil) ?_
        exact kq _ (Vk.Same.trans (Same.upd_new hp1) (Same.upd_new hp2))
      · rintro ⟨D1, D2, D3, D4⟩ σ H1 ⟨p, rfl, hp, kq⟩
        dsimp only at kq
        have e1 : cutV (strV (restP r)) (some 1) none = strV ((restP r).drop 1) := by rw [cut_from1, strV_drop]
        cases hE : eachP (restP r)
        · rw [show restW (restP r) = restP r by unfold restW; rw [if_neg (by rw [hE]; decide)], hE] at kq
          walk_at "go"
          exact kq p H1 hp (Same.refl _)
        · rw [show restW (restP r) = (restP r).drop 1 by unfold restW; rw [if_pos hE], hE] at kq
          walk_at "go"
          rename_i p1 hp1
          exact kq p1 _ (by rw [← e1]; exact upd_same) (Same.upd_new hp1)
      · have e2 : cutV (strV (w0 :: x :: r)) (some 2) none = strV r := by rw [cut_from2]; rfl
        by_cases hD : w0 = [100, 114, 111, 112]
        · have ep : partsP (w0 :: x :: r) = dropP x r := by
            subst hD
            unfold partsP
            simp only []
            rw [if_neg (by rintro ⟨_, h, _⟩; revert h; decide), if_neg (by rintro ⟨_, h⟩; revert h; decide), if_neg (by rintro ⟨_, h⟩; revert h; decide)]
            exact if_pos rfl
          have okW : OkW (restW (restP r)) := by
            unfold restW
            split
            · exact (okR r okr).drop 1
            · exact okR r okr
          subst hD
          by_cases h2 : r.length = 2
          · walk_at "go"
            walk_at "tail"
          · by_cases h0 : r.length = 0
            · walk_at "go"
              walk_at "tail"
            · walk_at "go"
              walk_at "tail"
        · have h0 : kStrU25_0 = [119, 114, 105, 116, 101] := rfl
          rw [h0]
          have nD : ¬ w0 = kDrop := hD
          by_cases hW : w0 = [119, 114, 105, 116, 101]
          · subst hW
            have e9 : partsP ([119, 114, 105, 116, 101] :: x :: r) = if r.length = 2 ∧ r[0]? = some kFor then some ⟨2, x, r.getD 1 [], none, false⟩ else none := by
              rw [partsP_W, if_neg (c := r = [] ∧ _) (by rintro ⟨_, h⟩; revert h; decide), if_neg (c := r = [] ∧ _) (by rintro ⟨_, h⟩; revert h; decide), if_neg nD]
              by_cases h : r.length = 2 ∧ r[0]? = some kFor
              · rw [if_pos h]
                exact if_pos ⟨h.1, rfl, h.2⟩
              · rw [if_neg h]
                exact if_neg fun q => h ⟨q.1, q.2.2⟩
            rcases r with _ | ⟨u0, _ | ⟨u1, _ | ⟨u2, us⟩⟩⟩
            · have l1 : (strV [[119, 114, 105, 116, 101], x]).length = 2 := rfl
              walk_at "go"
              exact k1 (by rw [e9]; rfl) _ (Same.refl _)
            · have l1 : (strV [[119, 114, 105, 116, 101], x, u0]).length = 3 := rfl
              walk_at "go"
              exact k1 (by rw [e9]; rfl) _ (Same.refl _)
            · have l1 : (strV [[119, 114, 105, 116, 101], x, u0, u1]).length = 4 := rfl
              walk_at "go"
              · rename_i h3 p1 hp1
                exact k2 ⟨2, x, u1, none, false⟩ (by rw [e9, h3]; rfl) p1 _ upd_same (Same.upd_new hp1)
              · rename_i h4 h5 h3 h6 h7 h8 h9
                exact k1 (by rw [e9]; exact if_neg fun q => h3 (Option.some.inj q.2)) _ (Same.refl _)
            · have l1 : (strV ([119, 114, 105, 116, 101] :: x :: u0 :: u1 :: u2 :: us)).length = us.length + 5 := strV_len _
              have l2 : (u0 :: u1 :: u2 :: us).length = us.length + 3 := rfl
              walk_at "go"
              exact k1 (by rw [e9]; exact if_neg fun q => by rw [l2] at q; omega) _ (Same.refl _)
          · have nW : ¬ w0 = kWrite := hW
            by_cases hO : w0 = [111, 110, 99, 101]
            · subst hO
              by_cases h1 : r = []
              · subst h1
                have l1 : (strV [[111, 110, 99, 101], x]).length = 2 := rfl
                walk_at "go"
                rename_i p1 hp1
                exact k2 ⟨3, [], x, none, false⟩ rfl p1 _ upd_same (Same.upd_new hp1)
              · have h2 : r.length ≠ 0 := fun e => h1 (List.eq_nil_of_length_eq_zero e)
                have e9 : partsP ([111, 110, 99, 101] :: x :: r) = none := by
                  rw [partsP_W, if_neg (fun q => nW q.2.1), if_neg (fun q => h1 q.1), if_neg (fun q => h1 q.1), if_neg nD]
                walk_at "go"
                all_goals exact k1 e9 _ (Same.refl _)
            · have nO : ¬ w0 = kOnce := hO
              by_cases hA : w0 = [97, 100, 100]
              · subst hA
                by_cases h1 : r = []
                · subst h1
                  have l1 : (strV [[97, 100, 100], x]).length = 2 := rfl
                  walk_at "go"
                  rename_i p1 hp1
                  exact k2 ⟨4, x, [], none, false⟩ rfl p1 _ upd_same (Same.upd_new hp1)
                · have h2 : r.length ≠ 0 := fun e => h1 (List.eq_nil_of_length_eq_zero e)
                  have e9 : partsP ([97, 100, 100] :: x :: r) = none := by
                    rw [partsP_W, if_neg (fun q => nW q.2.1), if_neg (fun q => h1 q.1), if_neg (fun q => h1 q.1), if_neg nD]
                  walk_at "go"
                  all_goals exact k1 e9 _ (Same.refl _)
              · have nA : ¬ w0 = kAdd := hA
                have e9 : partsP (w0 :: x :: r) = none := by
                  rw [partsP_W, if_neg (fun q => nW q.2.1), if_neg (fun q => nO q.2), if_neg (fun q => nA q.2), if_neg nD]
                walk_at "go"
                all_goals exact k1 e9 _ (Same.refl _)
end
end
section
set_option Elab.async false
set_option linter.all false
set_option maxRecDepth 100000
set_option maxHeartbeats 4000000
open PySem PySem.Spec PyProof.Rows L2

local macro_rules | `(tactic| walk_at "ix") => `(tactic| first | exact atI_nat (j := 0) rfl | exact atI_nat (j := 1) rfl | exact atI_nat (j := 2) rfl | exact atI_nat (j := 3) rfl)
local macro_rules | `(tactic| walk_at "side") => `(tactic| exact .inl (by assumption))
local macro_rules | `(tactic| walk_at "go1") => `(tactic| first | (with_reducible refine iMakeD ?_) | (with_reducible refine iMakeK ?_))
def kStrU26_0 : List Nat := [119, 114, 105, 116, 101]
theorem kStrU26_0_eq : PySem.Str.ofString "write" = S kStrU26_0 := by decide +kernel
theorem iSplit {t : List Nat} {H : Hp} {Q : VK} (ht : t.length ≤ 1000) (h : ∀ p, H p = none → Q (.ref p) (upd H p (.lst (strV (cut t))))) : ∃ a b, V.str (S t) = .str a ∧ [V.str (S [32])] = [.str b] ∧ (b.length == 0) = false ∧ a.length + 2 ≤ sizeLine ∧ rNewStrs (Txt.split a b) H Q := by
  refine ⟨S t, S [32], rfl, rfl, by decide +kernel, by rw [S_len, sizeLine_eq]; omega, fun p hp => ?_⟩
  rw [split_S, ← strV_eq]
  exact h p hp
theorem okw_cut {t : List Nat} (h : ∀ c ∈ t, c < 0x110000) : OkW (cut t) := fun z hz c hc => h c ((cut_mem hz).2 c hc)
/-- a stage of the kind that the parts say -/
def IsSt (a : Ad) (H : Hp) (al : Addr) (ms : List Nat) (pt : Pt) (p : Addr) : Prop := ∃ dx, H p = some (.ins (sK a pt.k) dx (if pt.k < 2 then fsD al pt.nm ms (numN pt.num) pt.j else stFs (pt.k - 2) al pt.nm pt.sg ms))
theorem wrong_st {l v sg nm : List Nat} {k : Nat} {j : Bool} (hk : 2 ≤ k ∧ k ≤ 4) (h3 : k = 3 → sg = []) : wrongP l v (some ⟨k, sg, nm, none, j⟩) = (whatOf (k - 2) l v sg nm).getD [] := by
  obtain rfl | rfl | rfl : k = 2 ∨ k = 3 ∨ k = 4 := by omega
  · by_cases h : signB (45 :: srtL l) sg = false <;> by_cases g : setOf l v nm = none <;> simp [wrongP, whatOf, h, g, kSign, kSet]
  · by_cases g : setOf l v nm = none <;> simp [wrongP, whatOf, g, kSign, kSet]
  · by_cases h : signB (45 :: srtL l) sg = false <;> simp [wrongP, whatOf, h, kSign, kSet]
theorem what_ne {k : Nat} {l v sg nm z : List Nat} (h : whatOf k l v sg nm = some z) : z ≠ [] := by
  unfold whatOf at h
  split at h
  · cases h
    decide
  · split at h
    · cases h
      decide
    · cases h
theorem parts_drop (ws : List (List Nat)) : partsP ([100, 114, 111, 112] :: ws) = partsD ws := by
  rcases ws with _ | ⟨x, r⟩
  · rfl
  · show _ = dropR x r
    rw [dropR_eq]
    show (if r.length = 2 ∧ [100, 114, 111, 112] = kWrite ∧ r[0]? = some kFor then _ else if r = [] ∧ [100, 114, 111, 112] = kOnce then _ else if r = [] ∧ [100, 114, 111, 112] = kAdd then _ else if [100, 114, 111, 112] = kDrop then dropP x r else none) = _
    rw [if_neg (by rintro ⟨_, h, _⟩; revert h; decide), if_neg (by rintro ⟨_, h⟩; revert h; decide), if_neg (by rintro ⟨_, h⟩; revert h; decide)]
    exact if_pos rfl
theorem partsD_k {ws : List (List Nat)} {pt : Pt} (h : partsD ws = some pt) : pt.k < 2 := by
  rcases ws with _ | ⟨x, r⟩
  · cases h
  · have h : dropR x r = some pt := h
    unfold dropR at h
    split at h
    · cases h
      show (if lastR r = true then 1 else 0) < 2
      split <;> decide
    · cases h
theorem sK_dK (a : Ad) {k : Nat} (h : k < 2) : sK a k = dK a k := by
  obtain rfl | rfl : k = 0 ∨ k = 1 := by omega
  · rfl
  · rfl
section
variable {P : Program} {w : World} {K : PySem.W.Frag} {mg : Str → Option Value} {base : Heap} {a : Ad} {d : Fd}
theorem made_S {k : Nat} {C : Addr} {H : Hp} {p dx al : Addr} {l v sg nm : List Nat} {Q : VK} {E : XK} (hp : H p = none) (hdx : H dx = none) (hne : dx ≠ p) (hal : IsAl a.cAlphabet H al l v) (hsl : sg.length ≤ 100) (hnl : nm.length ≤ 60) (hnc : ∀ c ∈ nm, c < 0x110000)
    (k1 : whatOf k l v sg nm = none → ∀ (p dx : Addr) ms H', H p = none → H dx = none → (k ≠ 2 → setOf l v nm = some ms) → H' p = some (.ins C dx (stFs k al nm sg ms)) → Same H H' → Q (.ref p) H')
    (k2 : ∀ z, whatOf k l v sg nm = some z → ∀ dd H', H dd = none → H' dd = some (.xd [("what", .str (S z))]) → Same H H' → E (.ref a.cBadStage) (some dd) H') :
    spInit k C a.cAlphabet a.cBadStage (stArgs k p al sg nm) (upd (upd H dx (.own p)) p (.ins C dx [])) (fun v H2 => v = .non ∧ Q (.ref p) H2) E := by
  have hap : al ≠ p := hal.ne hp
  have hs : ∀ H', Fr [p] (upd (upd H dx (.own p)) p (.ins C dx [])) H' → Same H H' := fun H' f => Fr.forget1 (fr_made hp hdx hne f) hp
  refine ⟨p, dx, al, l, v, sg, nm, rfl, upd_same, hal.fr (L := [p]) (Fr.trans (Fr.upd_new hdx) Fr.in0) (by simpa using hap), hap, hsl, hnl, hnc, fun hn ms hms H' h1 f => ⟨rfl, k1 hn p dx ms H' hp hdx hms h1 (hs H' f)⟩, fun z hz dd H' h1 h2 f => k2 z hz dd H' ?_ h2 (hs H' f)⟩
  have n1 : dd ≠ p := fun e => by
    rw [e, upd_same] at h1
    cases h1
  rw [upd_ne n1] at h1
  have n2 : dd ≠ dx := fun e => by
    rw [e, upd_same] at h1
    cases h1
  rw [upd_ne n2] at h1
  exact h1
def spReadStage (a : Ad) : Sp := fun vs H Q E => ∃ (al : Addr) (l v t : List Nat), vs = [.ref al, .str (S t)] ∧ IsAl a.cAlphabet H al l v ∧ t.length ≤ 60 ∧ (∀ c ∈ t, c < 0x110000) ∧
  (∀ pt ms, partsP (cut t) = some pt → wrongP l v (some pt) = [] → (pt.k ≠ 4 → setOf l v pt.nm = some ms) → ∀ (p : Addr) H', H p = none → IsSt a H' al ms pt p → Same H H' → Q (.ref p) H') ∧
  (∀ z, z ≠ [] → wrongP l v (partsP (cut t)) = z → ∀ dd H', H dd = none → H' dd = some (.xd [("what", .str (S z))]) → Same H H' → E (.ref a.cBadStage) (some dd) H')
theorem scPReadStage : FnScope ["alphabet", "written", "words"] ["alphabet", "written"] (defScope sPReadStage) := ⟨rfl, rfl, rfl, by decide +kernel, rfl, by decide +kernel, by decide +kernel⟩
theorem ok_readStage (T : Fns K mg a d) (M : Mx K a d)
    (GPReadDrop : FnOk P w K mg base (L2.CX P w) 8 a.aPReadDrop d.dPReadDrop ["alphabet", "words"] (spReadDrop a))
    (GIWr : FnOk P w K mg base (L2.CX P w) 6 a.fWI d.fWI ["self", "alphabet", "sign", "name"] (spInit 0 a.cWrite a.cAlphabet a.cBadStage))
    (GIOn : FnOk P w K mg base (L2.CX P w) 6 a.fOI d.fOI ["self", "alphabet", "name"] (spInit 1 a.cOnce a.cAlphabet a.cBadStage))
    (GIAd : FnOk P w K mg base (L2.CX P w) 6 a.fAI d.fAI ["self", "alphabet", "sign"] (spInit 2 a.cAdd a.cAlphabet a.cBadStage))
    (GBadStage : FnOk P w K mg base CX0 1 a.eBadStage d.eBadStage ["self", "what"] (spErr a.cBadStage "what")) :
    FnOk P w K mg base (L2.CX P w) 10 a.aPReadStage d.dPReadStage ["alphabet", "written"] (spReadStage a) := by
  refine T.FPReadStage.okX scPReadStage (fun vs H Q E h => ?_) (fun cdv A0 outer s H vs Q E hr h => ?_)
  · obtain ⟨al, l, v, t, rfl, _⟩ := h
    rfl
  · obtain ⟨al, l, v, t, rfl, hal, htl, htc, k1, k2⟩ := h
    have okc := okw_cut htc
    have hcl := cut_len t
    have hcm : ∀ z ∈ cut t, z.length ≤ 60 := fun z hz => Nat.le_trans (cut_mem hz).1 htl
    have hcn : cut t ≠ [] := cutA_ne [] t
    refine ⟨_, ((pss_cons (ps_set (i := 2) scPReadStage.nd rfl (Or.inl rfl) (pe_split (pv 1) (pe_strS (l := [32]) (by decide +kernel))))
      (pss_cons (ps_if (pt_cmpR op_eq (pe_ix (r := rIxL K) ix_list (pv 2) pe_int (fun _ _ => rfl)) (pe_strS (l := [100, 114, 111, 112]) (by decide +kernel)) (nomark _)) (pss_one (ps_ret (pe_call GPReadDrop (hr.mono (by decide)) (by rfl) T.gPReadDrop T.FPReadDrop.kp T.bPReadDrop .nil (passes_call (takes_of rfl rfl rfl rfl) (fun _ _ _ _ h => h)) (pa_cons (pv 0) (pa_cons (pv 2) pa_nil))))) pss_nil)
      (pss_cons (ps_if (PW.pt (pw_and (pt_cmpR op_eq (pe_ix (r := rIxL K) ix_list (pv 2) pe_int (fun _ _ => rfl)) (pe_strS (l := kStrU26_0) kStrU26_0_eq) (nomark _)) (pw_and (pt_cmpR op_eq (pe_callB call_len_seq (by rfl) T.z_len (by decide +kernel) (pa_cons (pv 2) pa_nil)) pe_int (nomark _)) (pw_and1 (pt_cmpR op_eq (pe_ix (r := rIxL K) ix_list (pv 2) pe_int (fun _ _ => rfl)) (pe_strS (l := [102, 111, 114]) (by decide +kernel)) (nomark _)))))) (pss_one (ps_ret (pe_make M.mkWr GIWr (hr.mono (by decide)) (by rfl) T.gcWrite M.bWr .nil (passes_call (takes_of rfl rfl rfl rfl) (fun _ _ _ _ h => h)) (pa_cons (pv 0) (pa_cons (pe_ix (r := rIxL K) ix_list (pv 2) pe_int (fun _ _ => rfl)) (pa_cons (pe_ix (r := rIxL K) ix_list (pv 2) pe_int (fun _ _ => rfl)) pa_nil)))))) pss_nil)
      (pss_cons (ps_if (PW.pt (pw_and (pt_cmpR op_eq (pe_ix (r := rIxL K) ix_list (pv 2) pe_int (fun _ _ => rfl)) (pe_strS (l := [111, 110, 99, 101]) (by decide +kernel)) (nomark _)) (pw_and1 (pt_cmpR op_eq (pe_callB call_len_seq (by rfl) T.z_len (by decide +kernel) (pa_cons (pv 2) pa_nil)) pe_int (nomark _))))) (pss_one (ps_ret (pe_make M.mkOn GIOn (hr.mono (by decide)) (by rfl) T.gcOnce M.bOn .nil (passes_call (takes_of rfl rfl rfl rfl) (fun _ _ _ _ h => h)) (pa_cons (pv 0) (pa_cons (pe_ix (r := rIxL K) ix_list (pv 2) pe_int (fun _ _ => rfl)) pa_nil))))) pss_nil)
      (pss_cons (ps_if (PW.pt (pw_and (pt_cmpR op_eq (pe_ix (r := rIxL K) ix_list (pv 2) pe_int (fun _ _ => rfl)) (pe_strS (l := [97, 100, 100]) (by decide +kernel)) (nomark _)) (pw_and1 (pt_cmpR op_eq (pe_callB call_len_seq (by rfl) T.z_len (by decide +kernel) (pa_cons (pv 2) pa_nil)) pe_int (nomark _))))) (pss_one (ps_ret (pe_make M.mkAd GIAd (hr.mono (by decide)) (by rfl) T.gcAdd M.bAd .nil (passes_call (takes_of rfl rfl rfl rfl) (fun _ _ _ _ h => h)) (pa_cons (pv 0) (pa_cons (pe_ix (r := rIxL K) ix_list (pv 2) pe_int (fun _ _ => rfl)) pa_nil))))) pss_nil)
      (pss_one (ps_raise rfl (takes_of rfl rfl rfl rfl) (pmk_oex T.xBadStage.ox T.xBadStage.iC T.xBadStage.tI GBadStage (hr.mono (by decide)) T.xBadStage.bB .nil pass0 (by rfl) T.xBadStage.gB (pa_cons (pe_strS (l := [116, 101, 120, 116]) (by decide +kernel)) pa_nil)))))))))), ?_⟩
    have ep : ∀ w0 x r, cut t = w0 :: x :: r → partsP (cut t) = if r.length = 2 ∧ w0 = kWrite ∧ r[0]? = some kFor then some ⟨2, x, r.getD 1 [], none, false⟩
        else if r = [] ∧ w0 = kOnce then some ⟨3, [], x, none, false⟩
        else if r = [] ∧ w0 = kAdd then some ⟨4, x, [], none, false⟩
        else if w0 = kDrop then dropP x r else none := fun w0 x r e => by rw [e]; rfl
    walk_at "go"
    rename_i p hp
    have eL : (List.map V.str (Txt.split (S t) (S [32]))) = strV (cut t) := by rw [split_S, ← strV_eq]
    rw [eL]
    have s1 : Same H (upd H p (.lst (strV (cut t)))) := Same.upd_new hp
    have hp1 : (upd H p (.lst (strV (cut t)))) p = some (.lst (strV (cut t))) := upd_same
    have hal1 := hal.same s1
    generalize upd H p (.lst (strV (cut t))) = H1 at s1 hp1 hal1 ⊢
    rcases hc : cut t with _ | ⟨w0, ws⟩
    · exact absurd hc hcn
    rw [hc] at hp1 okc hcl hcm k1 k2
    have h0 : kStrU26_0 = [119, 114, 105, 116, 101] := rfl
    rw [h0]
    have l0 : (strV (w0 :: ws)).length = ws.length + 1 := strV_len _
    have fr1 : ∀ {y : Addr}, H1 y = none → H y = none := fun {y} hy => L2.Same.free s1 hy
    have fin : ∀ (k : Nat) (C : Addr) (x nm : List Nat), 2 ≤ k → k ≤ 4 → sK a k = C → (k = 3 → x = []) → x.length ≤ 60 → nm.length ≤ 60 → (∀ c ∈ nm, c < 0x110000) → partsP (w0 :: ws) = some ⟨k, x, nm, none, false⟩ → ∀ p dx, H1 p = none → H1 dx = none → dx ≠ p →
        spInit (k - 2) C a.cAlphabet a.cBadStage (stArgs (k - 2) p al x nm) (upd (upd H1 dx (.own p)) p (.ins C dx [])) (fun v H2 => v = .non ∧ Q (.ref p) H2) E := by
      intro k C x nm g1 g2 g3 g4 g5 g6 g7 g8 p dx hp hdx hne
      subst g3
      refine made_S (a := a) hp hdx hne hal1 (by omega) g6 g7 (fun hn p2 dx2 ms H2 e1 e2 e3 e4 s2 => ?_) (fun z hz dd H2 e1 e2 s2 => ?_)
      · exact k1 _ ms g8 (by rw [wrong_st ⟨g1, g2⟩ g4, hn]; rfl) (fun hk => e3 (by show k - 2 ≠ 2; have : k ≠ 4 := hk; omega)) p2 H2 (fr1 e1) ⟨dx2, by rw [e4]; show _ = some (HO.ins _ _ (if k < 2 then _ else _)); rw [if_neg (by omega)]⟩ (Vk.Same.trans s1 s2)
      · exact k2 z (what_ne hz) (by rw [g8, wrong_st ⟨g1, g2⟩ g4, hz]; rfl) dd H2 (fr1 e1) e2 (Vk.Same.trans s1 s2)
    have bad : ∀ (e9 : partsP (w0 :: ws) = none), ∀ b : Addr, H1 b = none → ∀ dx, (upd H1 b (exo b a.cBadStage none)) dx = none → dx ≠ b → PostE a.cBadStage b E H1 .non (upd (upd (upd H1 b (exo b a.cBadStage none)) dx (exd dx [("what", .str (S kText))])) b (exo b a.cBadStage (some dx))) :=
      fun e9 b hb => raise1 hb s1 fun dd H' h1 h2 h3 => k2 kText (by decide) (by rw [e9]; rfl) dd H' h1 h2 h3
    by_cases hD : w0 = [100, 114, 111, 112]
    · subst hD
      walk_at "go"
      rw [parts_drop] at k1 k2
      refine ⟨al, p, l, v, [100, 114, 111, 112], ws, rfl, hp1, hal1, by simp only [List.length_cons] at hcl; omega, okc, fun z hz => hcm z (List.mem_cons_of_mem _ hz), fun pt ms h1 h2 h3 p2 dx H2 e1 e2 s2 => ?_, fun z hz h1 dd H2 e1 e2 s2 => k2 z hz h1 dd H2 (fr1 e1) e2 (Vk.Same.trans s1 s2)⟩
      exact k1 pt ms h1 h2 (fun _ => h3) p2 H2 (fr1 e1) ⟨dx, by rw [e2, if_pos (partsD_k h1), sK_dK a (partsD_k h1)]⟩ (Vk.Same.trans s1 s2)
    · have nD : ¬ w0 = kDrop := hD
      by_cases hW : w0 = [119, 114, 105, 116, 101]
      · subst hW
        have eW : ∀ x r, partsP ([119, 114, 105, 116, 101] :: x :: r) = if r.length = 2 ∧ r[0]? = some kFor then some ⟨2, x, r.getD 1 [], none, false⟩ else none := fun x r => by
          show (if r.length = 2 ∧ [119, 114, 105, 116, 101] = kWrite ∧ r[0]? = some kFor then _ else if r = [] ∧ [119, 114, 105, 116, 101] = kOnce then _ else if r = [] ∧ [119, 114, 105, 116, 101] = kAdd then _ else if [119, 114, 105, 116, 101] = kDrop then dropP x r else none) = _
          rw [if_neg (c := r = [] ∧ _) (by rintro ⟨_, h⟩; revert h; decide), if_neg (c := r = [] ∧ _) (by rintro ⟨_, h⟩; revert h; decide), if_neg nD]
          by_cases h : r.length = 2 ∧ r[0]? = some kFor
          · rw [if_pos h]
            exact if_pos ⟨h.1, rfl, h.2⟩
          · rw [if_neg h]
            exact if_neg fun q => h ⟨q.1, q.2.2⟩
        rcases ws with _ | ⟨x, _ | ⟨u0, _ | ⟨u1, _ | ⟨u2, us⟩⟩⟩⟩
        · skip
          have l1 : (strV [[119, 114, 105, 116, 101]]).length = 1 := rfl
          have e9 := bad (rfl)
          walk_at "go"
          exact ⟨by show 1 ≤ 1000; decide, fun b hb => ⟨b, kText, rfl, ⟨by decide, by decide⟩, upd_same, e9 b hb⟩⟩
        · skip
          have l1 : (strV [[119, 114, 105, 116, 101], x]).length = 2 := rfl
          have e9 := bad (by rw [eW]; rfl)
          walk_at "go"
          exact ⟨by show 1 ≤ 1000; decide, fun b hb => ⟨b, kText, rfl, ⟨by decide, by decide⟩, upd_same, e9 b hb⟩⟩
        · skip
          have l1 : (strV [[119, 114, 105, 116, 101], x, u0]).length = 3 := rfl
          have e9 := bad (by rw [eW]; rfl)
          walk_at "go"
          exact ⟨by show 1 ≤ 1000; decide, fun b hb => ⟨b, kText, rfl, ⟨by decide, by decide⟩, upd_same, e9 b hb⟩⟩
        · have l1 : (strV [[119, 114, 105, 116, 101], x, u0, u1]).length = 4 := rfl
          by_cases h3 : u0 = [102, 111, 114]
          · subst h3
            have e9 : partsP [[119, 114, 105, 116, 101], x, [102, 111, 114], u1] = some ⟨2, x, u1, none, false⟩ := by rw [eW]; rfl
            walk_at "go"
            intro y dx hy hdx hne
            exact fin 2 a.cWrite x u1 (by decide) (by decide) rfl (fun h => by cases h) (hcm x (by simp)) (hcm u1 (by simp)) (okc u1 (by simp)) e9 y dx hy hdx hne
          · have e9 := bad (by rw [eW]; exact if_neg fun q => h3 (Option.some.inj q.2))
            walk_at "go"
            exact ⟨by show 1 ≤ 1000; decide, fun b hb => ⟨b, kText, rfl, ⟨by decide, by decide⟩, upd_same, e9 b hb⟩⟩
        · skip
          have l1 : (strV ([119, 114, 105, 116, 101] :: x :: u0 :: u1 :: u2 :: us)).length = us.length + 5 := strV_len _
          have e9 := bad (by rw [eW]; exact if_neg fun q => by have := q.1; simp only [List.length_cons] at this; omega)
          walk_at "go"
          exact ⟨by show 1 ≤ 1000; decide, fun b hb => ⟨b, kText, rfl, ⟨by decide, by decide⟩, upd_same, e9 b hb⟩⟩
      · have nW : ¬ w0 = kWrite := hW
        have eO : ∀ x r, partsP (w0 :: x :: r) = if r = [] ∧ w0 = kOnce then some ⟨3, [], x, none, false⟩ else if r = [] ∧ w0 = kAdd then some ⟨4, x, [], none, false⟩ else none := fun x r => by
          show (if r.length = 2 ∧ w0 = kWrite ∧ r[0]? = some kFor then _ else if r = [] ∧ w0 = kOnce then _ else if r = [] ∧ w0 = kAdd then _ else if w0 = kDrop then dropP x r else none) = _
          rw [if_neg (fun q => nW q.2.1), if_neg nD]
        rcases ws with _ | ⟨x, _ | ⟨u0, us⟩⟩
        · have l1 : (strV [w0]).length = 1 := rfl
          have e9 := bad rfl
          walk_at "go"
          all_goals exact ⟨by show 1 ≤ 1000; decide, fun b hb => ⟨b, kText, rfl, ⟨by decide, by decide⟩, upd_same, e9 b hb⟩⟩
        · have l1 : (strV [w0, x]).length = 2 := rfl
          by_cases hO : w0 = [111, 110, 99, 101]
          · subst hO
            have e9 : partsP [[111, 110, 99, 101], x] = some ⟨3, [], x, none, false⟩ := rfl
            walk_at "go"
            intro y dx hy hdx hne
            exact fin 3 a.cOnce [] x (by decide) (by decide) rfl (fun _ => rfl) (by simp) (hcm x (by simp)) (okc x (by simp)) e9 y dx hy hdx hne
          · by_cases hA : w0 = [97, 100, 100]
            · subst hA
              have e9 : partsP [[97, 100, 100], x] = some ⟨4, x, [], none, false⟩ := rfl
              walk_at "go"
              intro y dx hy hdx hne
              exact fin 4 a.cAdd x [] (by decide) (by decide) rfl (fun h => by cases h) (hcm x (by simp)) (by simp) (fun c hc => by cases hc) e9 y dx hy hdx hne
            · have e9 := bad (by rw [eO, if_neg (fun q => hO q.2)]; exact if_neg (fun q => hA q.2))
              walk_at "go"
              exact ⟨by show 1 ≤ 1000; decide, fun b hb => ⟨b, kText, rfl, ⟨by decide, by decide⟩, upd_same, e9 b hb⟩⟩
        · have l1 : (strV (w0 :: x :: u0 :: us)).length = us.length + 3 := strV_len _
          have e9 := bad (by rw [eO, if_neg (fun q => by cases q.1)]; exact if_neg (fun q => by cases q.1))
          walk_at "go"
          all_goals exact ⟨by show 1 ≤ 1000; decide, fun b hb => ⟨b, kText, rfl, ⟨by decide, by decide⟩, upd_same, e9 b hb⟩⟩
end
end
section
set_option Elab.async false
set_option linter.all false
set_option maxRecDepth 100000
set_option maxHeartbeats 4000000
open PySem PySem.Spec PyProof.Rows L2

local macro_rules | `(tactic| walk_at "side") => `(tactic| exact .inl (by assumption))
def kStrU27_0 : List Nat := [106, 111, 105, 110, 116, 115]
theorem kStrU27_0_eq : PySem.Str.ofString "joints" = S kStrU27_0 := by decide +kernel
def kStrU27_1 : List Nat := [99, 111, 110, 115, 111, 110, 97, 110, 116, 115]
theorem kStrU27_1_eq : PySem.Str.ofString "consonants" = S kStrU27_1 := by decide +kernel
def kStrU27_2 : List Nat := [118, 111, 119, 101, 108, 115]
theorem kStrU27_2_eq : PySem.Str.ofString "vowels" = S kStrU27_2 := by decide +kernel
def kStrU27_3 : List Nat := [108, 101, 116, 116, 101, 114, 115]
theorem kStrU27_3_eq : PySem.Str.ofString "letters" = S kStrU27_3 := by decide +kernel
def kStrU27_4 : List Nat := [97, 102, 116, 101, 114]
theorem kStrU27_4_eq : PySem.Str.ofString "after" = S kStrU27_4 := by decide +kernel
theorem fil_sub {l v li : List Nat} (h : AlOk l v) (hd : ascB (45 :: srtL l) li = true) : li = (45 :: srtL l).filter (fun c => decide (c ∈ li)) := by
  unfold ascB at hd
  rw [Bool.and_eq_true, decide_eq_true_iff, decide_eq_true_iff] at hd
  obtain ⟨hd, hs⟩ := hd
  have hp : li.Perm ((45 :: srtL l).filter (fun c => decide (c ∈ li))) := by
    refine (List.perm_ext_iff_of_nodup hd.1 (h.nd.sublist List.filter_sublist)).mpr fun c => ?_
    rw [List.mem_filter, decide_eq_true_iff]
    exact ⟨fun q => ⟨hd.2 c q, q⟩, fun q => q.2⟩
  have h1 : li.Pairwise (· ≤ ·) := by rw [hs]; exact srtL_le li
  have h2 : ((45 :: srtL l).filter (fun c => decide (c ∈ li))).Pairwise (· ≤ ·) := h.le.sublist List.filter_sublist
  exact (srt_eq (List.Perm.refl li) h1).trans (srt_eq hp.symm h2).symm
theorem set_in {l v nm : List Nat} (h : AlOk l v) (hn : nm ≠ nmAll ∧ nm ≠ nmLet ∧ nm ≠ nmVow ∧ nm ≠ nmCon ∧ nm ≠ nmJoi) (h0 : mid nm ≠ []) (hb : nm = [91] ++ mid nm ++ [93]) : (setOf l v nm).isSome = decide (mid nm = (45 :: srtL l).filter (fun c => decide (c ∈ mid nm))) := by
  unfold setOf
  rw [if_neg hn.1, if_neg hn.2.1, if_neg hn.2.2.1, if_neg hn.2.2.2.1, if_neg hn.2.2.2.2]
  cases ha : ascB (45 :: srtL l) (mid nm) with
  | true =>
    have hno : ¬ (mid nm = [] ∨ nm ≠ [91] ++ mid nm ++ [93] ∨ true = false) := fun q => q.elim h0 fun q => q.elim (fun q => q hb) fun q => by cases q
    rw [if_neg hno]
    exact (decide_eq_true (fil_sub h ha)).symm
  | false =>
    rw [if_pos (.inr (.inr rfl))]
    refine (decide_eq_false fun e => ?_).symm
    have hs : (mid nm).Sublist (45 :: srtL l) := by rw [e]; exact List.filter_sublist
    rw [asc_sub h hs] at ha
    cases ha
theorem set_no {l v nm : List Nat} (hn : nm ≠ nmAll ∧ nm ≠ nmLet ∧ nm ≠ nmVow ∧ nm ≠ nmCon ∧ nm ≠ nmJoi) (h0 : mid nm = [] ∨ nm ≠ [91] ++ mid nm ++ [93]) : (setOf l v nm).isSome = false := by
  unfold setOf
  rw [if_neg hn.1, if_neg hn.2.1, if_neg hn.2.2.1, if_neg hn.2.2.2.1, if_neg hn.2.2.2.2, if_pos (h0.elim .inl fun q => .inr (.inl q))]
  rfl
theorem inV_I (t : Int) : ∀ us : List Int, inV (.int t) (us.map V.int) = decide (t ∈ us)
  | [] => rfl
  | u :: us => by
    have e : inV (.int t) ((u :: us).map V.int) = (eqV (.int u) (.int t) || inV (.int t) (us.map V.int)) := rfl
    have e2 : eqV (.int u) (.int t) = decide (u = t) := rfl
    rw [e, inV_I t us, e2]
    by_cases h : u = t
    · simp [h]
    · have : ¬ t = u := fun q => h q.symm
      simp [h, this]
theorem iInI {K : PySem.W.Frag} {p : Addr} {t : Int} {ks : List Int} {xs : List V} {H : Hp} {Q : VK} (hq : SqL K H p xs) (hx : xs = ks.map V.int) (h : Q (.bl (decide (t ∈ ks))) H) : rIn K false (.int t) (.ref p) H Q := by
  subst hx
  refine ⟨p, _, rfl, .inl hq, rfl, ?_, ?_⟩
  · rw [List.all_eq_true]
    intro x hx
    obtain ⟨i, _, rfl⟩ := List.mem_map.mp hx
    rfl
  · rw [inV_I]
    exact h
section
variable {P : Program} {w : World} {K : PySem.W.Frag} {mg : Str → Option Value} {base : Heap} {a : Ad} {d : Fd}
def spIsSet : Sp := fun vs H Q _ => ∃ (l v nm : List Nat), vs = [.str (S nm), .str (S (45 :: srtL l))] ∧ AlOk l v ∧ nm.length ≤ 60 ∧ ∀ H', Same H H' → Q (.bl (setOf l v nm).isSome) H'
theorem scIsSet : FnScope ["_law_name_here", "_law_signs", "_law_inner", "_law_one"] ["_law_name_here", "_law_signs"] (defScope sIsSet) := ⟨rfl, rfl, rfl, by decide +kernel, rfl, by decide +kernel, by decide +kernel⟩
theorem ok_isSet (T : Fns K mg a d) : FnOk P w K mg base CX0 1 a.aIsSet d.dIsSet ["_law_name_here", "_law_signs"] spIsSet := by
  refine T.FIsSet.ok scIsSet (fun vs H Q E h => ?_) (fun cdv A0 outer s H vs Q E hr h => ?_)
  · obtain ⟨l, v, nm, rfl, _⟩ := h
    rfl
  · obtain ⟨l, v, nm, rfl, ho, hnl, kq⟩ := h
    refine ⟨_, ((pss_cons (ps_if (pt_cmpR op_in_seq (pv 0) (pe_lst (pa_cons (pe_strS (l := [97, 108, 108]) (by decide +kernel)) (pa_cons (pe_strS (l := kStrU27_3) kStrU27_3_eq) (pa_cons (pe_strS (l := kStrU27_2) kStrU27_2_eq) (pa_cons (pe_strS (l := kStrU27_1) kStrU27_1_eq) (pa_cons (pe_strS (l := kStrU27_0) kStrU27_0_eq) pa_nil)))))) rfl) (pss_one (ps_ret pe_bl)) pss_nil)
      (pss_cons (ps_if (PW.pt (pw_or (pt_cmpR op_lt (pe_callB call_lenS (by rfl) T.z_len (by decide +kernel) (pa_cons (pv 0) pa_nil)) pe_int (nomark _)) (pw_or (pt_cmpR op_ne (pe_ix ix_str (pv 0) pe_int (fun _ _ => rfl)) (pe_strS (l := [91]) (by decide +kernel)) (nomark _)) (pw_or1 (pt_cmpR op_ne (pe_ix ix_str (pv 0) (pe_op op_sub (pe_callB call_lenS (by rfl) T.z_len (by decide +kernel) (pa_cons (pv 0) pa_nil)) pe_int) (fun _ _ => rfl)) (pe_strS (l := [93]) (by decide +kernel)) (nomark _)))))) (pss_one (ps_ret pe_bl)) pss_nil)
      (pss_cons (ps_set (i := 2) scIsSet.nd rfl (Or.inr rfl) (pe_slice sl_str (pv 0) (po_some pe_int) (po_some (pe_un un_neg pe_int))))
      (pss_one (ps_ret (pe_cmpR op_eq (pv 2) (pe_join (pe_strS (l := []) (by decide +kernel)) (pe_lc (own := [("_law_one", 3)]) (g := gName 3) (by rfl) scIsSet.nd (pi_str (pv 1)) (blkOk_by (own := [("_law_one", 3)]) (N := ["_law_name_here", "_law_signs", "_law_inner", "_law_one"]) (sc := defScope sIsSet) (by decide +kernel)) (fun _ _ _ _ _ => pg_name (i := 3) scIsSet.nd rfl (Or.inl rfl)) (fun _ _ _ _ _ => (pts_one (pt_cmpR op_inS (pv 3) (pv 2) rfl))) (fun _ _ _ _ _ => (pv 3)))) (nomark _)))))))), ?_⟩
    have hsl : (45 :: srtL l).length ≤ 5 := by rw [List.length_cons, srtL_len]; have := ho.h4; omega
    have names : nm ∈ [nmAll, nmLet, nmVow, nmCon, nmJoi] → (setOf l v nm).isSome = true := fun hm => by
      unfold setOf
      simp only [List.mem_cons, List.not_mem_nil, or_false] at hm
      rcases hm with rfl | rfl | rfl | rfl | rfl
      · rw [if_pos rfl]; rfl
      · rw [if_neg (by decide), if_pos rfl]; rfl
      · rw [if_neg (by decide), if_neg (by decide), if_pos rfl]; rfl
      · rw [if_neg (by decide), if_neg (by decide), if_neg (by decide), if_pos rfl]; rfl
      · rw [if_neg (by decide), if_neg (by decide), if_neg (by decide), if_neg (by decide), if_pos rfl]; rfl
    have nonames : nm ∉ [nmAll, nmLet, nmVow, nmCon, nmJoi] → nm ≠ nmAll ∧ nm ≠ nmLet ∧ nm ≠ nmVow ∧ nm ≠ nmCon ∧ nm ≠ nmJoi := fun hm => by
      simp only [List.mem_cons, List.not_mem_nil, or_false, not_or] at hm
      exact hm
    walk_at "go"
    · rename_i p hp hm
      rw [names hm] at kq
      exact kq _ (Same.upd_new hp)
    · rename_i p hp hm h3
      have h9 : mid nm = [] ∨ nm ≠ [91] ++ mid nm ++ [93] := by
        by_cases h : mid nm = []
        · exact .inl h
        · refine .inr fun e => ?_
          have h8 := congrArg List.length e
          simp only [List.length_append, List.length_cons, List.length_nil] at h8
          have h7 : 0 < (mid nm).length := List.length_pos_iff.mpr h
          omega
      rw [set_no (nonames hm) h9] at kq
      exact kq _ (Same.upd_new hp)
    · rename_i p hp hm h3
      have hs1 : Same H (upd H p (.lst [.str (S [97, 108, 108]), .str (S kStrU27_3), .str (S kStrU27_2), .str (S kStrU27_1), .str (S kStrU27_0)])) := Same.upd_new hp
      generalize upd H p (.lst [.str (S [97, 108, 108]), .str (S kStrU27_3), .str (S kStrU27_2), .str (S kStrU27_1), .str (S kStrU27_0)]) = H1 at hs1 ⊢
      have hn := nonames hm
      clear names nonames hm hp
      rcases nm with _ | ⟨x, tl⟩
      · exact absurd h3 (by decide)
      obtain ⟨m, y, rfl⟩ : ∃ m y, tl = m ++ [y] := by
        rcases List.eq_nil_or_concat tl with e | ⟨m, y, e⟩
        · subst e
          exact absurd (by show ((1 : Nat) : Int) < 3; decide) h3
        · exact ⟨m, y, by rw [e, List.concat_eq_append]⟩
      have hlen : (x :: (m ++ [y])).length = m.length + 2 := by simp
      have hm0 : m ≠ [] := fun e => by
        rw [hlen, e] at h3
        exact h3 (by show ((2 : Nat) : Int) < 3; decide)
      have hmid : mid (x :: (m ++ [y])) = m := by
        unfold mid
        rw [hlen]
        simp
      have gy : (x :: (m ++ [y]))[m.length + 1]? = some y := by simp
      refine iIxS (by omega) (atI_nat (j := 0) rfl) ?_
      walk_at "go"
      · rename_i hx
        rw [set_no hn (.inr fun e => hx (by rw [hmid] at e; exact (List.cons.inj e).1))] at kq
        exact kq _ hs1
      · rename_i hx
        refine iIxS (by omega) (by rw [show (((x :: (m ++ [y])).length : Int) - 1) = ((m.length + 1 : Nat) : Int) by rw [hlen]; omega]; exact atI_nat gy) ?_
        walk_at "go"
        · rename_i hy
          rw [set_no hn (.inr fun e => hy (by rw [hmid, hx] at e; simpa using e))] at kq
          exact kq _ hs1
        · rename_i hy D hD
          rw [show cutS (S (x :: (m ++ [y]))) (some 1) (some (-1)) = S m from by rw [cut_mid, hmid]]
          refine lc_text (l := 45 :: srtL l) (fun c => decide (c ∈ m)) (fun c => V.str (S [c])) (by omega) (fun _ => rfl) (fun c hc H2 Q2 off q => ?_) (fun c hc hq H2 Q2 off q => ?_) ?_
          · walk_at "go"
            exact q
          · walk_at "go"
            exact q
          · refine iJoinS (K := K) (l := (45 :: srtL l).filter fun c => decide (c ∈ m)) (Q := fun y H2 => rEq (V.str (S m)) y H2 Q) (SqL.of upd_same) (Nat.le_trans (List.length_filter_le _ _) (by omega)) ?_
            have es := set_in ho hn (by rw [hmid]; exact hm0) (by rw [hmid, hx, hy]; rfl)
            rw [hmid] at es
            rw [es] at kq
            refine iEq rfl ?_
            rw [show decide (V.str (S m) = V.str (S ((45 :: srtL l).filter fun c => decide (c ∈ m)))) = decide (m = (45 :: srtL l).filter fun c => decide (c ∈ m)) by simp [S_inj]]
            exact kq _ (Vk.Same.trans hs1 (Same.upd_new hD))
def numW (o : Option (List Nat)) : List Nat := match o with
  | some n => if n ∈ digs then [] else kAfter
  | none => []
theorem wrong_num (l v sg nm : List Nat) (k : Nat) (num : Option (List Nat)) (j : Bool) : wrongP l v (some ⟨k, sg, nm, num, j⟩) = if (k = 2 ∨ k = 4) ∧ signB (45 :: srtL l) sg = false then kSign else if k ≠ 4 ∧ setOf l v nm = none then kSet else numW num := by
  cases num <;> rfl
theorem numW_no {n : List Nat} (h : ¬ n ∈ [[49], [50], [51]]) : numW (some n) = kAfter := if_neg h
theorem numW_in {n : List Nat} (h : n ∈ [[49], [50], [51]]) : numW (some n) = [] := if_pos h
def ptV (f : Addr) (o : Option Pt) : V := match o with
  | none => .non
  | some _ => .ref f
def spWrong : Sp := fun vs H Q _ => ∃ (f : Addr) (o : Option Pt) (l v : List Nat), vs = [ptV f o, .str (S (45 :: srtL l))] ∧ (∀ pt, o = some pt → IsPt H f pt ∧ pt.k ≤ 4 ∧ pt.nm.length ≤ 60 ∧ pt.sg.length ≤ 60) ∧ AlOk l v ∧ ∀ H', Same H H' → Q (.str (S (wrongP l v o))) H'
theorem scWrong : FnScope ["_law_parts_here", "_law_signs", "_law_kind", "_law_sign", "_law_name_here", "_law_number", "_law_joined"] ["_law_parts_here", "_law_signs"] (defScope sWrong) := ⟨rfl, rfl, rfl, by decide +kernel, rfl, by decide +kernel, by decide +kernel⟩
theorem ok_wrong (T : Fns K mg a d) : FnOk P w K mg base CX0 2 a.aWrong d.dWrong ["_law_parts_here", "_law_signs"] spWrong := by
  have GIsSet := ok_isSet (P := P) (w := w) (base := base) T
  refine T.FWrong.ok scWrong (fun vs H Q E h => ?_) (fun cdv A0 outer s H vs Q E hr h => ?_)
  · obtain ⟨f, o, l, v, rfl, _⟩ := h
    rfl
  · obtain ⟨f, o, l, v, rfl, hf, ho, kq⟩ := h
    rcases o with _ | pt
    · refine ⟨_, ((pss_cons (ps_if (pt_cmpR op_isN (pv 0) pe_non (nomark _)) (pss_one (ps_ret (pe_strS (l := [116, 101, 120, 116]) (by decide +kernel)))) pss_nil)
      (pss_cons (ps_asg (pv 0) (pg_tup rfl (pgs_cons (pg_name (i := 2) scWrong.nd rfl (Or.inl rfl)) (pgs_cons (pg_name (i := 3) scWrong.nd rfl (Or.inl rfl)) (pgs_cons (pg_name (i := 4) scWrong.nd rfl (Or.inl rfl)) (pgs_cons (pg_name (i := 5) scWrong.nd rfl (Or.inl rfl)) (pgs_cons (pg_name (i := 6) scWrong.nd rfl (Or.inl rfl)) pgs_nil)))))))
      (pss_cons (ps_if (PW.pt (pw_and (pt_cmpR op_in_seq (pv 2) (pe_lst (pa_cons pe_int (pa_cons pe_int pa_nil))) rfl) (pw_and1 (PW.pt (pw_or (pt_cmpR op_ne (pe_callB call_lenS (by rfl) T.z_len (by decide +kernel) (pa_cons (pv 3) pa_nil)) pe_int (nomark _)) (pw_or1 (pt_cmpR op_notInS (pv 3) (pv 1) rfl))))))) (pss_one (ps_ret (pe_strS (l := [115, 105, 103, 110]) (by decide +kernel)))) pss_nil)
      (pss_cons (ps_if (PW.pt (pw_and (pt_cmpR op_ne (pv 2) pe_int (nomark _)) (pw_and1 (pt_not (pt_val (pe_call GIsSet (hr.mono (by decide)) (by rfl) T.gIsSet T.FIsSet.kp T.bIsSet .nil pass0 (pa_cons (pv 4) (pa_cons (pv 1) pa_nil)))))))) (pss_one (ps_ret (pe_strS (l := [115, 101, 116]) (by decide +kernel)))) pss_nil)
      (pss_cons (ps_if (PW.pt (pw_and (pt_cmpR op_notN (pv 5) pe_non (nomark _)) (pw_and1 (pt_cmpR op_notIn_seq (pv 5) (pe_lst (pa_cons (pe_strS (l := [49]) (by decide +kernel)) (pa_cons (pe_strS (l := [50]) (by decide +kernel)) (pa_cons (pe_strS (l := [51]) (by decide +kernel)) pa_nil)))) rfl)))) (pss_one (ps_ret (pe_strS (l := kStrU27_4) kStrU27_4_eq))) pss_nil)
      (pss_one (ps_ret (pe_strS (l := []) (by decide +kernel)))))))))), ?_⟩
      dsimp only [ptV]
      walk_at "go"
      exact kq _ (Same.refl _)
    · obtain ⟨hpt, hk, hnl, hsl⟩ := hf pt rfl
      rcases pt with ⟨k, sg, nm, num, j⟩
      have hpt : H f = some (.tup [.int (k : Int), .str (S sg), .str (S nm), numV num, .bl j]) := hpt
      have hk : k ≤ 4 := hk
      have hnl : nm.length ≤ 60 := hnl
      have hsl : sg.length ≤ 60 := hsl
      have hz : (45 :: srtL l).length ≤ 5 := by rw [List.length_cons, srtL_len]; have := ho.h4; omega
      rw [wrong_num] at kq
      clear hf
      refine ⟨_, ((pss_cons (ps_if (pt_cmpR op_isN (pv 0) pe_non (nomark _)) (pss_one (ps_ret (pe_strS (l := [116, 101, 120, 116]) (by decide +kernel)))) pss_nil)
      (pss_cons (ps_asg (pv 0) (pg_tup rfl (pgs_cons (pg_name (i := 2) scWrong.nd rfl (Or.inl rfl)) (pgs_cons (pg_name (i := 3) scWrong.nd rfl (Or.inl rfl)) (pgs_cons (pg_name (i := 4) scWrong.nd rfl (Or.inl rfl)) (pgs_cons (pg_name (i := 5) scWrong.nd rfl (Or.inl rfl)) (pgs_cons (pg_name (i := 6) scWrong.nd rfl (Or.inl rfl)) pgs_nil)))))))
      (pss_cons (ps_if (PW.pt (pw_and (pt_cmpR op_in_seq (pv 2) (pe_lst (pa_cons pe_int (pa_cons pe_int pa_nil))) rfl) (pw_and1 (PW.pt (pw_or (pt_cmpR op_ne (pe_callB call_lenS (by rfl) T.z_len (by decide +kernel) (pa_cons (pv 3) pa_nil)) pe_int (nomark _)) (pw_or1 (pt_cmpR op_notInS (pv 3) (pv 1) rfl))))))) (pss_one (ps_ret (pe_strS (l := [115, 105, 103, 110]) (by decide +kernel)))) pss_nil)
      (pss_cons (ps_if (PW.pt (pw_and (pt_cmpR op_ne (pv 2) pe_int (nomark _)) (pw_and1 (pt_not (pt_val (pe_call GIsSet (hr.mono (by decide)) (by rfl) T.gIsSet T.FIsSet.kp T.bIsSet .nil pass0 (pa_cons (pv 4) (pa_cons (pv 1) pa_nil)))))))) (pss_one (ps_ret (pe_strS (l := [115, 101, 116]) (by decide +kernel)))) pss_nil)
      (pss_cons (ps_if (PW.pt (pw_and (pt_cmpR op_notN (pv 5) pe_non (nomark _)) (pw_and1 (pt_cmpR op_notIn_seq (pv 5) (pe_lst (pa_cons (pe_strS (l := [49]) (by decide +kernel)) (pa_cons (pe_strS (l := [50]) (by decide +kernel)) (pa_cons (pe_strS (l := [51]) (by decide +kernel)) pa_nil)))) rfl)))) (pss_one (ps_ret (pe_strS (l := kStrU27_4) kStrU27_4_eq))) pss_nil)
      (pss_one (ps_ret (pe_strS (l := []) (by decide +kernel)))))))))), ?_⟩
      dsimp only [ptV]
      walk_at "go"
      refine ⟨f, _, rfl, SqT.of hpt, rfl, ?_⟩
      refine ⟨_, _, rfl, ?_⟩
      refine iName ?_
      refine ⟨_, _, rfl, ?_⟩
      refine iName ?_
      refine ⟨_, _, rfl, ?_⟩
      refine iName ?_
      refine ⟨_, _, rfl, ?_⟩
      refine iName ?_
      refine ⟨_, _, rfl, ?_⟩
      refine iName ?_
      refine ⟨rfl, ?_⟩
      walk_at "proj"
      walk_at "go"
      rename_i p1 hp1
      have s1 : Same H (upd H p1 (.lst [.int 2, .int 4])) := Same.upd_new hp1
      refine iInI (ks := [2, 4]) (SqL.of upd_same) rfl ?_
      generalize upd H p1 (.lst [.int 2, .int 4]) = H1 at s1 ⊢
      have ek : decide ((k : Int) ∈ [(2 : Int), 4]) = decide (k = 2 ∨ k = 4) := decide_eq_decide.mpr (by simp only [List.mem_cons, List.not_mem_nil, or_false]; omega)
      rw [ek]
      by_cases hb : (k = 2 ∨ k = 4) ∧ signB (45 :: srtL l) sg = false
      · rw [if_pos hb] at kq
        rw [decide_eq_true hb.1]
        have hs := hb.2
        rcases sg with _ | ⟨c, _ | ⟨c2, r⟩⟩
        · walk_at "go"
          exact kq _ s1
        · have hs : decide (c ∈ 45 :: srtL l) = false := hs
          have hs := of_decide_eq_false hs
          walk_at "go"
          exact kq _ s1
        · have hl3 : (c :: c2 :: r).length = r.length + 2 := rfl
          walk_at "go"
          exact kq _ s1
      · rw [if_neg hb] at kq
        have hok : k = 2 ∨ k = 4 → ∃ c, sg = [c] ∧ c ∈ 45 :: srtL l := fun h => by
          cases hs : signB (45 :: srtL l) sg with
          | false => exact absurd ⟨h, hs⟩ hb
          | true =>
            rcases sg with _ | ⟨c, _ | ⟨c2, r⟩⟩
            · cases hs
            · exact ⟨c, rfl, of_decide_eq_true hs⟩
            · cases hs
        by_cases h4 : k = 4
        · obtain ⟨c, rfl, hc⟩ := hok (.inr h4)
          subst h4
          have s3 := s1
          rw [decide_eq_true (p := 4 = 2 ∨ 4 = 4) (.inr rfl)]
          rw [if_neg (fun q => q.1 rfl)] at kq
          cases num <;> dsimp only [numV] <;> walk_at "go"
          all_goals first
            | exact kq _ s3
            | (rename_i p hp hn; rw [numW_no hn] at kq; exact kq _ (Vk.Same.trans s3 (Same.upd_new hp)))
            | (rename_i p hp hn; rw [numW_in hn] at kq; exact kq _ (Vk.Same.trans s3 (Same.upd_new hp)))
        · cases hs : setOf l v nm with
          | none =>
            rw [if_pos ⟨h4, hs⟩] at kq
            by_cases h2 : k = 2 ∨ k = 4
            · obtain ⟨c, rfl, hc⟩ := hok h2
              rw [decide_eq_true h2]
              walk_at "go"
              refine ⟨l, v, nm, rfl, ho, hnl, fun H2 s2 => ?_⟩
              rw [hs]
              walk_at "go"
              exact kq _ (Vk.Same.trans s1 s2)
            · rw [decide_eq_false h2]
              walk_at "go"
              refine ⟨l, v, nm, rfl, ho, hnl, fun H2 s2 => ?_⟩
              rw [hs]
              walk_at "go"
              exact kq _ (Vk.Same.trans s1 s2)
          | some ms =>
            rw [if_neg (fun q => by rw [hs] at q; cases q.2)] at kq
            by_cases h2 : k = 2 ∨ k = 4
            · obtain ⟨c, rfl, hc⟩ := hok h2
              rw [decide_eq_true h2]
              walk_at "go"
              refine ⟨l, v, nm, rfl, ho, hnl, fun H2 s2 => ?_⟩
              have s3 := Vk.Same.trans s1 s2
              rw [hs]
              cases num <;> dsimp only [numV] <;> walk_at "go"
              all_goals first
                | exact kq _ s3
                | (rename_i p hp hn; rw [numW_no hn] at kq; exact kq _ (Vk.Same.trans s3 (Same.upd_new hp)))
                | (rename_i p hp hn; rw [numW_in hn] at kq; exact kq _ (Vk.Same.trans s3 (Same.upd_new hp)))
            · rw [decide_eq_false h2]
              walk_at "go"
              refine ⟨l, v, nm, rfl, ho, hnl, fun H2 s2 => ?_⟩
              have s3 := Vk.Same.trans s1 s2
              rw [hs]
              cases num <;> dsimp only [numV] <;> walk_at "go"
              all_goals first
                | exact kq _ s3
                | (rename_i p hp hn; rw [numW_no hn] at kq; exact kq _ (Vk.Same.trans s3 (Same.upd_new hp)))
                | (rename_i p hp hn; rw [numW_in hn] at kq; exact kq _ (Vk.Same.trans s3 (Same.upd_new hp)))
end
end
section
set_option Elab.async false
set_option linter.all false
set_option maxRecDepth 100000
set_option maxHeartbeats 4000000
open PySem PySem.Spec PyProof.Rows L2

local macro_rules | `(tactic| walk_at "side") => `(tactic| exact .inl (by assumption))
local macro_rules | `(tactic| walk_at "go1") => `(tactic| first | (with_reducible refine iMakeD ?_) | (with_reducible refine iMakeK ?_))

theorem isi_own {K : PySem.W.Frag} {H : Hp} {Q : VK} {p C D dx : Addr} {fs : List (Str × V)} {b : Bool} (O : IsO K C) (hp : H p = some (.ins C dx fs)) (hk : PySem.W.kitOne K (.ref C) (.ref D) = some b) (h : Q (.bl b) H) : rIsi K [.ref p, .ref D] H Q :=
  ⟨_, _, _, _, b, rfl, .own D, .base (.ins hp O.cl O.ha O.hn O.ht O.hm), hk, h⟩
/-- what the written part says of an error's class that the law catches: its field f -/
structure ErrX (K : PySem.W.Frag) (a : Ad) (B : Addr) (f : Str) : Prop where
  xf : XfC K B
  np : PySem.W.findIn K (.ref B) f = some none
  ec : ExcC K B
  e1 : PySem.W.exmOne K (.ref B) (.ref B) = some true
  k1 : PySem.W.kitOne K (.ref B) (.ref a.cTale) = some true
  k2 : PySem.W.kitOne K (.ref B) (.type "ValueError") = some true
section
variable {P : Program} {w : World} {K : PySem.W.Frag} {mg : Str → Option Value} {base : Heap} {a : Ad} {d : Fd}
def spRefusal (a : Ad) : Sp := fun vs H Q _ => ∃ (al : Addr) (l v t : List Nat), vs = [.ref al, .str (S t)] ∧ IsAl a.cAlphabet H al l v ∧ t.length ≤ 60 ∧ (∀ c ∈ t, c < 0x110000) ∧
  ∀ (q : Addr) H', H' q = some (.tup [.bl (decide (wrongP l v (partsP (cut t)) ≠ [])), .str (S (wrongP l v (partsP (cut t))))]) → Same H H' → Q (.ref q) H'
theorem scRefusal : FnScope ["_law_alpha", "_law_written", "e"] ["_law_alpha", "_law_written"] (defScope sRefusal) := ⟨rfl, rfl, rfl, by decide +kernel, rfl, by decide +kernel, by decide +kernel⟩
theorem ok_refusal (T : Fns K mg a d) (BS : ErrX K a a.cBadStage "what") (GRead : FnOk P w K mg base (L2.CX P w) 10 a.aPReadStage d.dPReadStage ["alphabet", "written"] (spReadStage a)) : FnOk P w K mg base CX0 11 a.aRefusal d.dRefusal ["_law_alpha", "_law_written"] (spRefusal a) := by
  refine T.FRefusal.ok scRefusal (fun vs H Q E h => ?_) (fun cdv A0 outer s H vs Q E hr h => ?_)
  · obtain ⟨al, l, v, t, rfl, _⟩ := h
    rfl
  · obtain ⟨al, l, v, t, rfl, hal, htl, htc, kq⟩ := h
    refine ⟨_, (pss_cons (ps_try_as (i := 2) (tb := fun W => tDrop (tCallS (spReadStage a) (WE W) (tCons (tVar 0) (tCons (tVar 1) tNil)))) (ts := _) (Wout := fun _ _ _ _ => False) rfl rfl scRefusal.nd rfl rfl ⟨rfl, by decide, Or.inl T.xBadStage.gB⟩ takes0
      (fun W pn xe tk _ => pss_one (ps_expr (pe_callS GRead (hr.mono (by decide)) (by rfl) T.gPReadStage T.FPReadStage.kp T.bPReadStage (fun σ => passAt tk σ) (pa_cons (pv 0) (pa_cons (pv 1) pa_nil)))))
      (fun ab oe cls db pn hz hf => pss_one (ps_ret (pe_tup (pa_cons (pe_and (pe_callB (call_isX hz hf) (by rfl) T.z_isinstance (by decide +kernel) (pa_cons (pv 2) (pa_cons (pe_glob (v := .ref a.cTale) (by rfl) T.gcTaleError rfl) pa_nil)))
        (pe_one (pe_callB (call_isX hz hf) (by rfl) T.z_isinstance (by decide +kernel) (pa_cons (pv 2) (pa_cons (pe_bltn (v := .ty "ValueError") (by rfl) T.z_VE (by decide +kernel) rfl) pa_nil)))))
        (pa_cons (pe_xf BS.xf BS.np hz hf (pv 2)) pa_nil))))))
      (pss_one (ps_ret (pe_tup (pa_cons pe_bl (pa_cons (pe_strS (l := []) (by decide +kernel)) pa_nil)))))), ?_⟩
    refine iSeq ?_
    refine ⟨_, rfl, _, rfl, al, l, v, t, rfl, hal, htl, htc, fun pt ms g1 g2 g3 p H1 hp h1 s1 => ?_, fun z hz hw dd H1 h1 h2 s1 => ?_⟩
    · have hw : wrongP l v (partsP (cut t)) = [] := by rw [g1]; exact g2
      rw [hw] at kq
      walk_at "go"
      rename_i q hq
      exact kq q _ upd_same (Vk.Same.trans s1 (Same.upd_new hq))
    · rw [hw, decide_eq_true hz] at kq
      refine ⟨true, BS.e1, fun _ ab hab => ?_, fun q => Bool.noConfusion q⟩
      refine ⟨_, rfl, a.cBadStage, dd, _, rfl, rfl, BS.ec, h2, .inl ⟨_, _, true, rfl, .own a.cTale, BS.k1, true, rfl, ?_⟩⟩
      refine ⟨_, rfl, a.cBadStage, dd, _, rfl, rfl, BS.ec, h2, .inl ⟨_, _, true, rfl, .ty "ValueError", BS.k2, ?_⟩⟩
      refine ⟨_, rfl, rfl, rfl, dd, _, _, rfl, h2, rfl, by show 2 ≤ sizeLine; decide, fun q hq => ?_⟩
      exact kq q _ upd_same (Vk.Same.trans s1 (Same.upd_new hq))
def spObject (a : Ad) : Sp := fun vs H Q _ => ∃ (al f : Addr) (l v : List Nat) (pt : Pt), vs = [.ref al, .ref f] ∧ IsAl a.cAlphabet H al l v ∧ IsPt H f pt ∧ pt.k ≤ 4 ∧ pt.nm.length ≤ 60 ∧ pt.sg.length ≤ 60 ∧ (∀ c ∈ pt.nm, c < 0x110000) ∧ (2 ≤ pt.k → pt.num = none) ∧ (pt.k = 3 → pt.sg = []) ∧ wrongP l v (some pt) = [] ∧
  ∀ ms (p : Addr) H', (pt.k ≠ 4 → setOf l v pt.nm = some ms) → H p = none → IsSt a H' al ms pt p → Same H H' → Q (.ref p) H'
theorem scObject : FnScope ["_law_alpha", "_law_parts_here", "_law_kind", "_law_sign", "_law_name_here", "_law_number", "_law_joined"] ["_law_alpha", "_law_parts_here"] (defScope sObject) := ⟨rfl, rfl, rfl, by decide +kernel, rfl, by decide +kernel, by decide +kernel⟩
theorem ok_object (T : Fns K mg a d) (M : Mx K a d) (GIW : FnOk P w K mg base (L2.CX P w) 6 a.fDI d.fDI psDI (spInitD (dK a 0) a.cAlphabet a.cBadStage)) (GIO : FnOk P w K mg base (L2.CX P w) 6 a.fDI d.fDI psDI (spInitD (dK a 1) a.cAlphabet a.cBadStage))
    (GIWr : FnOk P w K mg base (L2.CX P w) 6 a.fWI d.fWI ["self", "alphabet", "sign", "name"] (spInit 0 a.cWrite a.cAlphabet a.cBadStage))
    (GIOn : FnOk P w K mg base (L2.CX P w) 6 a.fOI d.fOI ["self", "alphabet", "name"] (spInit 1 a.cOnce a.cAlphabet a.cBadStage))
    (GIAd : FnOk P w K mg base (L2.CX P w) 6 a.fAI d.fAI ["self", "alphabet", "sign"] (spInit 2 a.cAdd a.cAlphabet a.cBadStage)) :
    FnOk P w K mg base CX0 8 a.aObject d.dObject ["_law_alpha", "_law_parts_here"] (spObject a) := by
  have hAE := M.kAE
  refine T.FObject.ok scObject (fun vs H Q E h => ?_) (fun cdv A0 outer s H vs Q E hr h => ?_)
  · obtain ⟨al, f, l, v, pt, rfl, _⟩ := h
    rfl
  · obtain ⟨al, f, l, v, ⟨k, sg, nm, num, j⟩, rfl, hal, hf, hk, hnl, hsl, hnc, hnum, h3s, hw, k1⟩ := h
    have hf : H f = some (.tup [.int (k : Int), .str (S sg), .str (S nm), numV num, .bl j]) := hf
    have hk : k ≤ 4 := hk
    have hnl : nm.length ≤ 60 := hnl
    have hsl : sg.length ≤ 60 := hsl
    have hnc : ∀ c ∈ nm, c < 0x110000 := hnc
    have hnum : 2 ≤ k → num = none := hnum
    have h3s : k = 3 → sg = [] := h3s
    have finD : k < 2 → numN num ≤ 3 ∧ ∃ ms, setOf l v nm = some ms := fun h => by
      rw [wrong_num, if_neg (by rintro ⟨q | q, _⟩ <;> omega)] at hw
      cases hs : setOf l v nm with
      | none => rw [if_pos ⟨by omega, hs⟩] at hw; cases hw
      | some ms =>
        rw [if_neg (fun q => by rw [hs] at q; cases q.2)] at hw
        refine ⟨?_, ms, rfl⟩
        rcases num with _ | n
        · decide
        · by_cases hd : n ∈ digs
          · have hd' : n = [49] ∨ n = [50] ∨ n = [51] := by simpa [digs] using hd
            rcases hd' with rfl | rfl | rfl <;> decide
          · have hw : (if n ∈ digs then [] else kAfter) = [] := hw
            rw [if_neg hd] at hw
            cases hw
    have hdg : ∀ n, k < 2 → num = some n → n = [49] ∨ n = [50] ∨ n = [51] := fun n h e => by
      subst e
      rw [wrong_num, if_neg (by rintro ⟨q | q, _⟩ <;> omega)] at hw
      by_cases hs : setOf l v nm = none
      · rw [if_pos ⟨by omega, hs⟩] at hw; cases hw
      · rw [if_neg (fun q => hs q.2)] at hw
        by_cases hd : n ∈ digs
        · simpa [digs] using hd
        · have hw : (if n ∈ digs then [] else kAfter) = [] := hw
          rw [if_neg hd] at hw
          cases hw
    have finS : ∀ C : Addr, 2 ≤ k → sK a k = C → ∀ p dx, H p = none → H dx = none → dx ≠ p → ∀ E : XK,
        spInit (k - 2) C a.cAlphabet a.cBadStage (stArgs (k - 2) p al sg nm) (upd (upd H dx (.own p)) p (.ins C dx [])) (fun v H2 => v = .non ∧ Q (.ref p) H2) E := by
      intro C g1 g3 p dx hp hdx hne E
      subst g3
      have hnu := hnum g1
      subst hnu
      rw [wrong_st ⟨g1, hk⟩ h3s] at hw
      refine made_S (a := a) hp hdx hne hal (by omega) hnl hnc (fun hn p2 dx2 ms H2 e1 e2 e3 e4 s2 => ?_) (fun z hz dd H2 e1 e2 s2 => ?_)
      · exact k1 ms p2 H2 (fun hk4 => e3 (by show k - 2 ≠ 2; have : k ≠ 4 := hk4; omega)) e1 ⟨dx2, by rw [e4]; show _ = some (HO.ins _ _ (if k < 2 then _ else _)); rw [if_neg (by omega)]⟩ s2
      · rw [hz] at hw
        exact absurd hw (what_ne hz)
    have finK : ∀ (m : Nat) (i : Nat), k < 2 → i = k → m = numN num → ∀ p dx, H p = none → H dx = none → dx ≠ p → ∀ E : XK,
        spInitD (dK a i) a.cAlphabet a.cBadStage [.ref p, .ref al, .str (S nm), .int (m : Int), .bl j] (upd (upd H dx (.own p)) p (.ins (dK a i) dx [])) (fun v H2 => v = .non ∧ Q (.ref p) H2) E := by
      intro m i g1 g2 g3 p dx hp hdx hne E
      obtain ⟨hn3, ms, hms⟩ := finD g1
      subst g2 g3
      exact made_D (a := a) hp hdx hne hal hn3 hnl hnc hms fun p2 dx2 H2 e1 e2 e3 s2 => k1 ms p2 H2 (fun _ => hms) e1 ⟨dx2, by rw [e3]; show _ = some (HO.ins _ _ (if i < 2 then _ else _)); rw [if_pos g1]; exact congrArg (fun C => some (HO.ins C dx2 _)) (sK_dK a g1).symm⟩ s2
    refine ⟨_, ((pss_cons (ps_asg (pv 1) (pg_tup rfl (pgs_cons (pg_name (i := 2) scObject.nd rfl (Or.inl rfl)) (pgs_cons (pg_name (i := 3) scObject.nd rfl (Or.inl rfl)) (pgs_cons (pg_name (i := 4) scObject.nd rfl (Or.inl rfl)) (pgs_cons (pg_name (i := 5) scObject.nd rfl (Or.inl rfl)) (pgs_cons (pg_name (i := 6) scObject.nd rfl (Or.inl rfl)) pgs_nil)))))))
      (pss_cons (ps_if (pt_cmpR op_eq (pv 2) pe_int (nomark _)) (pss_one (ps_ret (pe_makeK M.mkW GIW (hr.mono (by decide)) (by rfl) T.gcDrop hAE passE (pa_cons (pv 0) (pa_cons (pv 4) pa_nil)) (pk_cons (pe_ifExp (pt_cmpR op_isN (pv 5) pe_non (nomark _)) pe_int (pe_callTy call_int_str (by rfl) T.z_int (by decide +kernel) (pa_cons (pv 5) pa_nil))) (pk_cons (pv 6) pk_nil))))) pss_nil)
      (pss_cons (ps_if (pt_cmpR op_eq (pv 2) pe_int (nomark _)) (pss_one (ps_ret (pe_makeK M.mkO GIO (hr.mono (by decide)) (by rfl) T.gcLastDrop hAE passE (pa_cons (pv 0) (pa_cons (pv 4) pa_nil)) (pk_cons (pe_ifExp (pt_cmpR op_isN (pv 5) pe_non (nomark _)) pe_int (pe_callTy call_int_str (by rfl) T.z_int (by decide +kernel) (pa_cons (pv 5) pa_nil))) (pk_cons (pv 6) pk_nil))))) pss_nil)
      (pss_cons (ps_if (pt_cmpR op_eq (pv 2) pe_int (nomark _)) (pss_one (ps_ret (pe_make M.mkWr GIWr (hr.mono (by decide)) (by rfl) T.gcWrite M.bWr .nil passE (pa_cons (pv 0) (pa_cons (pv 3) (pa_cons (pv 4) pa_nil)))))) pss_nil)
      (pss_cons (ps_if (pt_cmpR op_eq (pv 2) pe_int (nomark _)) (pss_one (ps_ret (pe_make M.mkOn GIOn (hr.mono (by decide)) (by rfl) T.gcOnce M.bOn .nil passE (pa_cons (pv 0) (pa_cons (pv 4) pa_nil))))) pss_nil)
      (pss_one (ps_ret (pe_make M.mkAd GIAd (hr.mono (by decide)) (by rfl) T.gcAdd M.bAd .nil passE (pa_cons (pv 0) (pa_cons (pv 3) pa_nil))))))))))), ?_⟩
    refine iSeq (iAsg (iVar rfl ⟨f, _, rfl, SqT.of hf, rfl, ?_⟩))
    refine ⟨_, _, rfl, iName ⟨_, _, rfl, iName ⟨_, _, rfl, iName ⟨_, _, rfl, iName ⟨_, _, rfl, iName ⟨rfl, ?_⟩⟩⟩⟩⟩⟩
    obtain hk' | hk' | hk' | hk' | hk' : k = 0 ∨ k = 1 ∨ k = 2 ∨ k = 3 ∨ k = 4 := by omega
    all_goals subst hk'
    · rcases num with _ | n
      · dsimp only [numV]
        walk_at "go"
        intro p dx hp hdx hne
        exact finK 0 0 (by decide) rfl rfl p dx hp hdx hne _
      · rcases hdg n (by decide) rfl with rfl | rfl | rfl
        · dsimp only [numV]
          walk_at "go"
          refine ⟨(by decide +kernel : PySem.intText? (S [49]) = some 1), by decide, ?_⟩
          walk_at "go"
          intro p dx hp hdx hne
          exact finK 1 0 (by decide) rfl rfl p dx hp hdx hne _
        · dsimp only [numV]
          walk_at "go"
          refine ⟨(by decide +kernel : PySem.intText? (S [50]) = some 2), by decide, ?_⟩
          walk_at "go"
          intro p dx hp hdx hne
          exact finK 2 0 (by decide) rfl rfl p dx hp hdx hne _
        · dsimp only [numV]
          walk_at "go"
          refine ⟨(by decide +kernel : PySem.intText? (S [51]) = some 3), by decide, ?_⟩
          walk_at "go"
          intro p dx hp hdx hne
          exact finK 3 0 (by decide) rfl rfl p dx hp hdx hne _
    · rcases num with _ | n
      · dsimp only [numV]
        walk_at "go"
        intro p dx hp hdx hne
        exact finK 0 1 (by decide) rfl rfl p dx hp hdx hne _
      · rcases hdg n (by decide) rfl with rfl | rfl | rfl
        · dsimp only [numV]
          walk_at "go"
          refine ⟨(by decide +kernel : PySem.intText? (S [49]) = some 1), by decide, ?_⟩
          walk_at "go"
          intro p dx hp hdx hne
          exact finK 1 1 (by decide) rfl rfl p dx hp hdx hne _
        · dsimp only [numV]
          walk_at "go"
          refine ⟨(by decide +kernel : PySem.intText? (S [50]) = some 2), by decide, ?_⟩
          walk_at "go"
          intro p dx hp hdx hne
          exact finK 2 1 (by decide) rfl rfl p dx hp hdx hne _
        · dsimp only [numV]
          walk_at "go"
          refine ⟨(by decide +kernel : PySem.intText? (S [51]) = some 3), by decide, ?_⟩
          walk_at "go"
          intro p dx hp hdx hne
          exact finK 3 1 (by decide) rfl rfl p dx hp hdx hne _
    · walk_at "go"
      intro p dx hp hdx hne
      exact finS a.cWrite (by decide) rfl p dx hp hdx hne _
    · walk_at "go"
      intro p dx hp hdx hne
      exact finS a.cOnce (by decide) rfl p dx hp hdx hne _
    · walk_at "go"
      intro p dx hp hdx hne
      exact finS a.cAdd (by decide) rfl p dx hp hdx hne _
def spRK (a : Ad) : Sp := fun vs H Q _ => ∃ (p dx : Addr) (fs : List (Str × V)) (k : Nat), vs = [.ref p, .int (k : Int)] ∧ k ≤ 4 ∧ H p = some (.ins (sK a k) dx fs) ∧ ∀ H', Same H H' → Q (.bl true) H'
theorem scRightKind : FnScope ["_law_stage", "_law_kind"] ["_law_stage", "_law_kind"] (defScope sRightKind) := ⟨rfl, rfl, rfl, by decide +kernel, rfl, by decide +kernel, by decide +kernel⟩
theorem ok_rightKind (T : Fns K mg a d) (M : Mx K a d) : FnOk P w K mg base CX0 1 a.aRightKind d.dRightKind ["_law_stage", "_law_kind"] (spRK a) := by
  refine T.FRightKind.ok scRightKind (fun vs H Q E h => ?_) (fun cdv A0 outer s H vs Q E hr h => ?_)
  · obtain ⟨p, dx, fs, k, rfl, _⟩ := h
    rfl
  · obtain ⟨p, dx, fs, k, rfl, hk, hp, kq⟩ := h
    refine ⟨_, ((pss_cons (ps_if (pt_cmpR op_eq (pv 1) pe_int (nomark _)) (pss_one (ps_ret (pe_and (pe_callB call_isi (by rfl) T.z_isinstance (by decide +kernel) (pa_cons (pv 0) (pa_cons (pe_glob (v := .ref a.cDrop) (by rfl) T.gcDrop rfl) pa_nil))) (pe_one (pe_not (pe_callB call_isi (by rfl) T.z_isinstance (by decide +kernel) (pa_cons (pv 0) (pa_cons (pe_glob (v := .ref a.cLastDrop) (by rfl) T.gcLastDrop rfl) pa_nil)))))))) pss_nil)
      (pss_one (ps_ret (pe_ix (r := rIxL K) ix_list (pe_lst (pa_cons pe_bl (pa_cons (pe_callB call_isi (by rfl) T.z_isinstance (by decide +kernel) (pa_cons (pv 0) (pa_cons (pe_glob (v := .ref a.cLastDrop) (by rfl) T.gcLastDrop rfl) pa_nil))) (pa_cons (pe_callB call_isi (by rfl) T.z_isinstance (by decide +kernel) (pa_cons (pv 0) (pa_cons (pe_glob (v := .ref a.cWrite) (by rfl) T.gcWrite rfl) pa_nil))) (pa_cons (pe_callB call_isi (by rfl) T.z_isinstance (by decide +kernel) (pa_cons (pv 0) (pa_cons (pe_glob (v := .ref a.cOnce) (by rfl) T.gcOnce rfl) pa_nil))) (pa_cons (pe_callB call_isi (by rfl) T.z_isinstance (by decide +kernel) (pa_cons (pv 0) (pa_cons (pe_glob (v := .ref a.cAdd) (by rfl) T.gcAdd rfl) pa_nil))) pa_nil)))))) (pv 1) (fun _ _ => rfl)))))), ?_⟩
    have k0 := M.kit k 0 (by omega) (by decide)
    have k1 := M.kit k 1 (by omega) (by decide)
    have k2 := M.kit k 2 (by omega) (by decide)
    have k3 := M.kit k 3 (by omega) (by decide)
    have k4 := M.kit k 4 (by omega) (by decide)
    have ob := M.ob k (by omega)
    obtain rfl | rfl | rfl | rfl | rfl : k = 0 ∨ k = 1 ∨ k = 2 ∨ k = 3 ∨ k = 4 := by omega
    · walk_at "go"
      refine isi_own ob hp k0 ?_
      walk_at "go"
      refine isi_own ob hp k1 ?_
      walk_at "go"
      exact kq _ (Same.refl _)
    all_goals walk_at "go"
    all_goals refine isi_own ob hp k1 ?_
    all_goals walk_at "go"
    all_goals refine isi_own ob hp k2 ?_
    all_goals walk_at "go"
    all_goals refine isi_own ob hp k3 ?_
    all_goals walk_at "go"
    all_goals refine isi_own ob hp k4 ?_
    all_goals walk_at "go"
    all_goals exact kq _ (Same.upd_new (by assumption))
end
end
section
set_option Elab.async false
set_option linter.all false
set_option maxRecDepth 100000
set_option maxHeartbeats 4000000
open PySem PySem.Spec PyProof.Rows L2

local macro_rules | `(tactic| walk_at "side") => `(tactic| exact .inl (by assumption))

/-- what a stage makes of a text -/
def dueP (pt : Pt) (ms t : List Nat) : List Nat := if pt.k < 2 then outL ms (numN pt.num) pt.j (decide (pt.k = 1)) t t.length else dueL (pt.k - 2) (pt.sg.headD 0) ms t
/-- whether the sign c at i stays -/
def st0 (num : Option (List Nat)) (ms : List Nat) (c n : Nat) : Bool := !decide (c ∈ ms) || (num.isSome && decide (n ≤ numN num))
def st1 (k : Nat) (num : Option (List Nat)) (j : Bool) (ms t : List Nat) (i c n : Nat) : Bool := if k = 3 then !decide (c ∈ ms) || decide (i = 0) || !decide (t[i - 1]? = some c) else if j = true ∧ c = 45 then true else st0 num ms c n
def st2 (k : Nat) (num : Option (List Nat)) (j : Bool) (ms t : List Nat) (i c n : Nat) : Bool := if k = 1 ∧ (i + 1 = t.length ∨ (j = true ∧ t[i + 1]? = some 45)) then true else st1 k num j ms t i c n
def outP (k : Nat) (num : Option (List Nat)) (j : Bool) (ms t : List Nat) (n : Nat) : List Nat := (List.range n).filterMap fun i => match t[i]? with
  | some c => if st2 k num j ms t i c (cntL j t (i + 1)) then some c else none
  | none => none
theorem outP_succ {k : Nat} {num : Option (List Nat)} {j : Bool} {ms t : List Nat} {n c : Nat} (h : t[n]? = some c) : outP k num j ms t (n + 1) = if st2 k num j ms t n c (cntL j t (n + 1)) = true then outP k num j ms t n ++ [c] else outP k num j ms t n := by
  unfold outP
  rw [List.range_succ, List.filterMap_append]
  simp only [List.filterMap_cons, List.filterMap_nil, h]
  cases e : st2 k num j ms t n c (cntL j t (n + 1)) <;> simp
theorem outP_len (k : Nat) (num : Option (List Nat)) (j : Bool) (ms t : List Nat) (n : Nat) : (outP k num j ms t n).length ≤ n := by
  unfold outP
  refine Nat.le_trans (List.length_filterMap_le _ _) ?_
  rw [List.length_range]
  exact Nat.le_refl _
theorem outP_drop {k : Nat} {num : Option (List Nat)} {j : Bool} {ms t : List Nat} (hk : k < 2) : ∀ n, n ≤ t.length → outP k num j ms t n = outL ms (numN num) j (decide (k = 1)) t n
  | 0, _ => rfl
  | n + 1, h => by
    have hx : t[n]? = some t[n] := List.getElem?_eq_getElem (by omega)
    rw [outP_succ hx, outL_succ, outP_drop hk n (by omega), hx]
    generalize t[n] = c at hx
    have e : st2 k num j ms t n c (cntL j t (n + 1)) = stayB ms (numN num) j (decide (k = 1)) t n := by
      unfold st2 st1 stayB st0
      rw [hx, if_neg (show ¬ k = 3 by omega)]
      have hc : cntL j t (n + 1) = if j = true ∧ c = 45 then 0 else cntL j t n + 1 := by
        show (if j = true ∧ t[n]? = some 45 then 0 else cntL j t n + 1) = _
        rw [hx]
        simp only [Option.some.injEq]
      rw [hc]
      by_cases h1 : j = true ∧ c = 45
      · rw [if_pos h1, if_pos h1]
        simp
      · rw [if_neg h1, if_neg h1]
        have hn : (num.isSome && decide (cntL j t n + 1 ≤ numN num)) = decide (cntL j t n + 1 ≤ numN num) := by
          cases num
          · have : ¬ cntL j t n + 1 ≤ numN none := by show ¬ cntL j t n + 1 ≤ 0; omega
            simp [this]
          · rfl
        rw [hn]
        by_cases hk1 : k = 1
        · by_cases h2 : n + 1 = t.length ∨ (j = true ∧ t[n + 1]? = some 45)
          · rw [if_pos ⟨hk1, h2⟩]
            rcases h2 with h2 | h2
            · simp [hk1, h2]
            · simp [hk1, h2.1, h2.2]
          · rw [if_neg (fun q => h2 q.2)]
            have h3 : (decide (n + 1 = t.length) || (j && decide (t[n + 1]? = some 45))) = false := by
              rw [Bool.or_eq_false_iff]
              refine ⟨decide_eq_false fun q => h2 (.inl q), ?_⟩
              cases j
              · rfl
              · exact decide_eq_false fun q => h2 (.inr ⟨rfl, q⟩)
            rw [h3]
            simp
        · rw [if_neg (fun q => hk1 q.1)]
          simp [hk1]
    rw [e]
    split <;> simp_all
theorem outP_once {num : Option (List Nat)} {j : Bool} {ms t : List Nat} : ∀ n, n ≤ t.length → outP 3 num j ms t n = onceL t ms n
  | 0, _ => rfl
  | n + 1, h => by
    have hx : t[n]? = some t[n] := List.getElem?_eq_getElem (by omega)
    rw [outP_succ hx, onceL_succ, outP_once n (by omega), hx]
    generalize t[n] = c at hx
    have e : st2 3 num j ms t n c (cntL j t (n + 1)) = keepB t ms n := by
      unfold st2 st1
      rw [if_neg (by rintro ⟨h, _⟩; cases h), if_pos rfl]
      cases n with
      | zero => simp [keepB]
      | succ m =>
        show (!decide (c ∈ ms) || decide (m + 1 = 0) || !decide (t[m + 1 - 1]? = some c)) = ((!decide (t[m + 1]? = t[m]?)) || (match t[m + 1]? with | some c => !decide (c ∈ ms) | none => false))
        rw [hx]
        simp only [Nat.add_sub_cancel]
        by_cases h1 : t[m]? = some c
        · simp [h1]
        · have : ¬ some c = t[m]? := fun e => h1 e.symm
          simp [h1, this]
    rw [e]
    split <;> simp_all
section
variable {P : Program} {w : World} {K : PySem.W.Frag} {mg : Str → Option Value} {base : Heap} {a : Ad} {d : Fd}
/-- the slots while the law tells what is due -/
def sD (f : Addr) (ms t : List Nat) (k : Nat) (sg nm : List Nat) (num : Option (List Nat)) (j : Bool) (out : List Nat) (n : Nat) (i : Option V) (b : Option V) : L2.St := [some (.ref f), some (.str (S ms)), some (.str (S t)), some (.int (k : Int)), some (.str (S sg)), some (.str (S nm)), some (numV num), some (.bl j), none, some (.str (S out)), some (.int (n : Int)), i, b]
def t1 (f : Addr) (ms t : List Nat) (k : Nat) (sg nm : List Nat) (num : Option (List Nat)) (j : Bool) : TS := fun D σ H => ∃ (out : List Nat) (n i c : Nat) (b : Option V), σ = sD f ms t k sg nm num j out n (some (.int (0 + (i : Int)))) b ∧ t[i]? = some c ∧ D.nx (sD f ms t k sg nm num j out (if j = true ∧ c = 45 then 0 else n) (some (.int (0 + (i : Int)))) b) H
def t2 (f : Addr) (ms t : List Nat) (k : Nat) (sg nm : List Nat) (num : Option (List Nat)) (j : Bool) : TE := fun σ H Q => ∃ (out : List Nat) (n i c : Nat) (b : Option V), σ = sD f ms t k sg nm num j out n (some (.int (0 + (i : Int)))) b ∧ t[i]? = some c ∧ Q (.bl (st0 num ms c n)) H
def t3 (f : Addr) (ms t : List Nat) (k : Nat) (sg nm : List Nat) (num : Option (List Nat)) (j : Bool) : TS := fun D σ H => ∃ (out : List Nat) (n i c : Nat), σ = sD f ms t k sg nm num j out n (some (.int (0 + (i : Int)))) (some (.bl (st0 num ms c n))) ∧ t[i]? = some c ∧ D.nx (sD f ms t k sg nm num j out n (some (.int (0 + (i : Int)))) (some (.bl (st1 k num j ms t i c n)))) H
def t4 (f : Addr) (ms t : List Nat) (k : Nat) (sg nm : List Nat) (num : Option (List Nat)) (j : Bool) : TS := fun D σ H => ∃ (out : List Nat) (n i c : Nat), σ = sD f ms t k sg nm num j out n (some (.int (0 + (i : Int)))) (some (.bl (st1 k num j ms t i c n))) ∧ t[i]? = some c ∧ D.nx (sD f ms t k sg nm num j out n (some (.int (0 + (i : Int)))) (some (.bl (st2 k num j ms t i c n)))) H
def spDue : Sp := fun vs H Q _ => ∃ (f : Addr) (pt : Pt) (ms t : List Nat), vs = [.ref f, .str (S ms), .str (S t)] ∧ IsPt H f pt ∧ pt.k ≤ 4 ∧ (2 ≤ pt.k → pt.num = none) ∧ (∀ n, pt.num = some n → n ∈ digs) ∧ (pt.k = 2 ∨ pt.k = 4 → pt.sg.length = 1) ∧ t.length ≤ 100 ∧
  ∀ H', Same H H' → Q (.str (S (dueP pt ms t))) H'
theorem scDue : FnScope ["_law_parts_here", "_law_members_here", "_law_text_here", "_law_kind", "_law_sign", "_law_name_here", "_law_number", "_law_joined", "_law_one", "_law_out", "_law_count", "_law_k", "_law_stays"] ["_law_parts_here", "_law_members_here", "_law_text_here"] (defScope sDue) := ⟨rfl, rfl, rfl, by decide +kernel, rfl, by decide +kernel, by decide +kernel⟩
theorem ok_due (T : Fns K mg a d) : FnOk P w K mg base CX0 1 a.aDue d.dDue ["_law_parts_here", "_law_members_here", "_law_text_here"] spDue := by
  refine T.FDue.ok scDue (fun vs H Q E h => ?_) (fun cdv A0 outer s H vs Q E hr h => ?_)
  · obtain ⟨f, pt, ms, t, rfl, _⟩ := h
    rfl
  · obtain ⟨f, ⟨k, sg, nm, num, j⟩, ms, t, rfl, hf, hk, hnn, hnd, hsg, htl, kq⟩ := h
    have hf : H f = some (.tup [.int (k : Int), .str (S sg), .str (S nm), numV num, .bl j]) := hf
    have hk : k ≤ 4 := hk
    have hnn : 2 ≤ k → num = none := hnn
    have hnd : ∀ n, num = some n → n ∈ digs := hnd
    have hsg : k = 2 ∨ k = 4 → sg.length = 1 := hsg
    refine ⟨_, ((pss_cons (ps_asg (pv 0) (pg_tup rfl (pgs_cons (pg_name (i := 3) scDue.nd rfl (Or.inl rfl)) (pgs_cons (pg_name (i := 4) scDue.nd rfl (Or.inr rfl)) (pgs_cons (pg_name (i := 5) scDue.nd rfl (Or.inl rfl)) (pgs_cons (pg_name (i := 6) scDue.nd rfl (Or.inl rfl)) (pgs_cons (pg_name (i := 7) scDue.nd rfl (Or.inl rfl)) pgs_nil)))))))
      (pss_cons (ps_if (pt_cmpR op_eq (pv 3) pe_int (nomark _)) (pss_one (ps_ret (pe_join (pe_strS (l := []) (by decide +kernel)) (pe_lc (own := [("_law_one", 8)]) (g := gName 8) (by rfl) scDue.nd (pi_str (pv 2)) (blkOk_by (own := [("_law_one", 8)]) (N := ["_law_parts_here", "_law_members_here", "_law_text_here", "_law_kind", "_law_sign", "_law_name_here", "_law_number", "_law_joined", "_law_one", "_law_out", "_law_count", "_law_k", "_law_stays"]) (sc := defScope sDue) (by decide +kernel)) (fun _ _ _ _ _ => pg_name (i := 8) scDue.nd rfl (Or.inl rfl)) (fun _ _ _ _ _ => pts_nil) (fun _ _ _ _ _ => (pe_ifExp (pt_cmpR op_inS (pv 8) (pv 1) rfl) (pv 4) (pv 8))))))) pss_nil)
      (pss_cons (ps_if (pt_cmpR op_eq (pv 3) pe_int (nomark _)) (pss_one (ps_ret (pe_op op_addS (pv 2) (pv 4)))) pss_nil)
      (pss_cons (ps_set (i := 9) scDue.nd rfl (Or.inl rfl) (pe_strS (l := []) (by decide +kernel)))
      (pss_cons (ps_set (i := 10) scDue.nd rfl (Or.inl rfl) pe_int)
      (pss_cons (ps_for PassesOwn.never rfl (pi_range1 (by rfl) T.z_range (pa_cons (pe_callB call_lenS (by rfl) T.z_len (by decide +kernel) (pa_cons (pv 2) pa_nil)) pa_nil)) (pg_name (i := 11) scDue.nd rfl (Or.inl rfl)) (pss_cons (ps_set (i := 10) scDue.nd rfl (Or.inl rfl) (pe_op op_add (pv 10) pe_int))
      (pss_cons (PS.imp (t' := (t1 f ms t k sg nm num j)) (ps_if (PW.pt (pw_and (pt_val (pv 7)) (pw_and1 (pt_cmpR op_eq (pe_ix ix_str (pv 2) (pv 11) (fun _ _ => rfl)) (pe_strS (l := [45]) (by decide +kernel)) (nomark _))))) (pss_one (ps_set (i := 10) scDue.nd rfl (Or.inl rfl) pe_int)) pss_nil) ?_)
      (pss_cons (ps_set (i := 12) scDue.nd rfl (Or.inl rfl) (PE.imp (t' := (t2 f ms t k sg nm num j)) (pe_or (pe_cmpR op_notInS (pe_ix ix_str (pv 2) (pv 11) (fun _ _ => rfl)) (pv 1) rfl) (pe_one (pe_and (pe_cmpR op_notN (pv 6) pe_non (nomark _)) (pe_one (pe_cmpR op_le (pv 10) (pe_callTy call_int_str (by rfl) T.z_int (by decide +kernel) (pa_cons (pv 6) pa_nil)) (nomark _)))))) ?_))
      (pss_cons (PS.imp (t' := (t3 f ms t k sg nm num j)) (ps_if (pt_cmpR op_eq (pv 3) pe_int (nomark _)) (pss_one (ps_set (i := 12) scDue.nd rfl (Or.inl rfl) (pe_or (pe_cmpR op_notInS (pe_ix ix_str (pv 2) (pv 11) (fun _ _ => rfl)) (pv 1) rfl) (pe_or (pe_cmpR op_eq (pv 11) pe_int (nomark _)) (pe_one (pe_cmpR op_ne (pe_ix ix_str (pv 2) (pv 11) (fun _ _ => rfl)) (pe_ix ix_str (pv 2) (pe_op op_sub (pv 11) pe_int) (fun _ _ => rfl)) (nomark _))))))) (pss_one (ps_if (PW.pt (pw_and (pt_val (pv 7)) (pw_and1 (pt_cmpR op_eq (pe_ix ix_str (pv 2) (pv 11) (fun _ _ => rfl)) (pe_strS (l := [45]) (by decide +kernel)) (nomark _))))) (pss_one (ps_set (i := 12) scDue.nd rfl (Or.inl rfl) pe_bl)) pss_nil))) ?_)
      (pss_cons (PS.imp (t' := (t4 f ms t k sg nm num j)) (ps_if (PW.pt (pw_and (pt_cmpR op_eq (pv 3) pe_int (nomark _)) (pw_and1 (PW.pt (pw_or (pt_cmpR op_eq (pv 11) (pe_op op_sub (pe_callB call_lenS (by rfl) T.z_len (by decide +kernel) (pa_cons (pv 2) pa_nil)) pe_int) (nomark _)) (pw_or1 (PW.pt (pw_and (pt_val (pv 7)) (pw_and1 (pt_cmpR op_eq (pe_ix ix_str (pv 2) (pe_op op_add (pv 11) pe_int) (fun _ _ => rfl)) (pe_strS (l := [45]) (by decide +kernel)) (nomark _))))))))))) (pss_one (ps_set (i := 12) scDue.nd rfl (Or.inl rfl) pe_bl)) pss_nil) ?_)
      (pss_one (ps_if (pt_val (pv 12)) (pss_one (ps_set (i := 9) scDue.nd rfl (Or.inl rfl) (pe_op op_addS (pv 9) (pe_ix ix_str (pv 2) (pv 11) (fun _ _ => rfl))))) pss_nil))))))))
      (pss_one (ps_ret (pv 9)))))))))), ?_⟩
    · rintro ⟨D1, D2, D3, D4⟩ σ H1 ⟨out, n, i, c, b, rfl, hc, kq⟩
      dsimp only at kq
      have ha : atI t (0 + (i : Int)) = some c := by rw [Int.zero_add]; exact atI_nat hc
      cases j
      · walk_at "go"
        exact kq
      · by_cases h45 : c = 45
        · subst h45
          walk_at "go"
          exact kq
        · rw [if_neg (fun q => h45 q.2)] at kq
          walk_at "go"
          exact kq
    · rintro σ H1 Q1 ⟨out, n, i, c, b, rfl, hc, kq⟩
      have ha : atI t (0 + (i : Int)) = some c := by rw [Int.zero_add]; exact atI_nat hc
      unfold st0 at kq
      by_cases hm : c ∈ ms
      · rw [decide_eq_true hm] at kq
        rcases num with _ | z
        · dsimp only [sD, numV]
          walk_at "go"
          exact kq
        · have hd' : z = [49] ∨ z = [50] ∨ z = [51] := by simpa [digs] using hnd z rfl
          dsimp only [sD, numV]
          rcases hd' with rfl | rfl | rfl
          · rw [show (!true || ((some [49]).isSome && decide (n ≤ numN (some [49])))) = decide ((n : Int) ≤ 1) from decide_eq_decide.mpr (by show n ≤ 1 ↔ _; omega)] at kq
            walk_at "go"
            refine ⟨(by decide +kernel : PySem.intText? (S [49]) = some 1), by decide, ?_⟩
            walk_at "go"
            exact kq
          · rw [show (!true || ((some [50]).isSome && decide (n ≤ numN (some [50])))) = decide ((n : Int) ≤ 2) from decide_eq_decide.mpr (by show n ≤ 2 ↔ _; omega)] at kq
            walk_at "go"
            refine ⟨(by decide +kernel : PySem.intText? (S [50]) = some 2), by decide, ?_⟩
            walk_at "go"
            exact kq
          · rw [show (!true || ((some [51]).isSome && decide (n ≤ numN (some [51])))) = decide ((n : Int) ≤ 3) from decide_eq_decide.mpr (by show n ≤ 3 ↔ _; omega)] at kq
            walk_at "go"
            refine ⟨(by decide +kernel : PySem.intText? (S [51]) = some 3), by decide, ?_⟩
            walk_at "go"
            exact kq
      · rw [decide_eq_false hm] at kq
        walk_at "go"
        exact kq
    · rintro ⟨D1, D2, D3, D4⟩ σ H1 ⟨out, n, i, c, rfl, hc, kq⟩
      dsimp only at kq
      have hi := (List.getElem?_eq_some_iff.mp hc).1
      have ha : atI t (0 + (i : Int)) = some c := by rw [Int.zero_add]; exact atI_nat hc
      unfold st1 at kq
      generalize st0 num ms c n = s0 at kq ⊢
      by_cases h3 : k = 3
      · rw [if_pos h3] at kq
        subst h3
        by_cases hm : c ∈ ms
        · rw [decide_eq_true hm] at kq
          by_cases h0 : i = 0
          · rw [decide_eq_true h0] at kq
            walk_at "go"
            exact kq
          · rw [decide_eq_false h0] at kq
            have hx : t[i - 1]? = some t[i - 1] := List.getElem?_eq_getElem (by omega)
            rw [hx] at kq
            generalize t[i - 1] = e at hx kq
            have ha2 : atI t (0 + (i : Int) - 1) = some e := by rw [show (0 : Int) + (i : Int) - 1 = ((i - 1 : Nat) : Int) by omega]; exact atI_nat hx
            have hne : (!decide (V.str (S [c]) = V.str (S [e]))) = (!true || false || !decide (some e = some c)) := by
              by_cases h : e = c
              · simp [h]
              · have : ¬ c = e := fun q => h q.symm
                simp [h, this, S_inj]
            walk_at "go"
            rw [hne]
            exact kq
        · rw [decide_eq_false hm] at kq
          walk_at "go"
          exact kq
      · rw [if_neg h3] at kq
        cases j
        · rw [if_neg (by rintro ⟨q, _⟩; cases q)] at kq
          walk_at "go"
          exact kq
        · by_cases h45 : c = 45
          · subst h45
            rw [if_pos ⟨rfl, rfl⟩] at kq
            walk_at "go"
            exact kq
          · rw [if_neg (fun q => h45 q.2)] at kq
            walk_at "go"
            exact kq
    · rintro ⟨D1, D2, D3, D4⟩ σ H1 ⟨out, n, i, c, rfl, hc, kq⟩
      dsimp only at kq
      have hi := (List.getElem?_eq_some_iff.mp hc).1
      generalize hs1 : st1 k num j ms t i c n = s1 at kq ⊢
      unfold st2 at kq
      rw [hs1] at kq
      by_cases h1 : k = 1
      · subst h1
        by_cases hl : i + 1 = t.length
        · rw [if_pos ⟨rfl, .inl hl⟩] at kq
          walk_at "go"
          exact kq
        · have hx : t[i + 1]? = some t[i + 1] := List.getElem?_eq_getElem (by omega)
          rw [hx] at kq
          generalize t[i + 1] = e at hx kq
          have ha2 : atI t (0 + (i : Int) + 1) = some e := by rw [show (0 : Int) + (i : Int) + 1 = ((i + 1 : Nat) : Int) by omega]; exact atI_nat hx
          cases j
          · rw [if_neg (by rintro ⟨_, q | ⟨q, _⟩⟩; exact hl q; cases q)] at kq
            walk_at "go"
            exact kq
          · by_cases h45 : e = 45
            · subst h45
              rw [if_pos ⟨rfl, .inr ⟨rfl, rfl⟩⟩] at kq
              walk_at "go"
              exact kq
            · rw [if_neg (by rintro ⟨_, q | ⟨_, q⟩⟩; exact hl q; exact h45 (Option.some.inj q))] at kq
              walk_at "go"
              exact kq
      · rw [if_neg (fun q => h1 q.1)] at kq
        walk_at "go"
        exact kq
    · refine iSeq (iAsg (iVar rfl ⟨f, _, rfl, SqT.of hf, rfl, ?_⟩))
      refine ⟨_, _, rfl, iName ⟨_, _, rfl, iName ⟨_, _, rfl, iName ⟨_, _, rfl, iName ⟨_, _, rfl, iName ⟨rfl, ?_⟩⟩⟩⟩⟩⟩
      by_cases h2 : k = 2
      · subst h2
        have hnu := hnn (by decide)
        subst hnu
        rcases sg with _ | ⟨x, _ | ⟨y, r⟩⟩
        · exact absurd (show ([] : List Nat).length = 1 from hsg (.inl rfl)) (by decide)
        · walk_at "go"
          rename_i D hD
          refine lc_text (l := t) (fun _ => true) (fun c => V.str (S [if c ∈ ms then x else c])) (by omega) (fun _ => rfl) (fun _ _ _ _ _ q => q) (fun c hc hq H2 Q2 off q => ?_) ?_
          · walk_at "go"
            · rename_i hcm
              rw [if_pos hcm] at q
              exact q
            · rename_i hcm
              rw [if_neg hcm] at q
              exact q
          · rw [List.filter_eq_self.mpr (fun _ _ => rfl)]
            refine iJoinS (l := t.map fun c => if c ∈ ms then x else c) (SqL.of ?_) (by rw [List.length_map]; omega) (kq _ (Same.upd_new hD))
            rw [upd_same, List.map_map]
            rfl
        · have := hsg (.inl rfl)
          simp only [List.length_cons] at this
          omega
      · by_cases h4 : k = 4
        · subst h4
          have hnu := hnn (by decide)
          subst hnu
          rcases sg with _ | ⟨x, _ | ⟨y, r⟩⟩
          · exact absurd (show ([] : List Nat).length = 1 from hsg (.inr rfl)) (by decide)
          · have kq : Q (.str (S (t ++ [x]))) H := kq H (Same.refl _)
            walk_at "go"
            exact kq
          · have := hsg (.inr rfl)
            simp only [List.length_cons] at this
            omega
        · have kq : ∀ H', Same H H' → Q (.str (S (outP k num j ms t t.length))) H' := fun H' s => by
            have := kq H' s
            unfold dueP at this
            by_cases h : k < 2
            · rw [outP_drop h t.length (Nat.le_refl _)]
              rw [if_pos h] at this
              exact this
            · have h3 : k = 3 := by omega
              subst h3
              rw [outP_once t.length (Nat.le_refl _)]
              exact this
          walk_at "go"
          rw [show ((t.length : Nat) : Int).toNat = t.length by omega]
          refine for_R (n := t.length) (fun i σ H' => Stop (∃ (v8 v9 : Option V), σ = sD f ms t k sg nm num j (outP k num j ms t i) (cntL j t i) v8 v9 ∧ H' = H)) ⟨none, none, rfl, rfl⟩ ?_ ?_
          · rintro i σ H1 hi ⟨v8, v9, rfl, rfl⟩
            have hx : t[i]? = some t[i] := List.getElem?_eq_getElem hi
            have ho := outP_len k num j ms t i
            have hs := outP_succ (k := k) (num := num) (j := j) (ms := ms) hx
            have hcl := cntL_le j t i
            have hcn : cntL j t (i + 1) = if j = true ∧ t[i] = 45 then 0 else cntL j t i + 1 := by
              show (if j = true ∧ t[i]? = some 45 then 0 else cntL j t i + 1) = _
              rw [hx]
              simp only [Option.some.injEq]
            generalize t[i] = c at hx hs hcn
            have ha : atI t (0 + (i : Int)) = some c := by rw [Int.zero_add]; exact atI_nat hx
            walk_at "go"
            refine ⟨_, cntL j t i + 1, i, c, _, rfl, hx, ?_⟩
            rw [← hcn]
            walk_at "go"
            refine ⟨_, cntL j t (i + 1), i, c, _, rfl, hx, ?_⟩
            walk_at "go"
            refine ⟨_, cntL j t (i + 1), i, c, rfl, hx, ?_⟩
            walk_at "go"
            refine ⟨_, cntL j t (i + 1), i, c, rfl, hx, ?_⟩
            cases hb : st2 k num j ms t i c (cntL j t (i + 1))
            · rw [hb, if_neg (by decide)] at hs
              walk_at "go"
              exact ⟨_, _, by rw [hs], rfl⟩
            · rw [hb, if_pos rfl] at hs
              walk_at "go"
              exact ⟨_, _, by rw [hs]; rfl, rfl⟩
          · rintro σ H1 ⟨v8, v9, rfl, rfl⟩
            walk_at "go"
            exact kq _ (Same.refl _)
end
end
section
set_option Elab.async false
set_option linter.all false
set_option maxRecDepth 100000
set_option maxHeartbeats 4000000
open PySem PySem.Spec PyProof.Rows L2
/-! a stage's written form, and what it makes of a text -/
def strP (pt : Pt) : List Nat := if pt.k < 2 then writD pt.nm (numN pt.num) pt.j (decide (pt.k = 1)) else strOf (pt.k - 2) pt.nm pt.sg
theorem rest_num (r : List (List Nat)) : r = (match numP r with | some n => [kAfter, n] | none => []) ++ restP r := by
  rcases r with _ | ⟨a, _ | ⟨n, s⟩⟩
  · rfl
  · rfl
  · show a :: n :: s = (match (if a = kAfter then some n else none : Option (List Nat)) with | some n => [kAfter, n] | none => []) ++ (if a = kAfter then s else a :: n :: s)
    by_cases h : a = kAfter
    · rw [if_pos h, if_pos h, h]
      rfl
    · rw [if_neg h, if_neg h]
      rfl
theorem rest_each (r : List (List Nat)) : r = (if eachP r = true then [kEach] else []) ++ restW r := by
  unfold restW
  by_cases h : eachP r = true
  · rw [if_pos h, if_pos h]
    unfold eachP at h
    have h := of_decide_eq_true h
    rcases r with _ | ⟨a, s⟩
    · cases h
    · obtain rfl : a = kEach := (List.cons.inj h).1
      rfl
  · rw [if_neg h, if_neg h]
    rfl
theorem dropP_some {x : List Nat} {r : List (List Nat)} {pt : Pt} (h : dropP x r = some pt) : pt.k < 2 ∧ pt.nm = x ∧ pt.sg = [] ∧ pt.num = numP r ∧ pt.j = eachP (restP r) ∧ restW (restP r) = endD (decide (pt.k = 1)) := by
  rw [dropP_W] at h
  by_cases h1 : restW (restP r) = [kBut, kLast]
  · rw [if_pos h1] at h
    cases h
    exact ⟨Nat.one_lt_two, rfl, rfl, rfl, rfl, h1⟩
  · rw [if_neg h1] at h
    by_cases h2 : restW (restP r) = []
    · rw [if_pos h2] at h
      cases h
      exact ⟨Nat.zero_lt_two, rfl, rfl, rfl, rfl, h2⟩
    · rw [if_neg h2] at h
      cases h
theorem parts_some {ws : List (List Nat)} {pt : Pt} (h : partsP ws = some pt) : (pt.k < 2 ∧ ∃ x r, ws = kDrop :: x :: r ∧ dropP x r = some pt) ∨ (pt.k = 2 ∧ pt.num = none ∧ ws = [kWrite, pt.sg, kFor, pt.nm]) ∨ (pt.k = 3 ∧ pt.num = none ∧ pt.sg = [] ∧ ws = [kOnce, pt.nm]) ∨ (pt.k = 4 ∧ pt.num = none ∧ pt.nm = [] ∧ ws = [kAdd, pt.sg]) := by
  rcases ws with _ | ⟨w0, _ | ⟨x, r⟩⟩
  · cases h
  · cases h
  · rw [partsP_W] at h
    by_cases h1 : r.length = 2 ∧ w0 = kWrite ∧ r[0]? = some kFor
    · rw [if_pos h1] at h
      cases h
      obtain ⟨h2, h3, h4⟩ := h1
      rcases r with _ | ⟨u0, _ | ⟨u1, _ | ⟨u2, us⟩⟩⟩
      · cases h2
      · cases h2
      · obtain rfl : u0 = kFor := Option.some.inj h4
        exact .inr (.inl ⟨rfl, rfl, by rw [h3]; rfl⟩)
      · simp only [List.length_cons] at h2
        omega
    · rw [if_neg h1] at h
      by_cases h2 : r = [] ∧ w0 = kOnce
      · rw [if_pos h2] at h
        cases h
        exact .inr (.inr (.inl ⟨rfl, rfl, rfl, by rw [h2.1, h2.2]⟩))
      · rw [if_neg h2] at h
        by_cases h3 : r = [] ∧ w0 = kAdd
        · rw [if_pos h3] at h
          cases h
          exact .inr (.inr (.inr ⟨rfl, rfl, rfl, by rw [h3.1, h3.2]⟩))
        · rw [if_neg h3] at h
          by_cases h4 : w0 = kDrop
          · rw [if_pos h4] at h
            exact .inl ⟨(dropP_some h).1, x, r, by rw [h4], h⟩
          · rw [if_neg h4] at h
            cases h
theorem wrong_digs {l v : List Nat} {pt : Pt} (hk : pt.k < 2) (hw : wrongP l v (some pt) = []) {n : List Nat} (hn : pt.num = some n) : n ∈ digs := by
  rcases pt with ⟨k, sg, nm, num, j⟩
  have hk : k < 2 := hk
  have hn : num = some n := hn
  subst hn
  rw [wrong_num, if_neg (by rintro ⟨q | q, _⟩ <;> omega)] at hw
  by_cases hs : setOf l v nm = none
  · rw [if_pos ⟨by omega, hs⟩] at hw; cases hw
  · rw [if_neg (fun q => hs q.2)] at hw
    by_cases hd : n ∈ digs
    · exact hd
    · have hw : (if n ∈ digs then [] else kAfter) = [] := hw
      rw [if_neg hd] at hw
      cases hw
theorem st_words {ws : List (List Nat)} {l v : List Nat} {pt : Pt} (h : partsP ws = some pt) (hw : wrongP l v (some pt) = []) : strP pt = spaced ws := by
  unfold strP
  rcases parts_some h with ⟨hk, x, r, rfl, hd⟩ | ⟨hk, hn, hws⟩ | ⟨hk, hn, hs, hws⟩ | ⟨hk, hn, hs, hws⟩
  · rw [if_pos hk]
    obtain ⟨_, h1, h2, h3, h4, h5⟩ := dropP_some hd
    rw [← spaced_D]
    congr 1
    have e1 := rest_num r
    have e2 := rest_each (restP r)
    have e3 : ∀ n, pt.num = some n → n ∈ digs := fun n hn => wrong_digs hk hw hn
    unfold wordsD
    rw [h1]
    show [[100, 114, 111, 112], x] ++ _ = [kDrop, x] ++ r
    congr 1
    rw [e1, e2, ← h4, ← h5, ← h3]
    congr 1
    rcases hn : pt.num with _ | n
    · rfl
    · have hd' : n = [49] ∨ n = [50] ∨ n = [51] := by simpa [digs] using e3 n hn
      rcases hd' with rfl | rfl | rfl <;> rfl
  · rw [hws, if_neg (by omega), hk]
    simp [strOf, spaced, kWrite, kFor]
  · rw [hws, if_neg (by omega), hk]
    simp [strOf, spaced, kOnce]
  · rw [hws, if_neg (by omega), hk]
    simp [strOf, spaced, kAdd]
theorem set_mem {l v nm ms : List Nat} (h : AlOk l v) (hs : setOf l v nm = some ms) : memL (45 :: srtL l) v nm = ms := by
  by_cases g : nm = nmAll ∨ nm = nmLet ∨ nm = nmVow ∨ nm = nmCon ∨ nm = nmJoi
  · have := setOf_good h (nm := nm) (by
      rcases g with g | g | g | g | g
      · exact .inl g
      · exact .inr (.inl g)
      · exact .inr (.inr (.inl g))
      · exact .inr (.inr (.inr (.inl g)))
      · exact .inr (.inr (.inr (.inr (.inl g)))))
    rw [hs] at this
    exact (Option.some.inj this).symm
  · simp only [not_or] at g
    unfold setOf at hs
    rw [if_neg g.1, if_neg g.2.1, if_neg g.2.2.1, if_neg g.2.2.2.1, if_neg g.2.2.2.2] at hs
    split at hs
    · cases hs
    · unfold memL
      rw [if_neg g.1, if_neg g.2.1, if_neg g.2.2.1, if_neg g.2.2.2.1, if_neg g.2.2.2.2]
      exact Option.some.inj hs
section
variable {P : Program} {w : World} {K : PySem.W.Frag} {mg : Str → Option Value} {base : Heap} {a : Ad} {d : Fd}
theorem str_St {H : Hp} {al p : Addr} {ms : List Nat} {pt : Pt} {Q : VK} {E : XK} (hk : pt.k ≤ 4) (hn : pt.k < 2 → numN pt.num ≤ 3) (hnl : pt.nm.length ≤ 100) (hsl : pt.sg.length ≤ 100) (hp : IsSt a H al ms pt p) (h : ∀ H', Same H H' → Q (.str (S (strP pt))) H') :
    rStrI a.cDrop (spStrD a 0 false) E [.ref p] H Q ∨ rStrI a.cLastDrop (spStrD a 1 true) E [.ref p] H Q ∨ rStrI a.cWrite (spStr 0 a.cWrite) E [.ref p] H Q ∨ rStrI a.cOnce (spStr 1 a.cOnce) E [.ref p] H Q ∨ rStrI a.cAdd (spStr 2 a.cAdd) E [.ref p] H Q := by
  rcases pt with ⟨k, sg, nm, num, j⟩
  obtain ⟨dx, hp⟩ := hp
  obtain hk' | hk' | hk' | hk' | hk' : k = 0 ∨ k = 1 ∨ k = 2 ∨ k = 3 ∨ k = 4 := by have : k ≤ 4 := hk; omega
  all_goals subst hk'
  · exact .inl ⟨p, dx, _, rfl, hp, p, dx, al, nm, ms, numN num, j, rfl, hp, hn Nat.zero_lt_two, hnl, fun H1 s1 => ⟨_, rfl, h H1 s1⟩⟩
  · exact .inr (.inl ⟨p, dx, _, rfl, hp, p, dx, al, nm, ms, numN num, j, rfl, hp, hn Nat.one_lt_two, hnl, fun H1 s1 => ⟨_, rfl, h H1 s1⟩⟩)
  · exact .inr (.inr (.inl ⟨p, dx, _, rfl, hp, p, dx, al, nm, sg, ms, rfl, hp, hnl, hsl, _, rfl, h H (Same.refl _)⟩))
  · exact .inr (.inr (.inr (.inl ⟨p, dx, _, rfl, hp, p, dx, al, nm, sg, ms, rfl, hp, hnl, hsl, _, rfl, h H (Same.refl _)⟩)))
  · exact .inr (.inr (.inr (.inr ⟨p, dx, _, rfl, hp, p, dx, al, nm, sg, ms, rfl, hp, hnl, hsl, _, rfl, h H (Same.refl _)⟩)))
theorem call_St {H : Hp} {al p : Addr} {l v ms t : List Nat} {pt : Pt} {σ : L2.St} {Q : VK} {E : L2.St → XK} {i k : Nat} (hi : σ[i]? = some (some (.ref p))) (hj : σ[k]? = some (some (.str (S t)))) (hk : pt.k ≤ 4) (hn : pt.k < 2 → numN pt.num ≤ 3) (hsg : pt.k = 2 ∨ pt.k = 4 → pt.sg.length = 1) (hs3 : pt.k = 3 → pt.sg = []) (hal : IsAl a.cAlphabet H al l v) (htx : Tx t) (htc : ∀ c ∈ t, c ∈ 45 :: srtL l) (hp : IsSt a H al ms pt p) (h : ∀ H', Same H H' → Q (.str (S (dueP pt ms t))) H') :
    tCallI a.cDrop (spCallD 0 a false) E (tVar i) (tCons (tVar k) tNil) σ H Q ∨ tCallI a.cLastDrop (spCallD 1 a true) E (tVar i) (tCons (tVar k) tNil) σ H Q ∨ tCallI a.cWrite (spCallI 0 a.cWrite a.cAlphabet a.cBadText) E (tVar i) (tCons (tVar k) tNil) σ H Q ∨ tCallI a.cOnce (spCallI 1 a.cOnce a.cAlphabet a.cBadText) E (tVar i) (tCons (tVar k) tNil) σ H Q ∨ tCallI a.cAdd (spCallI 2 a.cAdd a.cAlphabet a.cBadText) E (tVar i) (tCons (tVar k) tNil) σ H Q := by
  rcases pt with ⟨kk, sg, nm, num, j⟩
  obtain ⟨dx, hp⟩ := hp
  obtain hk' | hk' | hk' | hk' | hk' : kk = 0 ∨ kk = 1 ∨ kk = 2 ∨ kk = 3 ∨ kk = 4 := by have : kk ≤ 4 := hk; omega
  all_goals subst hk'
  · exact .inl ⟨_, hi, p, rfl, _, hj, ⟨dx, _, hp⟩, p, dx, al, l, v, nm, ms, t, numN num, j, rfl, hp, hal, htx, hn Nat.zero_lt_two, fun _ => h, fun q => absurd htc q⟩
  · exact .inr (.inl ⟨_, hi, p, rfl, _, hj, ⟨dx, _, hp⟩, p, dx, al, l, v, nm, ms, t, numN num, j, rfl, hp, hal, htx, hn Nat.one_lt_two, fun _ => h, fun q => absurd htc q⟩)
  · obtain ⟨x, rfl⟩ : ∃ x, sg = [x] := List.length_eq_one_iff.mp (hsg (.inl rfl))
    exact .inr (.inr (.inl ⟨_, hi, p, rfl, _, hj, ⟨dx, _, hp⟩, p, dx, al, l, v, nm, ms, t, x, rfl, hp, hal, htx, fun _ => h, fun q => absurd htc q⟩))
  · have hs3 : sg = [] := hs3 rfl
    subst hs3
    exact .inr (.inr (.inr (.inl ⟨_, hi, p, rfl, _, hj, ⟨dx, _, hp⟩, p, dx, al, l, v, nm, ms, t, 0, rfl, hp, hal, htx, fun _ => h, fun q => absurd htc q⟩)))
  · obtain ⟨x, rfl⟩ : ∃ x, sg = [x] := List.length_eq_one_iff.mp (hsg (.inr rfl))
    exact .inr (.inr (.inr (.inr ⟨_, hi, p, rfl, _, hj, ⟨dx, _, hp⟩, p, dx, al, l, v, nm, ms, t, x, rfl, hp, hal, htx, fun _ => h, fun q => absurd htc q⟩)))
end
end
section
set_option Elab.async false
set_option linter.all false
set_option maxRecDepth 100000
set_option maxHeartbeats 8000000
open PySem PySem.Spec PyProof.Rows L2

local macro_rules | `(tactic| walk_at "side") => `(tactic| exact .inl (by assumption))

theorem passEA {X : Cx} {P : Program} {w : World} : ∀ σ, PassesAt (L2.CX P w) X σ (fun _ _ _ => False) := fun σ pins H s e s' I h => passE pins σ H s e s' I h
theorem wrongP_ok (l v : List Nat) (o : Option Pt) : ∀ c ∈ wrongP l v o, c < 0x110000 := by
  have h1 : ∀ c ∈ kText, c < 0x110000 := by decide
  have h2 : ∀ c ∈ kSign, c < 0x110000 := by decide
  have h3 : ∀ c ∈ kSet, c < 0x110000 := by decide
  have h4 : ∀ c ∈ kAfter, c < 0x110000 := by decide
  have h5 : ∀ c ∈ ([] : List Nat), c < 0x110000 := by decide
  rcases o with _ | ⟨k, sg, nm, num, j⟩
  · exact h1
  · rw [wrong_num]
    split
    · exact h2
    · split
      · exact h3
      · rcases num with _ | n
        · exact h5
        · show ∀ c ∈ (if n ∈ digs then [] else kAfter), c < 0x110000
          split
          · exact h5
          · exact h4
theorem bs_eq (W : List Nat) : (!decide (V.str (S W) = V.str (S []))) = decide (W ≠ []) := by
  by_cases h : W = []
  · simp [h]
  · simp [h, S_inj]
theorem IsSt.al {a : Ad} {H : Hp} {al p : Addr} {ms : List Nat} {pt : Pt} (hk : pt.k ≤ 4) (h : IsSt a H al ms pt p) : ∃ dx rest, H p = some (.ins (sK a pt.k) dx (("alphabet", .ref al) :: rest)) := by
  obtain ⟨dx, h⟩ := h
  refine ⟨dx, ?_⟩
  by_cases h2 : pt.k < 2
  · rw [if_pos h2] at h
    exact ⟨_, h⟩
  · rw [if_neg h2] at h
    obtain hk' | hk' | hk' : pt.k = 2 ∨ pt.k = 3 ∨ pt.k = 4 := by omega
    all_goals rw [hk'] at h ⊢; exact ⟨_, h⟩
theorem Fns.nal {K : PySem.W.Frag} {mg : Str → Option Value} {a : Ad} {d : Fd} (T : Fns K mg a d) {k : Nat} (hk : k ≤ 4) : NoAttr K (sK a k) "alphabet" := by
  obtain rfl | rfl | rfl | rfl | rfl : k = 0 ∨ k = 1 ∨ k = 2 ∨ k = 3 ∨ k = 4 := by omega
  · exact T.nWal
  · exact T.nOal
  · exact T.nWral
  · exact T.nOnal
  · exact T.nAdal
theorem due_ms {l v ms t : List Nat} {pt : Pt} (ho : AlOk l v) (h : pt.k ≠ 4 → setOf l v pt.nm = some ms) (hk : pt.k ≤ 4) : dueP pt ms t = dueP pt (memL (45 :: srtL l) v pt.nm) t := by
  by_cases h4 : pt.k = 4
  · unfold dueP
    rw [h4]
    rfl
  · rw [set_mem ho (h h4)]
theorem IsPt.same {H H' : Hp} {f : Addr} {pt : Pt} (h : IsPt H f pt) (s : Same H H') : IsPt H' f pt := s _ _ h
theorem IsSt.same {a : Ad} {H H' : Hp} {al p : Addr} {ms : List Nat} {pt : Pt} (h : IsSt a H al ms pt p) (s : Same H H') : IsSt a H' al ms pt p := by
  obtain ⟨dx, h⟩ := h
  exact ⟨dx, s _ _ h⟩
/-- what the parts of a written text bear -/
structure PtOk (pt : Pt) : Prop where
  k4 : pt.k ≤ 4
  nl : pt.nm.length ≤ 60
  sl : pt.sg.length ≤ 60
  nc : ∀ c ∈ pt.nm, c < 0x110000
  nn : 2 ≤ pt.k → pt.num = none
  s3 : pt.k = 3 → pt.sg = []
theorem parts_ok {t : List Nat} {pt : Pt} (htl : t.length ≤ 60) (htc : ∀ c ∈ t, c < 0x110000) (h : partsP (cut t) = some pt) : PtOk pt := by
  have hm : ∀ z ∈ cut t, z.length ≤ 60 ∧ ∀ c ∈ z, c < 0x110000 := fun z hz => ⟨Nat.le_trans (cut_mem hz).1 htl, fun c hc => htc c ((cut_mem hz).2 c hc)⟩
  rcases parts_some h with ⟨hk, x, r, hws, hd⟩ | ⟨hk, hn, hws⟩ | ⟨hk, hn, hs, hws⟩ | ⟨hk, hn, hs, hws⟩
  · obtain ⟨_, h1, h2, h3, h4, h5⟩ := dropP_some hd
    have hx := hm x (by rw [hws]; simp)
    exact ⟨by omega, by rw [h1]; exact hx.1, by rw [h2]; simp, by rw [h1]; exact hx.2, fun q => by omega, fun q => by omega⟩
  · have h1 := hm pt.nm (by rw [hws]; simp)
    have h2 := hm pt.sg (by rw [hws]; simp)
    exact ⟨by omega, h1.1, h2.1, h1.2, fun _ => hn, fun q => by omega⟩
  · have h1 := hm pt.nm (by rw [hws]; simp)
    exact ⟨by omega, h1.1, by rw [hs]; simp, h1.2, fun _ => hn, fun _ => hs⟩
  · have h2 := hm pt.sg (by rw [hws]; simp)
    exact ⟨by omega, by rw [hs]; simp, h2.1, by rw [hs]; simp, fun _ => hn, fun q => by omega⟩
theorem wrong_sign {l v : List Nat} {pt : Pt} (hw : wrongP l v (some pt) = []) (hk : pt.k = 2 ∨ pt.k = 4) : pt.sg.length = 1 := by
  rcases pt with ⟨k, sg, nm, num, j⟩
  have hk : k = 2 ∨ k = 4 := hk
  rw [wrong_num] at hw
  by_cases h : signB (45 :: srtL l) sg = false
  · rw [if_pos ⟨hk, h⟩] at hw
    cases hw
  · rcases sg with _ | ⟨c, _ | ⟨c2, r⟩⟩
    · exact absurd rfl h
    · rfl
    · exact absurd rfl h
theorem wrong_set {l v : List Nat} {pt : Pt} (hw : wrongP l v (some pt) = []) (hk : pt.k ≠ 4) : ∃ ms, setOf l v pt.nm = some ms := by
  rcases pt with ⟨k, sg, nm, num, j⟩
  have hk : k ≠ 4 := hk
  rw [wrong_num] at hw
  by_cases h : (k = 2 ∨ k = 4) ∧ signB (45 :: srtL l) sg = false
  · rw [if_pos h] at hw
    cases hw
  · rw [if_neg h] at hw
    cases hs : setOf l v nm with
    | none =>
      rw [if_pos ⟨hk, hs⟩] at hw
      cases hw
    | some ms => exact ⟨ms, rfl⟩
theorem wrong_num3 {l v : List Nat} {pt : Pt} (hw : wrongP l v (some pt) = []) (hk : pt.k < 2) : numN pt.num ≤ 3 := by
  rcases hn : pt.num with _ | n
  · decide
  · have hd' : n = [49] ∨ n = [50] ∨ n = [51] := by simpa [digs] using wrong_digs hk hw hn
    rcases hd' with rfl | rfl | rfl <;> decide
section
variable {P : Program} {w : World} {K : PySem.W.Frag} {mg : Str → Option Value} {base : Heap} {a : Ad} {d : Fd}
theorem join_sum {us : List (List Nat)} (h : wsum us ≤ 1000) (h2 : us.length ≤ 100) : ((us.map S).map (·.length)).sum + (us.map S).length * (S [32]).length ≤ 16777216 := by
  have h3 : ((us.map S).map (·.length)).sum ≤ wsum us := by
    clear h h2
    induction us with
    | nil => simp
    | cons z us ih =>
      rw [show z :: us = [z] ++ us from rfl, wsum_app, wsum_one]
      simp only [List.map_append, List.map_cons, List.map_nil, List.sum_append, List.sum_cons, List.sum_nil, S_len, List.cons_append, List.nil_append]
      simp only [List.map_map] at ih
      rw [show (List.map (fun x => x.length) (List.map S us)) = List.map ((fun x => x.length) ∘ S) us from List.map_map]
      omega
  rw [List.length_map, S_len]
  simp only [List.length_cons, List.length_nil]
  omega
def sL (v0 v1 v2 v3 v4 v5 v6 v7 v8 v9 v10 v11 v12 v13 v14 v15 v16 v17 : Option V) : L2.St := [v0, v1, v2, v3, v4, v5, v6, v7, v8, v9, v10, v11, v12, v13, v14, v15, v16, v17]
def tWr : TE := fun σ H Q => ∃ (b p : Addr) (ws : List (List Nat)) (v0 v1 v2 v3 v4 v5 v7 v8 v10 v11 v12 v13 v14 v15 v16 v17 : Option V), σ = sL v0 v1 v2 v3 v4 v5 (some (.ref b)) v7 v8 (some (.ref p)) v10 v11 v12 v13 v14 v15 v16 v17 ∧ IsBox H b ∧ H p = some (.lst (strV ws)) ∧ p ≠ b ∧ WsOk 41 ws ∧ ∀ (t : List Nat) (H' : Hp), t.length ≤ 60 → (∀ c ∈ t, c < 0x110000) → Fr [b] H H' → Q (.str (S t)) H'
def tPa : TE := fun σ H Q => ∃ (t : List Nat) (v0 v1 v2 v3 v4 v5 v6 v7 v8 v9 v11 v12 v13 v14 v15 v16 v17 : Option V), σ = sL v0 v1 v2 v3 v4 v5 v6 v7 v8 v9 (some (.str (S t))) v11 v12 v13 v14 v15 v16 v17 ∧ t.length ≤ 60 ∧ (∀ c ∈ t, c < 0x110000) ∧
  ∀ (f : Addr) (H' : Hp), (∀ pt, partsP (cut t) = some pt → IsPt H' f pt) → Same H H' → Q (ptV f (partsP (cut t))) H'
def spLaw (K : PySem.W.Frag) : Sp := fun vs H Q _ => ∃ (x : Addr) (ns : List Int), vs = [.ref x] ∧ SqL K H x (ns.map V.int) ∧ ns.length ≤ 63 ∧ ∀ H', Q (.bl true) H'
theorem SqL.upS {K : PySem.W.Frag} {H H' : Hp} {x : Addr} {vs : List V} (h : SqL K H x vs) (s : Same H H') : SqL K H' x vs := SqL.same h s
theorem scLaw : FnScope ["_law_script", "_law_letters", "_law_vowels", "_law_pool", "_law_alpha", "_law_signs", "_law_box_here", "_law_texts", "_law_at", "_law_words_here", "_law_written", "_law_parts_here", "_law_wrong_here", "_law_stages", "_law_members_here", "_law_stage", "_law_text_here", "_law_told"] ["_law_script"] (defScope sLaw) := ⟨rfl, rfl, rfl, by decide +kernel, rfl, by decide +kernel, by decide +kernel⟩
theorem ok_law {fA B : Addr} {fdA : FuncData} {mc : Value} {tm tj tl : Tok} (T : Fns K mg a d) (z_zip : mg "zip" = none) (A : AlF K a.cAlphabet) (AV : AlV K mg a.cAlphabet mc tm tj tl) (MA : Mk K a.cAlphabet fA)
    (GA : FnOk P w K mg base (L2.CX P w) 3 fA fdA ["self", "letters", "vowels"] (spAl a.cAlphabet B)) (bA : Binds K fdA ["self", "letters", "vowels"] []) (hB : Hnd K a.cBadSet)
    (M : Mx K a d) (GIW : FnOk P w K mg base (L2.CX P w) 6 a.fDI d.fDI psDI (spInitD (dK a 0) a.cAlphabet a.cBadStage)) (GIO : FnOk P w K mg base (L2.CX P w) 6 a.fDI d.fDI psDI (spInitD (dK a 1) a.cAlphabet a.cBadStage))
    (GIWr : FnOk P w K mg base (L2.CX P w) 6 a.fWI d.fWI ["self", "alphabet", "sign", "name"] (spInit 0 a.cWrite a.cAlphabet a.cBadStage))
    (GIOn : FnOk P w K mg base (L2.CX P w) 6 a.fOI d.fOI ["self", "alphabet", "name"] (spInit 1 a.cOnce a.cAlphabet a.cBadStage))
    (GIAd : FnOk P w K mg base (L2.CX P w) 6 a.fAI d.fAI ["self", "alphabet", "sign"] (spInit 2 a.cAdd a.cAlphabet a.cBadStage))
    (BS : ErrX K a a.cBadStage "what") (GBadText : FnOk P w K mg base CX0 1 a.eBadText d.eBadText ["self", "text"] (spErr a.cBadText "text"))
    (GBadSet : FnOk P w K mg base CX0 1 a.eBadSet d.eBadSet ["self", "name"] (spErr a.cBadSet "name")) (HBadStage : L2H.FnH P w K mg base CX0 1 a.eBadStage d.eBadStage ["self", "what"] (spErr a.cBadStage "what")) (GBadStage : FnOk P w K mg base CX0 1 a.eBadStage d.eBadStage ["self", "what"] (spErr a.cBadStage "what")) :
    FnOk P w K mg base CX0 13 a.aLaw d.dLaw ["_law_script"] (spLaw K) := by
  have GTake : FnOk P w K mg base CX0 1 a.aTake d.dTake ["_law_box_here", "_law_many"] spTake := ok_take T
  have GBox := ok_box (P := P) (w := w) (base := base) T
  have GWorld := ok_world (P := P) (w := w) (base := base) T
  have GText := ok_text (P := P) (w := w) (base := base) T
  have GMembers := ok_members (P := P) (w := w) (base := base) T
  have GWords := ok_dwords (P := P) (w := w) (base := base) T
  have GSpoilt := ok_spoilt (P := P) (w := w) (base := base) T
  have GParts := ok_parts (P := P) (w := w) (base := base) T
  have GWrong := ok_wrong (P := P) (w := w) (base := base) T
  have GDue := ok_due (P := P) (w := w) (base := base) T
  have GRightKind := ok_rightKind (P := P) (w := w) (base := base) T M
  have GPReadDrop := ok_readDrop T AV hB M GIW GIO GBadSet HBadStage GBadStage
  have GPReadStage := ok_readStage T M GPReadDrop GIWr GIOn GIAd GBadStage
  have GRefusal := ok_refusal T BS GPReadStage
  have GObject := ok_object T M GIW GIO GIWr GIOn GIAd
  have GDropStr : FnOk P w K mg base CX0 2 a.aDropStr d.dDropStr ["self"] (spStrD a 0 false) := ok_dropStr T
  have GLastDropStr : FnOk P w K mg base CX0 2 a.aLastDropStr d.dLastDropStr ["self"] (spStrD a 1 true) := ok_lastStr T
  have GWriteStr : FnOk P w K mg base CX0 1 a.aWriteStr d.dWriteStr ["self"] (spStr 0 a.cWrite) := ok_WriteStr T
  have GOnceStr : FnOk P w K mg base CX0 1 a.aOnceStr d.dOnceStr ["self"] (spStr 1 a.cOnce) := ok_OnceStr T
  have GAddStr : FnOk P w K mg base CX0 1 a.aAddStr d.dAddStr ["self"] (spStr 2 a.cAdd) := ok_AddStr T
  have GDropCall := ok_dropCall (P := P) (w := w) (base := base) T z_zip GBadText
  have GLastDropCall := ok_lastCall (P := P) (w := w) (base := base) T GBadText
  have GWriteCall := ok_WriteCall (P := P) (w := w) (base := base) T GBadText
  have GOnceCall := ok_OnceCall (P := P) (w := w) (base := base) T GBadText
  have GAddCall := ok_AddCall (P := P) (w := w) (base := base) T GBadText
  have GAlEq : FnOk P w K mg base CX0 1 a.aAlEq d.dAlEq ["self", "other"] (spEq a.cAlphabet) := ok_eq T.FAlEq T.toTxA A AV.gC
  have hnf := T.eqN
  refine T.FLaw.ok scLaw (fun vs H Q E h => ?_) (fun cdv A0 outer s H vs Q E hr h => ?_)
  · obtain ⟨x, ns, rfl, _⟩ := h
    rfl
  · obtain ⟨x, ns, rfl, hS, hl, k⟩ := h
    refine ⟨_, ((pss_cons (ps_asg (pe_call GWorld (hr.mono (by decide)) (by rfl) T.gWorld T.FWorld.kp T.bWorld .nil pass0 (pa_cons (pe_call GBox (hr.mono (by decide)) (by rfl) T.gBox T.FBox.kp T.bBox .nil pass0 (pa_cons (pv 0) (pa_cons pe_int pa_nil))) (pa_cons pe_int pa_nil))) (pg_tup rfl (pgs_cons (pg_name (i := 1) scLaw.nd rfl (Or.inl rfl)) (pgs_cons (pg_name (i := 2) scLaw.nd rfl (Or.inl rfl)) (pgs_cons (pg_name (i := 3) scLaw.nd rfl (Or.inl rfl)) pgs_nil)))))
      (pss_cons (ps_set (i := 4) scLaw.nd rfl (Or.inl rfl) (pe_make MA GA (hr.mono (by decide)) (by rfl) AV.gC bA .nil passE (pa_cons (pv 1) (pa_cons (pv 2) pa_nil))))
      (pss_cons (ps_set (i := 5) scLaw.nd rfl (Or.inl rfl) (pe_op op_addS (pe_strS (l := [45]) (by decide +kernel)) (pe_join (pe_strS (l := []) (by decide +kernel)) (pe_callB cr_sortedS (by rfl) T.z_sorted (by decide +kernel) (pa_cons (pe_callTy (call_listT rfl) (by rfl) T.z_list (by decide +kernel) (pa_cons (pv 1) pa_nil)) pa_nil)))))
      (pss_cons (ps_set (i := 6) scLaw.nd rfl (Or.inl rfl) (pe_call GBox (hr.mono (by decide)) (by rfl) T.gBox T.FBox.kp T.bBox .nil pass0 (pa_cons (pv 0) (pa_cons pe_int pa_nil))))
      (pss_cons (ps_set (i := 7) scLaw.nd rfl (Or.inl rfl) (pe_lst (pa_cons (pe_call GText (hr.mono (by decide)) (by rfl) T.gText T.FText.kp T.bText .nil pass0 (pa_cons (pv 6) (pa_cons (pv 5) pa_nil))) (pa_cons (pe_call GText (hr.mono (by decide)) (by rfl) T.gText T.FText.kp T.bText .nil pass0 (pa_cons (pv 6) (pa_cons (pv 5) pa_nil))) pa_nil))))
      (pss_cons (ps_for PassesOwn.never rfl (pi_range2 (by rfl) T.z_range (pa_cons pe_int (pa_cons (pe_callB (call_min2 rfl) (by rfl) T.z_min (by decide +kernel) (pa_cons pe_int (pa_cons (pe_callB (call_max2 rfl) (by rfl) T.z_max (by decide +kernel) (pa_cons pe_int (pa_cons (pe_callB call_len_seq (by rfl) T.z_len (by decide +kernel) (pa_cons (pv 0) pa_nil)) pa_nil))) pa_nil))) pa_nil))) (pg_name (i := 8) scLaw.nd rfl (Or.inl rfl)) (pss_cons (ps_set (i := 6) scLaw.nd rfl (Or.inl rfl) (pe_call GBox (hr.mono (by decide)) (by rfl) T.gBox T.FBox.kp T.bBox .nil pass0 (pa_cons (pv 0) (pa_cons (pv 8) pa_nil))))
      (pss_cons (ps_set (i := 9) scLaw.nd rfl (Or.inl rfl) (pe_call GWords (hr.mono (by decide)) (by rfl) T.gWords T.FWords.kp T.bWords .nil pass0 (pa_cons (pv 6) (pa_cons (pv 5) (pa_cons (pv 3) pa_nil)))))
      (pss_cons (ps_set (i := 10) scLaw.nd rfl (Or.inl rfl) (PE.imp (t' := tWr) (pe_op op_addS (pe_join (pe_strS (l := [32]) (by decide +kernel)) (pe_call GSpoilt (hr.mono (by decide)) (by rfl) T.gSpoilt T.FSpoilt.kp T.bSpoilt .nil pass0 (pa_cons (pv 6) (pa_cons (pv 9) pa_nil)))) (pe_ix (r := rIxL K) ix_list (pe_lst (pa_cons (pe_strS (l := []) (by decide +kernel)) (pa_cons (pe_strS (l := [10]) (by decide +kernel)) pa_nil))) (pe_callTy call_int1 (by rfl) T.z_int (by decide +kernel) (pa_cons (pe_cmpR op_eq (pe_call GTake (hr.mono (by decide)) (by rfl) T.gTake T.FTake.kp T.bTake .nil pass0 (pa_cons (pv 6) (pa_cons pe_int pa_nil))) pe_int (nomark _)) pa_nil)) (fun _ _ => rfl))) ?_))
      (pss_cons (ps_set (i := 11) scLaw.nd rfl (Or.inl rfl) (PE.imp (t' := tPa) (pe_call GParts (hr.mono (by decide)) (by rfl) T.gParts T.FParts.kp T.bParts .nil pass0 (pa_cons (pe_split (pv 10) (pe_strS (l := [32]) (by decide +kernel))) pa_nil)) ?_))
      (pss_cons (ps_set (i := 12) scLaw.nd rfl (Or.inl rfl) (pe_call GWrong (hr.mono (by decide)) (by rfl) T.gWrong T.FWrong.kp T.bWrong .nil pass0 (pa_cons (pv 11) (pa_cons (pv 5) pa_nil))))
      (pss_cons (ps_if (pt_cmpR (op_neD hr.units) (pe_call GRefusal (hr.mono (by decide)) (by rfl) T.gRefusal T.FRefusal.kp T.bRefusal .nil pass0 (pa_cons (pv 4) (pa_cons (pv 10) pa_nil))) (pe_tup (pa_cons (pe_cmpR op_ne (pv 12) (pe_strS (l := []) (by decide +kernel)) (nomark _)) (pa_cons (pv 12) pa_nil))) (nomark _)) (pss_one (ps_ret pe_bl)) pss_nil)
      (pss_one (ps_if (pt_cmpR op_eq (pv 12) (pe_strS (l := []) (by decide +kernel)) (nomark _)) (pss_cons (ps_set (i := 13) scLaw.nd rfl (Or.inl rfl) (pe_lst (pa_cons (pe_call GPReadStage (hr.mono (by decide)) (by rfl) T.gPReadStage T.FPReadStage.kp T.bPReadStage .nil passE (pa_cons (pv 4) (pa_cons (pv 10) pa_nil))) (pa_cons (pe_call GObject (hr.mono (by decide)) (by rfl) T.gObject T.FObject.kp T.bObject .nil pass0 (pa_cons (pv 4) (pa_cons (pv 11) pa_nil))) pa_nil))))
      (pss_cons (ps_set (i := 14) scLaw.nd rfl (Or.inl rfl) (pe_call GMembers (hr.mono (by decide)) (by rfl) T.gMembers T.FMembers.kp T.bMembers .nil pass0 (pa_cons (pe_ix (r := rIxT K) ix_tup (pv 11) pe_int (fun _ _ => rfl)) (pa_cons (pv 5) (pa_cons (pv 2) pa_nil)))))
      (pss_cons (ps_for PassesOwn.never rfl (pi_list (pv 13)) (pg_name (i := 15) scLaw.nd rfl (Or.inl rfl)) (pss_one (ps_if (PW.pt (pw_or (pt_not (pt_val (pe_call GRightKind (hr.mono (by decide)) (by rfl) T.gRightKind T.FRightKind.kp T.bRightKind .nil pass0 (pa_cons (pv 15) (pa_cons (pe_ix (r := rIxT K) ix_tup (pv 11) pe_int (fun _ _ => rfl)) pa_nil))))) (pw_or (pt_cmpR op_ne (pe_callTy (callR_either (call_strI T.mDropStr.at_ T.mDropStr.fn (GDropStr.raw T.bDropStr .nil) (hr.mono (by decide)) pass0) (callR_either (call_strI T.mLastDropStr.at_ T.mLastDropStr.fn (GLastDropStr.raw T.bLastDropStr .nil) (hr.mono (by decide)) pass0) (callR_either (call_strI T.mWriteStr.at_ T.mWriteStr.fn (GWriteStr.raw T.bWriteStr .nil) (hr.mono (by decide)) pass0) (callR_either (call_strI T.mOnceStr.at_ T.mOnceStr.fn (GOnceStr.raw T.bOnceStr .nil) (hr.mono (by decide)) pass0) (call_strI T.mAddStr.at_ T.mAddStr.fn (GAddStr.raw T.bAddStr .nil) (hr.mono (by decide)) pass0))))) (by rfl) T.z_str (by decide +kernel) (pa_cons (pv 15) pa_nil)) (pv 10) (nomark _)) (pw_or1 (pt_not (pt_cmpR (op_ownI (fun _ _ => rfl) T.mAlEq.at_ T.mAlEq.fn GAlEq (hr.mono (by decide)) T.bAlEq pass0) (pe_fld (pv 15) rfl) (pv 4) (nomark _))))))) (pss_one (ps_ret pe_bl)) pss_nil)))
      (pss_one (ps_for PassesOwn.never rfl (pi_list (pe_op op_cat (pe_op op_cat (pv 7) (pe_lst (pa_cons (pe_strS (l := []) (by decide +kernel)) pa_nil))) (pv 7))) (pg_name (i := 16) scLaw.nd rfl (Or.inl rfl)) (pss_one (ps_for PassesOwn.never rfl (pi_list (pv 13)) (pg_name (i := 15) scLaw.nd rfl (Or.inl rfl)) (pss_cons (ps_set (i := 17) scLaw.nd rfl (Or.inl rfl) (pe_either (pe_callI (pv 15) T.mDropCall M.fnDrop GDropCall (hr.mono (by decide)) T.bDropCall passEA (pa_cons (pv 16) pa_nil)) (pe_either (pe_callI (pv 15) T.mLastDropCall M.fnLastDrop GLastDropCall (hr.mono (by decide)) T.bLastDropCall passEA (pa_cons (pv 16) pa_nil)) (pe_either (pe_callI (pv 15) T.mWriteCall M.fnWrite GWriteCall (hr.mono (by decide)) T.bWriteCall passEA (pa_cons (pv 16) pa_nil)) (pe_either (pe_callI (pv 15) T.mOnceCall M.fnOnce GOnceCall (hr.mono (by decide)) T.bOnceCall passEA (pa_cons (pv 16) pa_nil)) (pe_callI (pv 15) T.mAddCall M.fnAdd GAddCall (hr.mono (by decide)) T.bAddCall passEA (pa_cons (pv 16) pa_nil)))))))
      (pss_one (ps_if (PW.pt (pw_or (pt_not (pt_val (pe_callB call_isi (by rfl) T.z_isinstance (by decide +kernel) (pa_cons (pv 17) (pa_cons (pe_bltn (v := .ty "str") (by rfl) T.z_str (by decide +kernel) rfl) pa_nil))))) (pw_or1 (pt_cmpR op_ne (pv 17) (pe_call GDue (hr.mono (by decide)) (by rfl) T.gDue T.FDue.kp T.bDue .nil pass0 (pa_cons (pv 11) (pa_cons (pv 14) (pa_cons (pv 16) pa_nil)))) (nomark _))))) (pss_one (ps_ret pe_bl)) pss_nil)))))))))) pss_nil)))))))))
      (pss_one (ps_ret pe_bl))))))))), ?_⟩
    · rintro σ H1 Q1 ⟨b, p, ws, v0, v1, v2, v3, v4, v5, v7, v8, v10, v11, v12, v13, v14, v15, v16, v17, rfl, hB1, hp, hpb, hok, kq⟩
      walk_at "go"
      refine ⟨b, p, ws, rfl, hB1, hp, hpb, hok, fun p2 us H13 hus hune hu8 husum huok hB13 f13 => ?_⟩
      refine ⟨S [32], p2, us.map S, rfl, rfl, .inl (SqL.of (by rw [hus, strV_eq])), join_sum (by omega) (by omega), ?_⟩
      rw [join_sp]
      have hsl := spaced_len us
      have hsk := spaced_ok huok
      generalize spaced us = t at hsl hsk ⊢
      walk_at "go"
      rename_i p3 hp3
      have nb3 : p3 ≠ b := (hB13.ne hp3).symm
      refine ⟨b, 8, rfl, hB13.laid hp3, by decide, by decide, fun r H14 hr1 hB14 f14 => ?_⟩
      have hl3 := f14 p3 _ (by simpa using nb3) upd_same
      have f15 : Fr [b] H1 H14 := Fr.trans f13 (Fr.trans (Fr.upd_new hp3) f14)
      by_cases h7 : (r : Int) = 7
      · walk_at "go"
        rw [show (if decide (V.int (r : Int) = V.int 7) = true then (1 : Int) else 0) = 1 from if_pos (decide_eq_true (by rw [h7]))]
        refine iIxL (SqL.of hl3) (atI_nat (j := 1) rfl) ?_
        refine iAddS (by simp only [List.length_cons, List.length_nil]; omega) ?_
        exact kq (t ++ [10]) H14 (by rw [List.length_append]; simp only [List.length_cons, List.length_nil]; omega) (fun c hc => by
          rcases List.mem_append.mp hc with hc | hc
          · exact hsk c hc
          · rw [List.mem_singleton] at hc
            omega) f15
      · walk_at "go"
        rw [show (if decide (V.int (r : Int) = V.int 7) = true then (1 : Int) else 0) = 0 from if_neg (fun q => h7 (V.int.inj (of_decide_eq_true q)))]
        refine iIxL (SqL.of hl3) (atI_nat (j := 0) rfl) ?_
        refine iAddS (by simp only [List.length_nil]; omega) ?_
        rw [List.append_nil]
        exact kq t H14 (by omega) hsk f15
    · rintro σ H1 Q1 ⟨t, v0, v1, v2, v3, v4, v5, v6, v7, v8, v9, v11, v12, v13, v14, v15, v16, v17, rfl, htl, htc, kq⟩
      have eL : (List.map V.str (Txt.split (S t) (S [32]))) = strV (cut t) := by rw [split_S, ← strV_eq]
      have hcl := cut_len t
      walk_at "go"
      rename_i p3 hp3
      rw [eL]
      refine ⟨p3, cut t, rfl, upd_same, okw_cut htc, by omega, fun hn H2 s2 => ?_, fun pt hpt f H2 hf s2 => ?_⟩
      · have := kq 0 H2 (fun pt h => by rw [hn] at h; cases h) (Vk.Same.trans (Same.upd_new hp3) s2)
        rw [hn] at this
        exact this
      · have := kq f H2 (fun pt' h => by rw [hpt] at h; cases h; exact hf) (Vk.Same.trans (Same.upd_new hp3) s2)
        rw [hpt] at this
        exact this

    walk_at "go"
    refine ⟨x, ns, 0, rfl, hS, hl, by omega, fun b H1 hb hB1 s1 => ?_⟩
    walk_at "go"
    refine ⟨b, 4, rfl, hB1, by decide, by decide, fun t pp l v pool H2 ht hpn htp htb hpb ht2 hpp hper hl1 hl4 hvn hvl hB2 f2 => ?_⟩
    refine ⟨t, _, rfl, SqT.of ht2, rfl, ?_⟩
    refine ⟨_, _, rfl, ?_⟩
    refine iName ?_
    refine ⟨_, _, rfl, ?_⟩
    refine iName ?_
    refine ⟨_, _, rfl, ?_⟩
    refine iName ?_
    refine ⟨rfl, ?_⟩
    walk_at "proj"
    refine iSeq ?_
    refine iAsg ?_
    have hpl := hper.length_eq
    rw [List.length_append, az_len] at hpl
    have hpc : ∀ c ∈ pool, c ∉ 45 :: srtL l ∧ c < 128 := fun c hc => by
      have hz := az_ge c (hper.mem_iff.mp (List.mem_append_right _ hc))
      refine ⟨fun hm => ?_, by omega⟩
      rcases List.mem_cons.mp hm with e | e
      · omega
      · exact (List.nodup_append.mp (hper.nodup_iff.mpr az_nodup)).2.2 c (srtL_mem.mp e) c hc rfl
    have hnd : (l ++ pool).Nodup := hper.nodup_iff.mpr az_nodup
    have hvlen := len_of_sub hvn hvl
    have hld : Differ l azL := ⟨(List.nodup_append.mp hnd).1, fun c hc => hper.mem_iff.mp (List.mem_append_left _ hc)⟩
    have ho : AlOk l v := ⟨hld, hl1, hl4, hvn, hvl⟩
    have hdue : dueT l v = "" := by
      unfold dueT
      rw [if_neg (by
        rintro (h | h | h)
        · omega
        · omega
        · exact h hld), if_neg (fun h => h ⟨hvn, hvl⟩)]
    refine iMakeD (iCons (iVar rfl (iCons (iVar rfl (iNil fun al dxa hal2 hdxa hnea => ?_)))))
    refine ⟨al, dxa, l, v, rfl, upd_same, by omega, by omega, fun _ H3 hA3 hk3 => ⟨rfl, ?_⟩, fun hne => absurd hdue hne⟩
    have s3 : Same H2 H3 := fun c u e => by
      have n1 : c ≠ al := ne_of_none e hal2
      have n2 : c ≠ dxa := ne_of_none e hdxa
      exact hk3 c u n1 (by rw [upd_ne n1, upd_ne n2]; exact e)
    have hpp4 := s3 _ _ hpp
    have s4 : Same H H3 := Vk.Same.trans (Fr.forget1 (Fr.trans (Fr.of_same s1) f2) hb) s3
    have hA4 := hA3
    clear ht2 hpp hB2 f2 hB1 s1 hA3 hk3 s3
    walk_at "go"
    rename_i p1 hp1
    refine ⟨p1, l.map (fun c => S [c]), rfl, SqL.of (by rw [upd_same, List.map_map]; rfl), by rw [List.length_map]; omega, fun ys p2 hp hs n2 => ?_⟩
    rw [← signs_S] at hp
    obtain ⟨bn, e1⟩ := joined (by omega) hp hs
    rw [signs_S] at hp
    have ey := sorted_signs hp hs
    have eE : S [] = PySem.Str.ofString "" := by decide +kernel
    refine ⟨_, p2, ys, rfl, rfl, .inl (SqL.of upd_same), by rw [eE]; exact bn, ?_⟩
    rw [eE, e1, ← eE]
    subst ey
    show rAddS (.str (S [45])) (.str (S (srtL l))) _ _
    refine iAddS (by rw [srtL_len]; simp; omega) ?_
    rw [show [45] ++ srtL l = 45 :: srtL l from rfl]
    have s5 := Vk.Same.trans s4 (Vk.Same.trans (Same.upd_new (o := .lst (l.map fun c => V.str (S [c]))) hp1) (Same.upd_new (o := .lst (((srtL l).map fun c => S [c]).map V.str)) n2))
    have hA5 : IsAl a.cAlphabet (upd (upd H3 p1 (.lst (l.map fun c => V.str (S [c])))) p2 (.lst (((srtL l).map fun c => S [c]).map V.str))) al l v := (hA4.same (Same.upd_new hp1)).same (Same.upd_new n2)
    have hpp5 : (upd (upd H3 p1 (.lst (l.map fun c => V.str (S [c])))) p2 (.lst (((srtL l).map fun c => S [c]).map V.str))) pp = some (.lst (chV pool)) := upd_old n2 (upd_old hp1 hpp4)
    generalize upd (upd H3 p1 (.lst (l.map fun c => V.str (S [c])))) p2 (.lst (((srtL l).map fun c => S [c]).map V.str)) = H5 at s5 hA5 hpp5 ⊢
    have hsl : (45 :: srtL l).length ≤ 5 := by rw [List.length_cons, srtL_len]; omega
    have hsp : 0 < (45 :: srtL l).length := by simp
    clear hA4 hpp4 s4 hp1 n2 hp hs ht hpn htp htb hpb hal2 hdxa hnea
    walk_at "go"
    refine ⟨x, ns, 1, rfl, SqL.upS hS s5, hl, by omega, fun b1 H6 hb1 hB6 s6 => ?_⟩
    walk_at "go"
    refine ⟨b1, 45 :: srtL l, rfl, hB6, hsp, by omega, fun tx0 H7 ht0l ht0c hB7 f7 => ?_⟩
    walk_at "go"
    refine ⟨b1, 45 :: srtL l, rfl, hB7, hsp, by omega, fun tx1 H8 ht1l ht1c hB8 f8 => ?_⟩
    refine iNil ⟨by simp only [List.length_cons, List.length_nil, sizeLine_eq]; omega, fun tl htl => ?_⟩
    have s8 : Same H5 H8 := Fr.forget1 (Fr.trans (Fr.trans (Fr.of_same s6) f7) f8) hb1
    have s9 : Same H (upd H8 tl (.lst [.str (S tx0), .str (S tx1)])) := Vk.Same.trans s5 (Vk.Same.trans s8 (Same.upd_new htl))
    have htx9 : (upd H8 tl (.lst [.str (S tx0), .str (S tx1)])) tl = some (.lst [.str (S tx0), .str (S tx1)]) := upd_same
    have hA9 : IsAl a.cAlphabet (upd H8 tl (.lst [.str (S tx0), .str (S tx1)])) al l v := (hA5.same s8).same (Same.upd_new htl)
    have hpp9 : (upd H8 tl (.lst [.str (S tx0), .str (S tx1)])) pp = some (.lst (chV pool)) := upd_old htl (s8 _ _ hpp5)
    generalize upd H8 tl (.lst [.str (S tx0), .str (S tx1)]) = H9 at s9 htx9 hA9 hpp9 ⊢
    clear hA5 hpp5 s5 s6 hB6 hb1 f7 hB7 f8 hB8 htl s8
    have hsq := SqL.upS hS s9
    clear s9 hS
    walk_at "go"
    have hlm : ((ns.map V.int).length : Int) ≤ 63 := by rw [List.length_map]; omega
    generalize hm : ((if (if ((ns.map V.int).length : Int) > 5 then ((ns.map V.int).length : Int) else 5) < 63 then (if ((ns.map V.int).length : Int) > 5 then ((ns.map V.int).length : Int) else 5) else 63) - 2).toNat = m
    have hm61 : m ≤ 61 := by
      rw [← hm]
      split <;> split <;> omega
    obtain ⟨c1, sr, hsr⟩ : ∃ c1 sr, srtL l = c1 :: sr := by
      rcases e : srtL l with _ | ⟨c1, sr⟩
      · have := srtL_len l
        rw [e] at this
        simp only [List.length_nil] at this
        omega
      · exact ⟨c1, sr, rfl⟩
    have hsrl : sr.length + 1 = l.length := by
      have := srtL_len l
      rw [hsr] at this
      simpa using this
    refine for_R (lo := 2) (n := m) (fun i σ H' => Stop (∃ (v6 v8 v9 v10 v11 v12 v13 v14 v15 v16 v17 : Option V), σ = [some (.ref x), some (.str (S l)), some (.str (S v)), some (.ref pp), some (.ref al), some (.str (S (45 :: srtL l))), v6, some (.ref tl), v8, v9, v10, v11, v12, v13, v14, v15, v16, v17] ∧ Same H9 H')) ⟨_, _, _, _, _, _, _, _, _, _, _, rfl, Same.refl _⟩ ?_ ?_
    · rintro i σ H10 hi ⟨v6, v8, v9, v10, v11, v12, v13, v14, v15, v16, v17, rfl, s10⟩
      walk_at "go"
      refine ⟨x, ns, 2 + i, by rw [show (2 : Int) + (i : Int) = ((2 + i : Nat) : Int) by omega], SqL.upS hsq s10, hl, by omega, fun b H11 hb hB11 s11 => ?_⟩
      walk_at "go"
      have hpp10 := s10 _ _ hpp9
      have hnbp : pp ≠ b := fun e => by rw [e, hb] at hpp10; cases hpp10
      have hdr : Dr H11 b pp 45 c1 sr pool := ⟨hB11, s11 _ _ hpp10, hnbp, by omega, fun c hc => by rcases ho.sg c (by rw [hsr]; exact hc) with e | e <;> omega, by omega, by omega, fun c hc => (hpc c hc).2⟩
      refine ⟨b, pp, 45, c1, sr, pool, by rw [hsr], hdr, fun p ws H12 hpn hw12 hok hB12 f12 => ?_⟩
      walk_at "go"
      refine ⟨b, p, ws, _, _, _, _, _, _, _, _, _, _, _, _, _, _, _, _, rfl, hB12, hw12, (hB11.ne hpn).symm, hok, fun t H13 htl htc f13 => ?_⟩
      have s13 : Same H10 H13 := Fr.forget1 (Fr.trans (Fr.trans (Fr.of_same s11) f12) f13) hb
      clear f13 f12 hB12 hw12 hok hpn hdr hB11 s11
      walk_at "go"
      refine ⟨t, _, _, _, _, _, _, _, _, _, _, _, _, _, _, _, _, _, rfl, htl, htc, fun f H14 hf s14 => ?_⟩
      have s14 := Vk.Same.trans s13 s14
      clear s13
      walk_at "go"
      refine ⟨f, partsP (cut t), l, v, rfl, fun pt hpt => ⟨hf pt hpt, (parts_ok htl htc hpt).k4, (parts_ok htl htc hpt).nl, (parts_ok htl htc hpt).sl⟩, ho, fun H15 s15 => ?_⟩
      have hf := fun pt hpt => (hf pt hpt).same s15
      have s15 := Vk.Same.trans s14 s15
      clear s14
      have hA15 := (hA9.same s10).same s15
      walk_at "go"
      refine ⟨al, l, v, t, rfl, hA15, htl, htc, fun q H16 hq s16 => ?_⟩
      have hf := fun pt hpt => (hf pt hpt).same s16
      have s16 := Vk.Same.trans s15 s16
      clear s15 hA15
      generalize hW : wrongP l v (partsP (cut t)) = W at hq ⊢
      walk_at "go"
      rename_i q2 hq2
      refine iNeBS (b := decide (W ≠ [])) (z := W) (upd_old hq2 hq) (by rw [upd_same, bs_eq]) (by rw [← hW]; exact ok_S (wrongP_ok l v _)) ?_
      have s17 : Same H16 (upd H16 q2 (.tup [.bl (!decide (V.str (S W) = V.str (S []))), .str (S W)])) := Same.upd_new hq2
      generalize upd H16 q2 (.tup [.bl (!decide (V.str (S W) = V.str (S []))), .str (S W)]) = H17 at s17 ⊢
      have hf := fun pt hpt => (hf pt hpt).same s17
      have s17 := Vk.Same.trans s16 s17
      clear s16 hq hq2
      by_cases hW0 : W = []
      · subst hW0
        rcases hpt : partsP (cut t) with _ | pt
        · rw [hpt] at hW
          cases hW
        have hf17 : IsPt H17 f pt := hf pt hpt
        have hok := parts_ok htl htc hpt
        have hw : wrongP l v (some pt) = [] := by rw [← hpt]; exact hW
        have hstr : strP pt = t := (st_words hpt hw).trans (spaced_cut t)
        have hk4 := hok.k4
        clear hf
        dsimp only [ptV]
        have hA17 := (hA9.same s10).same s17
        walk_at "go"
        refine ⟨al, l, v, t, rfl, hA17, htl, htc, fun pt' ms1 g1 g2 g3 p1 H18 hp1 hst1 s18 => ?_, fun z hz hwz => absurd (hwz.symm.trans hW) hz⟩
        obtain rfl : pt = pt' := Option.some.inj (hpt.symm.trans g1)
        have hA18 := hA17.same s18
        have hf18 := hf17.same s18
        walk_at "go"
        refine ⟨al, f, l, v, pt, rfl, hA18, hf18, hok.k4, hok.nl, hok.sl, hok.nc, hok.nn, hok.s3, hw, fun ms2 p2 H19 g4 hp2 hst2 s19 => ?_⟩
        have hst1 := hst1.same s19
        have hA19 := hA18.same s19
        have hf19 := hf18.same s19
        have s19 := Vk.Same.trans s17 (Vk.Same.trans s18 s19)
        clear s18 hA18 hf18 hA17 hf17 s17 hp1 hp2
        refine iNil ⟨by simp only [List.length_cons, List.length_nil, sizeLine_eq]; omega, fun sl hsl => ?_⟩
        have s20 : Same H19 (upd H19 sl (.lst [.ref p1, .ref p2])) := Same.upd_new hsl
        have hsl20 : (upd H19 sl (.lst [.ref p1, .ref p2])) sl = some (.lst [.ref p1, .ref p2]) := upd_same
        generalize upd H19 sl (.lst [.ref p1, .ref p2]) = H20 at s20 hsl20 ⊢
        have hst1 := hst1.same s20
        have hst2 := hst2.same s20
        have hA20 := hA19.same s20
        have hf20 : H20 f = some (.tup [.int (pt.k : Int), .str (S pt.sg), .str (S pt.nm), numV pt.num, .bl pt.j]) := hf19.same s20
        have s20 := Vk.Same.trans s19 s20
        clear s19 hA19 hf19 hsl
        have hnl := hok.nl
        walk_at "go"
        refine ⟨pt.nm, 45 :: srtL l, v, rfl, by omega, by omega, fun H21 s21 => ?_⟩
        have hst1 := hst1.same s21
        have hst2 := hst2.same s21
        have hA21 := hA20.same s21
        have hf21 := s21 _ _ hf20
        have hsl21 := s21 _ _ hsl20
        have s21 := Vk.Same.trans s20 s21
        clear s20 hA20 hf20 hsl20
        have hn3 : pt.k < 2 → numN pt.num ≤ 3 := fun h => wrong_num3 hw h
        have hsg1 := fun h => wrong_sign hw h
        have hnl1 : pt.nm.length ≤ 100 := by omega
        have hsl1 : pt.sg.length ≤ 100 := by have := hok.sl; omega
        have hdig : ∀ n, pt.num = some n → n ∈ digs := fun n hn => by
          by_cases h2 : pt.k < 2
          · exact wrong_digs h2 hw hn
          · rw [hok.nn (by omega)] at hn
            cases hn
        have d1 : ∀ u, dueP pt ms1 u = dueP pt (memL (45 :: srtL l) v pt.nm) u := fun u => due_ms ho g3 hk4
        have d2 : ∀ u, dueP pt ms2 u = dueP pt (memL (45 :: srtL l) v pt.nm) u := fun u => due_ms ho g4 hk4
        have hsts : ∀ y, y ∈ [V.ref p1, V.ref p2] → ∃ ms p, y = .ref p ∧ IsSt a H21 al ms pt p ∧ ∀ u, dueP pt ms u = dueP pt (memL (45 :: srtL l) v pt.nm) u := fun y hy => by
          rcases List.mem_cons.mp hy with rfl | hy
          · exact ⟨ms1, p1, rfl, hst1, d1⟩
          · rw [List.mem_singleton] at hy
            exact ⟨ms2, p2, hy, hst2, d2⟩
        have hnal := T.nal hk4
        have hclk := (M.ob pt.k (by omega)).cl
        have et : AlEq l v l v = true := by
          unfold AlEq
          rw [decide_eq_true rfl, decide_eq_true rfl]
          rfl
        have htx21 := (Vk.Same.trans s10 s21) _ _ htx9
        clear hst1 hst2 d1 d2 g3 g4
        walk_at "go"
        refine for_L (xs := [.ref p1, .ref p2]) (fun i2 σ H' => Stop (∃ (w15 : Option V), σ = [some (.ref x), some (.str (S l)), some (.str (S v)), some (.ref pp), some (.ref al), some (.str (S (45 :: srtL l))), some (.ref b), some (.ref tl), some (.int (2 + (i : Int))), some (.ref p), some (.str (S t)), some (.ref f), some (.str (S [])), some (.ref sl), some (.str (S (memL (45 :: srtL l) v pt.nm))), w15, v16, v17] ∧ Same H21 H')) ⟨_, rfl, Same.refl _⟩ ?_ ?_ ?_
        · rintro i2 σ H' _ ⟨w15, rfl, s22⟩
          exact SqL.of (s22 _ _ hsl21)
        · rintro i2 y σ H22 hy ⟨w15, rfl, s22⟩
          obtain ⟨ms, p3, rfl, hst, _⟩ := hsts y (List.mem_of_getElem? hy)
          have hst := hst.same s22
          obtain ⟨dx, rest, hp3⟩ := hst.al hk4
          have hf22 := s22 _ _ hf21
          clear hy
          walk_at "go"
          refine ⟨p3, dx, _, pt.k, rfl, hk4, hp3, fun H23 s23 => ?_⟩
          walk_at "go"
          refine str_St hk4 hn3 hnl1 hsl1 (hst.same s23) (fun H24 s24 => ?_)
          rw [hstr]
          have s24 := Vk.Same.trans s23 s24
          have hp24 := s24 _ _ hp3
          have hA24 := (hA21.same s22).same s24
          obtain ⟨dxa, hA25⟩ := id hA24
          walk_at "go"
          refine ⟨al, dxa, _, al, _, dxa, _, rfl, rfl, hA25, hA25, hnf, al, al, l, v, l, v, rfl, hA24, hA24, ?_⟩
          rw [et]
          walk_at "go"
          exact ⟨_, rfl, Vk.Same.trans s22 s24⟩
        · rintro σ H22 ⟨w15, rfl, s22⟩
          have htx22 := s22 _ _ htx21
          walk_at "go"
          rename_i q1 hq1 q2 hq2 q3 hq3
          have s23 : Same H22 (upd (upd (upd H22 q1 (.lst [.str (S [])])) q2 (.lst ([.str (S tx0), .str (S tx1)] ++ [.str (S [])]))) q3 (.lst ([.str (S tx0), .str (S tx1)] ++ [.str (S [])] ++ [.str (S tx0), .str (S tx1)]))) := Vk.Same.trans (Vk.Same.trans (Same.upd_new hq1) (Same.upd_new hq2)) (Same.upd_new hq3)
          have hq23 : (upd (upd (upd H22 q1 (.lst [.str (S [])])) q2 (.lst ([.str (S tx0), .str (S tx1)] ++ [.str (S [])]))) q3 (.lst ([.str (S tx0), .str (S tx1)] ++ [.str (S [])] ++ [.str (S tx0), .str (S tx1)]))) q3 = some (.lst ([tx0, tx1, [], tx0, tx1].map fun z => V.str (S z))) := upd_same
          generalize (upd (upd (upd H22 q1 (.lst [.str (S [])])) q2 (.lst ([.str (S tx0), .str (S tx1)] ++ [.str (S [])]))) q3 (.lst ([.str (S tx0), .str (S tx1)] ++ [.str (S [])] ++ [.str (S tx0), .str (S tx1)]))) = H23 at s23 hq23 ⊢
          have s23 := Vk.Same.trans s22 s23
          clear hq1 hq2 hq3 s22
          have htok : ∀ u ∈ [tx0, tx1, [], tx0, tx1], u.length ≤ 60 ∧ ∀ c ∈ u, c ∈ 45 :: srtL l := fun u hu => by
            simp only [List.mem_cons, List.not_mem_nil, or_false] at hu
            rcases hu with rfl | rfl | rfl | rfl | rfl
            · exact ⟨ht0l, ht0c⟩
            · exact ⟨ht1l, ht1c⟩
            · exact ⟨by simp, fun c hc => by cases hc⟩
            · exact ⟨ht0l, ht0c⟩
            · exact ⟨ht1l, ht1c⟩
          refine for_L (xs := [tx0, tx1, [], tx0, tx1].map fun z => V.str (S z)) (fun i3 σ H' => Stop (∃ (w15 w16 w17 : Option V), σ = [some (.ref x), some (.str (S l)), some (.str (S v)), some (.ref pp), some (.ref al), some (.str (S (45 :: srtL l))), some (.ref b), some (.ref tl), some (.int (2 + (i : Int))), some (.ref p), some (.str (S t)), some (.ref f), some (.str (S [])), some (.ref sl), some (.str (S (memL (45 :: srtL l) v pt.nm))), w15, w16, w17] ∧ Same H23 H')) ⟨_, _, _, rfl, Same.refl _⟩ ?_ ?_ ?_
          · rintro i3 σ H' _ ⟨w15, w16, w17, rfl, s24⟩
            exact SqL.of (s24 _ _ hq23)
          · rintro i3 y σ H24 hy ⟨w15, w16, w17, rfl, s24a⟩
            obtain ⟨u, hum, rfl⟩ := List.mem_map.mp (List.mem_of_getElem? hy)
            obtain ⟨hul, huc⟩ := htok u hum
            have s24 := Vk.Same.trans s23 s24a
            have hsl24 := s24 _ _ hsl21
            have htx : Tx u := ⟨by omega, fun c hc => by rcases ho.sg c (huc c hc) with e | e <;> omega⟩
            clear hy hum
            walk_at "go"
            refine for_L (xs := [.ref p1, .ref p2]) (fun i4 σ H' => Stop (∃ (w15 w17 : Option V), σ = [some (.ref x), some (.str (S l)), some (.str (S v)), some (.ref pp), some (.ref al), some (.str (S (45 :: srtL l))), some (.ref b), some (.ref tl), some (.int (2 + (i : Int))), some (.ref p), some (.str (S t)), some (.ref f), some (.str (S [])), some (.ref sl), some (.str (S (memL (45 :: srtL l) v pt.nm))), w15, some (.str (S u)), w17] ∧ Same H24 H')) ⟨_, _, rfl, Same.refl _⟩ ?_ ?_ ?_
            · rintro i4 σ H' _ ⟨w15, w17, rfl, s25⟩
              exact SqL.of (s25 _ _ hsl24)
            · rintro i4 y σ H25 hy ⟨w15, w17, rfl, s25⟩
              obtain ⟨ms, p3, rfl, hst, hdm⟩ := hsts y (List.mem_of_getElem? hy)
              have s26 := Vk.Same.trans s24 s25
              have hst := hst.same s26
              have hA26 := hA21.same s26
              clear hy
              walk_at "go"
              refine call_St (i := 15) (k := 16) rfl rfl hk4 hn3 hsg1 hok.s3 hA26 htx huc hst (fun H27 s27 => ?_)
              rw [hdm]
              have hf27 := s27 _ _ (s26 _ _ hf21)
              walk_at "go"
              refine ⟨f, pt, memL (45 :: srtL l) v pt.nm, u, rfl, hf27, hk4, hok.nn, hdig, hsg1, by omega, fun H28 s28 => ?_⟩
              walk_at "go"
              exact ⟨_, _, rfl, Vk.Same.trans (Vk.Same.trans s25 s27) s28⟩
            · rintro σ H25 ⟨w15, w17, rfl, s25⟩
              exact ⟨_, _, _, rfl, Vk.Same.trans s24a s25⟩
          · rintro σ H24 ⟨w15, w16, w17, rfl, s24⟩
            exact ⟨_, _, _, _, _, _, _, _, _, _, _, rfl, Vk.Same.trans s10 (Vk.Same.trans s21 (Vk.Same.trans s23 s24))⟩
      · walk_at "go"
        exact ⟨_, _, _, _, _, _, _, _, _, _, _, rfl, Vk.Same.trans s10 s17⟩
    · rintro σ H10 ⟨v6, v8, v9, v10, v11, v12, v13, v14, v15, v16, v17, rfl, s10⟩
      walk_at "go"
      exact k _
end
end
section
set_option Elab.async false
set_option linter.all false
set_option maxRecDepth 100000
set_option maxHeartbeats 8000000
open PySem PySem.Spec PyProof.Rows L2
theorem find_of_cls {K : PySem.W.Frag} {C : Addr} {cd : ClassData} {name : Str} (h : PySem.W.clsIn K C = some cd) : PySem.W.findIn K (.ref C) name = PySem.W.alongIn K name cd.mro := by
  unfold PySem.W.clsIn at h
  split at h
  · rename_i ho
    cases h
    unfold PySem.W.findIn
    simp only [ho]
  · cases h
theorem kit_of {K : PySem.W.Frag} {t c : Addr} {b : Bool} (hc : PySem.W.isClsIn K c = true) (ht : PySem.W.typeIn K (.ref c) = some (.type "type")) (hs : PySem.W.subIn K (.ref t) (.ref c) = some b) (hcc : PySem.W.subIn K (.ref c) (.ref c) = some true) : PySem.W.kitOne K (.ref t) (.ref c) = some b := by
  have h1 : (PySem.W.clsIn K c).isSome = true := hc
  unfold PySem.W.kitOne
  by_cases e : (Value.ref t == Value.ref c) = true
  · rw [if_pos e]
    have e2 : Value.ref t = Value.ref c := eq_of_beq e
    rw [e2, hcc] at hs
    exact hs
  · rw [if_neg e]
    show (if ((PySem.W.clsIn K c).isSome && PySem.W.typeIn K (.ref c) == some (.type "type")) = true then PySem.W.subIn K (.ref t) (.ref c) else none) = _
    rw [h1, ht, if_pos (by rfl), hs]
theorem all_mk {l : PySem.W.OpenLaw} {w : World} {K : PySem.W.Frag} {h : Heap} {mg : Str → Option Value} {fa : Addr} (X : K.In h) (G : h.Ns mainGlobals mg) (hfa : mg "law" = some (.ref fa))
    {fDiff fPCheckSign fPSignsOfSet fPNumberAfter fPIsDropped fPMarked fPDropWords fPReadDrop fPReadStage fBox fTake fWorld fName fMembers fText fSignWord fSetWord fNumberWord fWords fSpoilt fParts fIsSet fWrong fRefusal fObject fDue fRightKind fLaw C CS CW CO CR CN CD fAsc fIsSign fSignsOf fIsText fCheck fDropCall fDropStr fLastDropCall fLastDropStr fWriteCall fWriteStr fOnceCall fOnceStr fAddCall fAddStr fAlEq fSI fDI ccDI cdaDI kD fWI ccWI cdaWI fOI ccOI cdaOI fAI ccAI cdaAI TDA fA TE BA fBA ccBA cdaBA BT fBT ccBT cdaBT BN fBN ccBN cdaBN BS fBS ccBS cdaBS : Addr} {odDiff anDiff odPCheckSign anPCheckSign odPSignsOfSet anPSignsOfSet odPNumberAfter anPNumberAfter odPIsDropped anPIsDropped odPMarked anPMarked odPDropWords anPDropWords odPReadDrop anPReadDrop odPReadStage anPReadStage odBox anBox odTake anTake odWorld anWorld odName anName odMembers anMembers odText anText odSignWord anSignWord odSetWord anSetWord odNumberWord anNumberWord odWords anWords odSpoilt anSpoilt odParts anParts odIsSet anIsSet odWrong anWrong odRefusal anRefusal odObject anObject odDue anDue odRightKind anRightKind odLaw anLaw odAsc anAsc odIsSign anIsSign odSignsOf anSignsOf odIsText anIsText odCheck anCheck odDropCall anDropCall odDropStr anDropStr odLastDropCall anLastDropCall odLastDropStr anLastDropStr odWriteCall anWriteCall odWriteStr anWriteStr odOnceCall anOnceCall odOnceStr anOnceStr odAddCall anAddCall odAddStr anAddStr odAlEq anAlEq odSI anSI odDI anDI ddccDI ddcdDI odWI anWI ddccWI ddcdWI odOI anOI ddccOI ddcdOI odAI anAI ddccAI ddcdAI odA anA odBA anBA ddccBA ddcdBA odBT anBT ddccBT ddcdBT odBN anBN ddccBN ddcdBN odBS anBS ddccBS ddcdBS : Option Addr} {slDiff slPCheckSign slPSignsOfSet slPNumberAfter slPIsDropped slPMarked slPDropWords slPReadDrop slPReadStage slBox slTake slWorld slName slMembers slText slSignWord slSetWord slNumberWord slWords slSpoilt slParts slIsSet slWrong slRefusal slObject slDue slRightKind slLaw slAsc slIsSign slSignsOf slIsText slCheck slDropCall slDropStr slLastDropCall slLastDropStr slWriteCall slWriteStr slOnceCall slOnceStr slAddCall slAddStr slAlEq slSI slDI slccDI slcdDI slWI slccWI slcdWI slOI slccOI slcdOI slAI slccAI slcdAI slA slBA slccBA slcdBA slBT slccBT slcdBT slBN slccBN slcdBN slBS slccBS slcdBS : Array (Option Value)} {ocDiff kVDiff dcDiff pmDiff cdDiff ctDiff ocPCheckSign kVPCheckSign dcPCheckSign pmPCheckSign cdPCheckSign ctPCheckSign ocPSignsOfSet kVPSignsOfSet dcPSignsOfSet pmPSignsOfSet cdPSignsOfSet ctPSignsOfSet ocPNumberAfter kVPNumberAfter dcPNumberAfter pmPNumberAfter cdPNumberAfter ctPNumberAfter ocPIsDropped kVPIsDropped dcPIsDropped pmPIsDropped cdPIsDropped ctPIsDropped ocPMarked kVPMarked dcPMarked pmPMarked cdPMarked ctPMarked ocPDropWords kVPDropWords dcPDropWords pmPDropWords cdPDropWords ctPDropWords ocPReadDrop kVPReadDrop dcPReadDrop pmPReadDrop cdPReadDrop ctPReadDrop ocPReadStage kVPReadStage dcPReadStage pmPReadStage cdPReadStage ctPReadStage ocBox kVBox dcBox pmBox cdBox ctBox ocTake kVTake dcTake pmTake cdTake ctTake ocWorld kVWorld dcWorld pmWorld cdWorld ctWorld ocName kVName dcName pmName cdName ctName ocMembers kVMembers dcMembers pmMembers cdMembers ctMembers ocText kVText dcText pmText cdText ctText ocSignWord kVSignWord dcSignWord pmSignWord cdSignWord ctSignWord ocSetWord kVSetWord dcSetWord pmSetWord cdSetWord ctSetWord ocNumberWord kVNumberWord dcNumberWord pmNumberWord cdNumberWord ctNumberWord ocWords kVWords dcWords pmWords cdWords ctWords ocSpoilt kVSpoilt dcSpoilt pmSpoilt cdSpoilt ctSpoilt ocParts kVParts dcParts pmParts cdParts ctParts ocIsSet kVIsSet dcIsSet pmIsSet cdIsSet ctIsSet ocWrong kVWrong dcWrong pmWrong cdWrong ctWrong ocRefusal kVRefusal dcRefusal pmRefusal cdRefusal ctRefusal ocObject kVObject dcObject pmObject cdObject ctObject ocDue kVDue dcDue pmDue cdDue ctDue ocRightKind kVRightKind dcRightKind pmRightKind cdRightKind ctRightKind ocLaw kVLaw dcLaw pmLaw cdLaw ctLaw ocAsc kVAsc dcAsc pmAsc cdAsc ctAsc ocIsSign kVIsSign dcIsSign pmIsSign cdIsSign ctIsSign ocSignsOf kVSignsOf dcSignsOf pmSignsOf cdSignsOf ctSignsOf ocIsText kVIsText dcIsText pmIsText cdIsText ctIsText ocCheck kVCheck dcCheck pmCheck cdCheck ctCheck ocDropCall kVDropCall dcDropCall pmDropCall cdDropCall ctDropCall ocDropStr kVDropStr dcDropStr pmDropStr cdDropStr ctDropStr ocLastDropCall kVLastDropCall dcLastDropCall pmLastDropCall cdLastDropCall ctLastDropCall ocLastDropStr kVLastDropStr dcLastDropStr pmLastDropStr cdLastDropStr ctLastDropStr ocWriteCall kVWriteCall dcWriteCall pmWriteCall cdWriteCall ctWriteCall ocWriteStr kVWriteStr dcWriteStr pmWriteStr cdWriteStr ctWriteStr ocOnceCall kVOnceCall dcOnceCall pmOnceCall cdOnceCall ctOnceCall ocOnceStr kVOnceStr dcOnceStr pmOnceStr cdOnceStr ctOnceStr ocAddCall kVAddCall dcAddCall pmAddCall cdAddCall ctAddCall ocAddStr kVAddStr dcAddStr pmAddStr cdAddStr ctAddStr ocAlEq kVAlEq dcAlEq pmAlEq cdAlEq ctAlEq ocSI kVSI dcSI pmSI cdSI ctSI ocDI dcDI pmDI ctDI clccDI clcdDI ocWI kVWI dcWI pmWI ctWI clccWI clcdWI ocOI kVOI dcOI pmOI ctOI clccOI clcdOI ocAI kVAI dcAI pmAI ctAI clccAI clcdAI ocA kVA dcA pmA cdA ctA ocBA kVBA dcBA pmBA ctBA clccBA clcdBA ocBT kVBT dcBT pmBT ctBT clccBT clcdBT ocBN kVBN dcBN pmBN ctBN clccBN clcdBN ocBS kVBS dcBS pmBS ctBS clccBS clcdBS : Value} {tM tJ tl tj2 tMost tk0 : Tok} {vsCDI : Array Value} {flDI : Str} {tfDI : Tok} {vsCWI : Array Value} {flWI : Str} {tfWI : Tok} {vsCOI : Array Value} {flOI : Str} {tfOI : Tok} {vsCAI : Array Value} {flAI : Str} {tfAI : Tok} {nDA : Nat} {odDA : Option Addr} {slDA : Array (Option Value)} {ocDA : Value} {tDA : Tok} {vsCBA : Array Value} {flBA : Str} {tfBA : Tok} {vsCBT : Array Value} {flBT : Str} {tfBT : Tok} {vsCBN : Array Value} {flBN : Str} {tfBN : Tok} {vsCBS : Array Value} {flBS : Str} {tfBS : Tok}
    {nmCS qCS : Str} {bsCS subCS : List Value} {NCS : Addr} {snCS : List Str} {hdCSx abCS dlCS : Bool} {colCS : Option Bool}
    {nmCW qCW : Str} {bsCW subCW : List Value} {NCW : Addr} {snCW : List Str} {hdCWx abCW dlCW : Bool} {colCW : Option Bool}
    {nmCO qCO : Str} {bsCO subCO : List Value} {NCO : Addr} {snCO : List Str} {hdCOx abCO dlCO : Bool} {colCO : Option Bool}
    {nmCR qCR : Str} {bsCR subCR : List Value} {NCR : Addr} {snCR : List Str} {hdCRx abCR dlCR : Bool} {colCR : Option Bool}
    {nmCN qCN : Str} {bsCN subCN : List Value} {NCN : Addr} {snCN : List Str} {hdCNx abCN dlCN : Bool} {colCN : Option Bool}
    {nmCD qCD : Str} {bsCD subCD : List Value} {NCD : Addr} {snCD : List Str} {hdCDx abCD dlCD : Bool} {colCD : Option Bool}
    {nmTE qTE : Str} {NTE : Addr} {bsTE : List Value} {snTE : List Str} {subTE : List Value} {abTE : Bool} {colTE : Option Bool} {ddTE : Option Addr} {m0TE m1TE m2TE m3TE m5TE : Option Value}
    {nmBA qBA : Str} {NBA : Addr} {bsBA : List Value} {snBA : List Str} {subBA : List Value} {abBA : Bool} {colBA : Option Bool} {ddBA : Option Addr} {m0BA m1BA m2BA m3BA m5BA : Option Value}
    {nmBT qBT : Str} {NBT : Addr} {bsBT : List Value} {snBT : List Str} {subBT : List Value} {abBT : Bool} {colBT : Option Bool} {ddBT : Option Addr} {m0BT m1BT m2BT m3BT m5BT : Option Value}
    {nmBN qBN : Str} {NBN : Addr} {bsBN : List Value} {snBN : List Str} {subBN : List Value} {abBN : Bool} {colBN : Option Bool} {ddBN : Option Addr} {m0BN m1BN m2BN m3BN m5BN : Option Value}
    {nmBS qBS : Str} {NBS : Addr} {bsBS : List Value} {snBS : List Str} {subBS : List Value} {abBS : Bool} {colBS : Option Bool} {ddBS : Option Addr} {m0BS m1BS m2BS m3BS m5BS : Option Value}
    (lDiff : K.lookup fDiff = some ⟨ocDiff, odDiff, .func (PySem.W.fnOf "differ_within" "differ_within" (defArgs sDiff) (defBody sDiff) (defScope sDiff) .none kVDiff dcDiff pmDiff anDiff cdDiff ctDiff), slDiff⟩)
    (cDiff : PySem.W.codeIn K cdDiff "differ_within" = true)
    (aDiff : PySem.W.nsIn K mainGlobals "differ_within" = some (some (.ref fDiff)))
    (kDiff : PySem.W.keepIn K (.ref fDiff) = true)
    (lPCheckSign : K.lookup fPCheckSign = some ⟨ocPCheckSign, odPCheckSign, .func (PySem.W.fnOf "check_sign" "check_sign" (defArgs sPCheckSign) (defBody sPCheckSign) (defScope sPCheckSign) .none kVPCheckSign dcPCheckSign pmPCheckSign anPCheckSign cdPCheckSign ctPCheckSign), slPCheckSign⟩)
    (cPCheckSign : PySem.W.codeIn K cdPCheckSign "check_sign" = true)
    (aPCheckSign : PySem.W.nsIn K mainGlobals "check_sign" = some (some (.ref fPCheckSign)))
    (kPCheckSign : PySem.W.keepIn K (.ref fPCheckSign) = true)
    (lPSignsOfSet : K.lookup fPSignsOfSet = some ⟨ocPSignsOfSet, odPSignsOfSet, .func (PySem.W.fnOf "signs_of_set" "signs_of_set" (defArgs sPSignsOfSet) (defBody sPSignsOfSet) (defScope sPSignsOfSet) .none kVPSignsOfSet dcPSignsOfSet pmPSignsOfSet anPSignsOfSet cdPSignsOfSet ctPSignsOfSet), slPSignsOfSet⟩)
    (cPSignsOfSet : PySem.W.codeIn K cdPSignsOfSet "signs_of_set" = true)
    (aPSignsOfSet : PySem.W.nsIn K mainGlobals "signs_of_set" = some (some (.ref fPSignsOfSet)))
    (kPSignsOfSet : PySem.W.keepIn K (.ref fPSignsOfSet) = true)
    (lPNumberAfter : K.lookup fPNumberAfter = some ⟨ocPNumberAfter, odPNumberAfter, .func (PySem.W.fnOf "number_after" "number_after" (defArgs sPNumberAfter) (defBody sPNumberAfter) (defScope sPNumberAfter) .none kVPNumberAfter dcPNumberAfter pmPNumberAfter anPNumberAfter cdPNumberAfter ctPNumberAfter), slPNumberAfter⟩)
    (cPNumberAfter : PySem.W.codeIn K cdPNumberAfter "number_after" = true)
    (aPNumberAfter : PySem.W.nsIn K mainGlobals "number_after" = some (some (.ref fPNumberAfter)))
    (kPNumberAfter : PySem.W.keepIn K (.ref fPNumberAfter) = true)
    (lPIsDropped : K.lookup fPIsDropped = some ⟨ocPIsDropped, odPIsDropped, .func (PySem.W.fnOf "is_dropped" "is_dropped" (defArgs sPIsDropped) (defBody sPIsDropped) (defScope sPIsDropped) .none kVPIsDropped dcPIsDropped pmPIsDropped anPIsDropped cdPIsDropped ctPIsDropped), slPIsDropped⟩)
    (cPIsDropped : PySem.W.codeIn K cdPIsDropped "is_dropped" = true)
    (aPIsDropped : PySem.W.nsIn K mainGlobals "is_dropped" = some (some (.ref fPIsDropped)))
    (kPIsDropped : PySem.W.keepIn K (.ref fPIsDropped) = true)
    (lPMarked : K.lookup fPMarked = some ⟨ocPMarked, odPMarked, .func (PySem.W.fnOf "marked" "marked" (defArgs sPMarked) (defBody sPMarked) (defScope sPMarked) .none kVPMarked dcPMarked pmPMarked anPMarked cdPMarked ctPMarked), slPMarked⟩)
    (cPMarked : PySem.W.codeIn K cdPMarked "marked" = true)
    (aPMarked : PySem.W.nsIn K mainGlobals "marked" = some (some (.ref fPMarked)))
    (kPMarked : PySem.W.keepIn K (.ref fPMarked) = true)
    (lPDropWords : K.lookup fPDropWords = some ⟨ocPDropWords, odPDropWords, .func (PySem.W.fnOf "drop_words" "drop_words" (defArgs sPDropWords) (defBody sPDropWords) (defScope sPDropWords) .none kVPDropWords dcPDropWords pmPDropWords anPDropWords cdPDropWords ctPDropWords), slPDropWords⟩)
    (cPDropWords : PySem.W.codeIn K cdPDropWords "drop_words" = true)
    (aPDropWords : PySem.W.nsIn K mainGlobals "drop_words" = some (some (.ref fPDropWords)))
    (kPDropWords : PySem.W.keepIn K (.ref fPDropWords) = true)
    (lPReadDrop : K.lookup fPReadDrop = some ⟨ocPReadDrop, odPReadDrop, .func (PySem.W.fnOf "read_drop" "read_drop" (defArgs sPReadDrop) (defBody sPReadDrop) (defScope sPReadDrop) .none kVPReadDrop dcPReadDrop pmPReadDrop anPReadDrop cdPReadDrop ctPReadDrop), slPReadDrop⟩)
    (cPReadDrop : PySem.W.codeIn K cdPReadDrop "read_drop" = true)
    (aPReadDrop : PySem.W.nsIn K mainGlobals "read_drop" = some (some (.ref fPReadDrop)))
    (kPReadDrop : PySem.W.keepIn K (.ref fPReadDrop) = true)
    (lPReadStage : K.lookup fPReadStage = some ⟨ocPReadStage, odPReadStage, .func (PySem.W.fnOf "read_stage" "read_stage" (defArgs sPReadStage) (defBody sPReadStage) (defScope sPReadStage) .none kVPReadStage dcPReadStage pmPReadStage anPReadStage cdPReadStage ctPReadStage), slPReadStage⟩)
    (cPReadStage : PySem.W.codeIn K cdPReadStage "read_stage" = true)
    (aPReadStage : PySem.W.nsIn K mainGlobals "read_stage" = some (some (.ref fPReadStage)))
    (kPReadStage : PySem.W.keepIn K (.ref fPReadStage) = true)
    (lBox : K.lookup fBox = some ⟨ocBox, odBox, .func (PySem.W.fnOf "_law_box" "_law_box" (defArgs sBox) (defBody sBox) (defScope sBox) .none kVBox dcBox pmBox anBox cdBox ctBox), slBox⟩)
    (cBox : PySem.W.codeIn K cdBox "_law_box" = true)
    (aBox : PySem.W.nsIn K mainGlobals "_law_box" = some (some (.ref fBox)))
    (kBox : PySem.W.keepIn K (.ref fBox) = true)
    (lTake : K.lookup fTake = some ⟨ocTake, odTake, .func (PySem.W.fnOf "_law_take" "_law_take" (defArgs sTake) (defBody sTake) (defScope sTake) .none kVTake dcTake pmTake anTake cdTake ctTake), slTake⟩)
    (cTake : PySem.W.codeIn K cdTake "_law_take" = true)
    (aTake : PySem.W.nsIn K mainGlobals "_law_take" = some (some (.ref fTake)))
    (kTake : PySem.W.keepIn K (.ref fTake) = true)
    (lWorld : K.lookup fWorld = some ⟨ocWorld, odWorld, .func (PySem.W.fnOf "_law_world" "_law_world" (defArgs sWorld) (defBody sWorld) (defScope sWorld) .none kVWorld dcWorld pmWorld anWorld cdWorld ctWorld), slWorld⟩)
    (cWorld : PySem.W.codeIn K cdWorld "_law_world" = true)
    (aWorld : PySem.W.nsIn K mainGlobals "_law_world" = some (some (.ref fWorld)))
    (kWorld : PySem.W.keepIn K (.ref fWorld) = true)
    (lName : K.lookup fName = some ⟨ocName, odName, .func (PySem.W.fnOf "_law_name" "_law_name" (defArgs sName) (defBody sName) (defScope sName) .none kVName dcName pmName anName cdName ctName), slName⟩)
    (cName : PySem.W.codeIn K cdName "_law_name" = true)
    (aName : PySem.W.nsIn K mainGlobals "_law_name" = some (some (.ref fName)))
    (kName : PySem.W.keepIn K (.ref fName) = true)
    (lMembers : K.lookup fMembers = some ⟨ocMembers, odMembers, .func (PySem.W.fnOf "_law_members" "_law_members" (defArgs sMembers) (defBody sMembers) (defScope sMembers) .none kVMembers dcMembers pmMembers anMembers cdMembers ctMembers), slMembers⟩)
    (cMembers : PySem.W.codeIn K cdMembers "_law_members" = true)
    (aMembers : PySem.W.nsIn K mainGlobals "_law_members" = some (some (.ref fMembers)))
    (kMembers : PySem.W.keepIn K (.ref fMembers) = true)
    (lText : K.lookup fText = some ⟨ocText, odText, .func (PySem.W.fnOf "_law_text" "_law_text" (defArgs sText) (defBody sText) (defScope sText) .none kVText dcText pmText anText cdText ctText), slText⟩)
    (cText : PySem.W.codeIn K cdText "_law_text" = true)
    (aText : PySem.W.nsIn K mainGlobals "_law_text" = some (some (.ref fText)))
    (kText : PySem.W.keepIn K (.ref fText) = true)
    (lSignWord : K.lookup fSignWord = some ⟨ocSignWord, odSignWord, .func (PySem.W.fnOf "_law_sign_word" "_law_sign_word" (defArgs sSignWord) (defBody sSignWord) (defScope sSignWord) .none kVSignWord dcSignWord pmSignWord anSignWord cdSignWord ctSignWord), slSignWord⟩)
    (cSignWord : PySem.W.codeIn K cdSignWord "_law_sign_word" = true)
    (aSignWord : PySem.W.nsIn K mainGlobals "_law_sign_word" = some (some (.ref fSignWord)))
    (kSignWord : PySem.W.keepIn K (.ref fSignWord) = true)
    (lSetWord : K.lookup fSetWord = some ⟨ocSetWord, odSetWord, .func (PySem.W.fnOf "_law_set_word" "_law_set_word" (defArgs sSetWord) (defBody sSetWord) (defScope sSetWord) .none kVSetWord dcSetWord pmSetWord anSetWord cdSetWord ctSetWord), slSetWord⟩)
    (cSetWord : PySem.W.codeIn K cdSetWord "_law_set_word" = true)
    (aSetWord : PySem.W.nsIn K mainGlobals "_law_set_word" = some (some (.ref fSetWord)))
    (kSetWord : PySem.W.keepIn K (.ref fSetWord) = true)
    (lNumberWord : K.lookup fNumberWord = some ⟨ocNumberWord, odNumberWord, .func (PySem.W.fnOf "_law_number_word" "_law_number_word" (defArgs sNumberWord) (defBody sNumberWord) (defScope sNumberWord) .none kVNumberWord dcNumberWord pmNumberWord anNumberWord cdNumberWord ctNumberWord), slNumberWord⟩)
    (cNumberWord : PySem.W.codeIn K cdNumberWord "_law_number_word" = true)
    (aNumberWord : PySem.W.nsIn K mainGlobals "_law_number_word" = some (some (.ref fNumberWord)))
    (kNumberWord : PySem.W.keepIn K (.ref fNumberWord) = true)
    (lWords : K.lookup fWords = some ⟨ocWords, odWords, .func (PySem.W.fnOf "_law_words" "_law_words" (defArgs sWords) (defBody sWords) (defScope sWords) .none kVWords dcWords pmWords anWords cdWords ctWords), slWords⟩)
    (cWords : PySem.W.codeIn K cdWords "_law_words" = true)
    (aWords : PySem.W.nsIn K mainGlobals "_law_words" = some (some (.ref fWords)))
    (kWords : PySem.W.keepIn K (.ref fWords) = true)
    (lSpoilt : K.lookup fSpoilt = some ⟨ocSpoilt, odSpoilt, .func (PySem.W.fnOf "_law_spoilt" "_law_spoilt" (defArgs sSpoilt) (defBody sSpoilt) (defScope sSpoilt) .none kVSpoilt dcSpoilt pmSpoilt anSpoilt cdSpoilt ctSpoilt), slSpoilt⟩)
    (cSpoilt : PySem.W.codeIn K cdSpoilt "_law_spoilt" = true)
    (aSpoilt : PySem.W.nsIn K mainGlobals "_law_spoilt" = some (some (.ref fSpoilt)))
    (kSpoilt : PySem.W.keepIn K (.ref fSpoilt) = true)
    (lParts : K.lookup fParts = some ⟨ocParts, odParts, .func (PySem.W.fnOf "_law_parts" "_law_parts" (defArgs sParts) (defBody sParts) (defScope sParts) .none kVParts dcParts pmParts anParts cdParts ctParts), slParts⟩)
    (cParts : PySem.W.codeIn K cdParts "_law_parts" = true)
    (aParts : PySem.W.nsIn K mainGlobals "_law_parts" = some (some (.ref fParts)))
    (kParts : PySem.W.keepIn K (.ref fParts) = true)
    (lIsSet : K.lookup fIsSet = some ⟨ocIsSet, odIsSet, .func (PySem.W.fnOf "_law_is_set" "_law_is_set" (defArgs sIsSet) (defBody sIsSet) (defScope sIsSet) .none kVIsSet dcIsSet pmIsSet anIsSet cdIsSet ctIsSet), slIsSet⟩)
    (cIsSet : PySem.W.codeIn K cdIsSet "_law_is_set" = true)
    (aIsSet : PySem.W.nsIn K mainGlobals "_law_is_set" = some (some (.ref fIsSet)))
    (kIsSet : PySem.W.keepIn K (.ref fIsSet) = true)
    (lWrong : K.lookup fWrong = some ⟨ocWrong, odWrong, .func (PySem.W.fnOf "_law_wrong" "_law_wrong" (defArgs sWrong) (defBody sWrong) (defScope sWrong) .none kVWrong dcWrong pmWrong anWrong cdWrong ctWrong), slWrong⟩)
    (cWrong : PySem.W.codeIn K cdWrong "_law_wrong" = true)
    (aWrong : PySem.W.nsIn K mainGlobals "_law_wrong" = some (some (.ref fWrong)))
    (kWrong : PySem.W.keepIn K (.ref fWrong) = true)
    (lRefusal : K.lookup fRefusal = some ⟨ocRefusal, odRefusal, .func (PySem.W.fnOf "_law_refusal" "_law_refusal" (defArgs sRefusal) (defBody sRefusal) (defScope sRefusal) .none kVRefusal dcRefusal pmRefusal anRefusal cdRefusal ctRefusal), slRefusal⟩)
    (cRefusal : PySem.W.codeIn K cdRefusal "_law_refusal" = true)
    (aRefusal : PySem.W.nsIn K mainGlobals "_law_refusal" = some (some (.ref fRefusal)))
    (kRefusal : PySem.W.keepIn K (.ref fRefusal) = true)
    (lObject : K.lookup fObject = some ⟨ocObject, odObject, .func (PySem.W.fnOf "_law_object" "_law_object" (defArgs sObject) (defBody sObject) (defScope sObject) .none kVObject dcObject pmObject anObject cdObject ctObject), slObject⟩)
    (cObject : PySem.W.codeIn K cdObject "_law_object" = true)
    (aObject : PySem.W.nsIn K mainGlobals "_law_object" = some (some (.ref fObject)))
    (kObject : PySem.W.keepIn K (.ref fObject) = true)
    (lDue : K.lookup fDue = some ⟨ocDue, odDue, .func (PySem.W.fnOf "_law_due" "_law_due" (defArgs sDue) (defBody sDue) (defScope sDue) .none kVDue dcDue pmDue anDue cdDue ctDue), slDue⟩)
    (cDue : PySem.W.codeIn K cdDue "_law_due" = true)
    (aDue : PySem.W.nsIn K mainGlobals "_law_due" = some (some (.ref fDue)))
    (kDue : PySem.W.keepIn K (.ref fDue) = true)
    (lRightKind : K.lookup fRightKind = some ⟨ocRightKind, odRightKind, .func (PySem.W.fnOf "_law_right_kind" "_law_right_kind" (defArgs sRightKind) (defBody sRightKind) (defScope sRightKind) .none kVRightKind dcRightKind pmRightKind anRightKind cdRightKind ctRightKind), slRightKind⟩)
    (cRightKind : PySem.W.codeIn K cdRightKind "_law_right_kind" = true)
    (aRightKind : PySem.W.nsIn K mainGlobals "_law_right_kind" = some (some (.ref fRightKind)))
    (kRightKind : PySem.W.keepIn K (.ref fRightKind) = true)
    (lLaw : K.lookup fLaw = some ⟨ocLaw, odLaw, .func (PySem.W.fnOf "law" "law" (defArgs sLaw) (defBody sLaw) (defScope sLaw) .none kVLaw dcLaw pmLaw anLaw cdLaw ctLaw), slLaw⟩)
    (cLaw : PySem.W.codeIn K cdLaw "law" = true)
    (aLaw : PySem.W.nsIn K mainGlobals "law" = some (some (.ref fLaw)))
    (kLaw : PySem.W.keepIn K (.ref fLaw) = true)
    (z_len : PySem.W.nsIn K mainGlobals "len" = some none)
    (z_set : PySem.W.nsIn K mainGlobals "set" = some none)
    (z_all : PySem.W.nsIn K mainGlobals "all" = some none)
    (z_abs : PySem.W.nsIn K mainGlobals "abs" = some none)
    (z_int : PySem.W.nsIn K mainGlobals "int" = some none)
    (z_range : PySem.W.nsIn K mainGlobals "range" = some none)
    (z_sorted : PySem.W.nsIn K mainGlobals "sorted" = some none)
    (z_isinstance : PySem.W.nsIn K mainGlobals "isinstance" = some none)
    (z_str : PySem.W.nsIn K mainGlobals "str" = some none)
    (z_bool : PySem.W.nsIn K mainGlobals "bool" = some none)
    (z_list : PySem.W.nsIn K mainGlobals "list" = some none)
    (z_tuple : PySem.W.nsIn K mainGlobals "tuple" = some none)
    (z_any : PySem.W.nsIn K mainGlobals "any" = some none)
    (z_enumerate : PySem.W.nsIn K mainGlobals "enumerate" = some none)
    (z_min : PySem.W.nsIn K mainGlobals "min" = some none)
    (z_max : PySem.W.nsIn K mainGlobals "max" = some none)
    (z_ValueError : PySem.W.nsIn K mainGlobals "ValueError" = some none)
    (z_zip : PySem.W.nsIn K mainGlobals "zip" = some none)
    (aC : PySem.W.nsIn K mainGlobals "Alphabet" = some (some (.ref C)))
    (pgC : PySem.W.plainGet K C Str.empty = true)
    (hdC : PySem.W.hasDictIn K C = true)
    (poC : PySem.W.plainOver K C = true)
    (saC : PySem.W.findIn K (.ref C) "__setattr__" = some (some (.builtin "object.__setattr__")))
    (mkC : PySem.W.makesIn K C = true)
    (kC : PySem.W.keepIn K (.ref C) = true)
    (nC_letters : PySem.W.findIn K (.ref C) "letters" = some none)
    (nC_vowels : PySem.W.findIn K (.ref C) "vowels" = some none)
    (nC_consonants : PySem.W.findIn K (.ref C) "consonants" = some none)
    (nC_signs : PySem.W.findIn K (.ref C) "signs" = some none)
    (ig : PySem.W.specialIn K (.builtin "object.__class__") "__get__" = some (some (.builtin "getset_descriptor.__get__")))
    (it : PySem.W.takesIn K (.builtin "object.__class__") = some true)
    (icC : PySem.W.findIn K (.ref C) "__class__" = some (some (.builtin "object.__class__")))
    (imC : PySem.W.mroIn K C (.type "object") = some true)
    (rdC : PySem.W.readsIn K C (.type "type") = true)
    (gaC : PySem.W.specialIn K (.ref C) "__getattribute__" = some (some (.builtin "type.__getattribute__")))
    (vM : PySem.W.findCls K (.ref C) (.type "type") "MOST" = some (.val (.int 4 tM)))
    (vJ : PySem.W.findCls K (.ref C) (.type "type") "JOINT" = some (.val (.str "-" tJ)))
    (aJ : PySem.W.findIn K (.ref C) "JOINT" = some (some (.str "-" tj2)))
    (gJ : PySem.W.specialIn K (.str "-" tj2) "__get__" = some none)
    (aMost : PySem.W.nsIn K mainGlobals "MOST_AFTER" = some (some (.int 3 tMost)))
    (aSL : PySem.W.nsIn K mainGlobals "SMALL_LETTERS" = some (some (.str "abcdefghijklmnopqrstuvwxyz" tl)))
    (nE : PySem.W.notFirst K C (.ref C) = true)
    (aCS : PySem.W.nsIn K mainGlobals "Stage" = some (some (.ref CS)))
    (pgCS : PySem.W.plainGet K CS Str.empty = true)
    (hdCS : PySem.W.hasDictIn K CS = true)
    (poCS : PySem.W.plainOver K CS = true)
    (saCS : PySem.W.findIn K (.ref CS) "__setattr__" = some (some (.builtin "object.__setattr__")))
    (mkCS : PySem.W.makesIn K CS = true)
    (kCS : PySem.W.keepIn K (.ref CS) = true)
    (icCS : PySem.W.findIn K (.ref CS) "__class__" = some (some (.builtin "object.__class__")))
    (imCS : PySem.W.mroIn K CS (.type "object") = some true)
    (nCS_alphabet : PySem.W.findIn K (.ref CS) "alphabet" = some none)
    (iscCS : PySem.W.isClsIn K CS = true)
    (tyCS : PySem.W.typeIn K (.ref CS) = some (.type "type"))
    (sCS_CS : PySem.W.subIn K (.ref CS) (.ref CS) = some true)
    (clCS : PySem.W.clsIn K CS = some { name := nmCS, bases := bsCS, mro := [.ref CS, .type "object"], ns := NCS, qualname := qCS, hasDict := hdCSx, slotNames := snCS, subclasses := subCS, abstract := abCS, collection := colCS, hasDel := dlCS })
    (aCW : PySem.W.nsIn K mainGlobals "Drop" = some (some (.ref CW)))
    (pgCW : PySem.W.plainGet K CW Str.empty = true)
    (hdCW : PySem.W.hasDictIn K CW = true)
    (poCW : PySem.W.plainOver K CW = true)
    (saCW : PySem.W.findIn K (.ref CW) "__setattr__" = some (some (.builtin "object.__setattr__")))
    (mkCW : PySem.W.makesIn K CW = true)
    (kCW : PySem.W.keepIn K (.ref CW) = true)
    (icCW : PySem.W.findIn K (.ref CW) "__class__" = some (some (.builtin "object.__class__")))
    (imCW : PySem.W.mroIn K CW (.type "object") = some true)
    (nCW_alphabet : PySem.W.findIn K (.ref CW) "alphabet" = some none)
    (nCW_signs : PySem.W.findIn K (.ref CW) "signs" = some none)
    (nCW_name : PySem.W.findIn K (.ref CW) "name" = some none)
    (nCW_after : PySem.W.findIn K (.ref CW) "after" = some none)
    (nCW_each : PySem.W.findIn K (.ref CW) "each" = some none)
    (iscCW : PySem.W.isClsIn K CW = true)
    (tyCW : PySem.W.typeIn K (.ref CW) = some (.type "type"))
    (sCW_CW : PySem.W.subIn K (.ref CW) (.ref CW) = some true)
    (clCW : PySem.W.clsIn K CW = some { name := nmCW, bases := bsCW, mro := [.ref CW, .ref CS, .type "object"], ns := NCW, qualname := qCW, hasDict := hdCWx, slotNames := snCW, subclasses := subCW, abstract := abCW, collection := colCW, hasDel := dlCW })
    (aCO : PySem.W.nsIn K mainGlobals "LastDrop" = some (some (.ref CO)))
    (pgCO : PySem.W.plainGet K CO Str.empty = true)
    (hdCO : PySem.W.hasDictIn K CO = true)
    (poCO : PySem.W.plainOver K CO = true)
    (saCO : PySem.W.findIn K (.ref CO) "__setattr__" = some (some (.builtin "object.__setattr__")))
    (mkCO : PySem.W.makesIn K CO = true)
    (kCO : PySem.W.keepIn K (.ref CO) = true)
    (icCO : PySem.W.findIn K (.ref CO) "__class__" = some (some (.builtin "object.__class__")))
    (imCO : PySem.W.mroIn K CO (.type "object") = some true)
    (nCO_alphabet : PySem.W.findIn K (.ref CO) "alphabet" = some none)
    (nCO_signs : PySem.W.findIn K (.ref CO) "signs" = some none)
    (nCO_name : PySem.W.findIn K (.ref CO) "name" = some none)
    (nCO_after : PySem.W.findIn K (.ref CO) "after" = some none)
    (nCO_each : PySem.W.findIn K (.ref CO) "each" = some none)
    (iscCO : PySem.W.isClsIn K CO = true)
    (tyCO : PySem.W.typeIn K (.ref CO) = some (.type "type"))
    (sCO_CO : PySem.W.subIn K (.ref CO) (.ref CO) = some true)
    (clCO : PySem.W.clsIn K CO = some { name := nmCO, bases := bsCO, mro := [.ref CO, .ref CW, .ref CS, .type "object"], ns := NCO, qualname := qCO, hasDict := hdCOx, slotNames := snCO, subclasses := subCO, abstract := abCO, collection := colCO, hasDel := dlCO })
    (aCR : PySem.W.nsIn K mainGlobals "Write" = some (some (.ref CR)))
    (pgCR : PySem.W.plainGet K CR Str.empty = true)
    (hdCR : PySem.W.hasDictIn K CR = true)
    (poCR : PySem.W.plainOver K CR = true)
    (saCR : PySem.W.findIn K (.ref CR) "__setattr__" = some (some (.builtin "object.__setattr__")))
    (mkCR : PySem.W.makesIn K CR = true)
    (kCR : PySem.W.keepIn K (.ref CR) = true)
    (icCR : PySem.W.findIn K (.ref CR) "__class__" = some (some (.builtin "object.__class__")))
    (imCR : PySem.W.mroIn K CR (.type "object") = some true)
    (nCR_alphabet : PySem.W.findIn K (.ref CR) "alphabet" = some none)
    (nCR_signs : PySem.W.findIn K (.ref CR) "signs" = some none)
    (nCR_sign : PySem.W.findIn K (.ref CR) "sign" = some none)
    (nCR_name : PySem.W.findIn K (.ref CR) "name" = some none)
    (iscCR : PySem.W.isClsIn K CR = true)
    (tyCR : PySem.W.typeIn K (.ref CR) = some (.type "type"))
    (sCR_CR : PySem.W.subIn K (.ref CR) (.ref CR) = some true)
    (clCR : PySem.W.clsIn K CR = some { name := nmCR, bases := bsCR, mro := [.ref CR, .ref CS, .type "object"], ns := NCR, qualname := qCR, hasDict := hdCRx, slotNames := snCR, subclasses := subCR, abstract := abCR, collection := colCR, hasDel := dlCR })
    (aCN : PySem.W.nsIn K mainGlobals "Once" = some (some (.ref CN)))
    (pgCN : PySem.W.plainGet K CN Str.empty = true)
    (hdCN : PySem.W.hasDictIn K CN = true)
    (poCN : PySem.W.plainOver K CN = true)
    (saCN : PySem.W.findIn K (.ref CN) "__setattr__" = some (some (.builtin "object.__setattr__")))
    (mkCN : PySem.W.makesIn K CN = true)
    (kCN : PySem.W.keepIn K (.ref CN) = true)
    (icCN : PySem.W.findIn K (.ref CN) "__class__" = some (some (.builtin "object.__class__")))
    (imCN : PySem.W.mroIn K CN (.type "object") = some true)
    (nCN_alphabet : PySem.W.findIn K (.ref CN) "alphabet" = some none)
    (nCN_signs : PySem.W.findIn K (.ref CN) "signs" = some none)
    (nCN_name : PySem.W.findIn K (.ref CN) "name" = some none)
    (iscCN : PySem.W.isClsIn K CN = true)
    (tyCN : PySem.W.typeIn K (.ref CN) = some (.type "type"))
    (sCN_CN : PySem.W.subIn K (.ref CN) (.ref CN) = some true)
    (clCN : PySem.W.clsIn K CN = some { name := nmCN, bases := bsCN, mro := [.ref CN, .ref CS, .type "object"], ns := NCN, qualname := qCN, hasDict := hdCNx, slotNames := snCN, subclasses := subCN, abstract := abCN, collection := colCN, hasDel := dlCN })
    (aCD : PySem.W.nsIn K mainGlobals "Add" = some (some (.ref CD)))
    (pgCD : PySem.W.plainGet K CD Str.empty = true)
    (hdCD : PySem.W.hasDictIn K CD = true)
    (poCD : PySem.W.plainOver K CD = true)
    (saCD : PySem.W.findIn K (.ref CD) "__setattr__" = some (some (.builtin "object.__setattr__")))
    (mkCD : PySem.W.makesIn K CD = true)
    (kCD : PySem.W.keepIn K (.ref CD) = true)
    (icCD : PySem.W.findIn K (.ref CD) "__class__" = some (some (.builtin "object.__class__")))
    (imCD : PySem.W.mroIn K CD (.type "object") = some true)
    (nCD_alphabet : PySem.W.findIn K (.ref CD) "alphabet" = some none)
    (nCD_sign : PySem.W.findIn K (.ref CD) "sign" = some none)
    (iscCD : PySem.W.isClsIn K CD = true)
    (tyCD : PySem.W.typeIn K (.ref CD) = some (.type "type"))
    (sCD_CD : PySem.W.subIn K (.ref CD) (.ref CD) = some true)
    (clCD : PySem.W.clsIn K CD = some { name := nmCD, bases := bsCD, mro := [.ref CD, .ref CS, .type "object"], ns := NCD, qualname := qCD, hasDict := hdCDx, slotNames := snCD, subclasses := subCD, abstract := abCD, collection := colCD, hasDel := dlCD })
    (sCW_CO : PySem.W.subIn K (.ref CW) (.ref CO) = some false)
    (sCW_CR : PySem.W.subIn K (.ref CW) (.ref CR) = some false)
    (sCW_CN : PySem.W.subIn K (.ref CW) (.ref CN) = some false)
    (sCW_CD : PySem.W.subIn K (.ref CW) (.ref CD) = some false)
    (sCO_CW : PySem.W.subIn K (.ref CO) (.ref CW) = some true)
    (sCO_CR : PySem.W.subIn K (.ref CO) (.ref CR) = some false)
    (sCO_CN : PySem.W.subIn K (.ref CO) (.ref CN) = some false)
    (sCO_CD : PySem.W.subIn K (.ref CO) (.ref CD) = some false)
    (sCR_CW : PySem.W.subIn K (.ref CR) (.ref CW) = some false)
    (sCR_CO : PySem.W.subIn K (.ref CR) (.ref CO) = some false)
    (sCR_CN : PySem.W.subIn K (.ref CR) (.ref CN) = some false)
    (sCR_CD : PySem.W.subIn K (.ref CR) (.ref CD) = some false)
    (sCN_CW : PySem.W.subIn K (.ref CN) (.ref CW) = some false)
    (sCN_CO : PySem.W.subIn K (.ref CN) (.ref CO) = some false)
    (sCN_CR : PySem.W.subIn K (.ref CN) (.ref CR) = some false)
    (sCN_CD : PySem.W.subIn K (.ref CN) (.ref CD) = some false)
    (sCD_CW : PySem.W.subIn K (.ref CD) (.ref CW) = some false)
    (sCD_CO : PySem.W.subIn K (.ref CD) (.ref CO) = some false)
    (sCD_CR : PySem.W.subIn K (.ref CD) (.ref CR) = some false)
    (sCD_CN : PySem.W.subIn K (.ref CD) (.ref CN) = some false)
    (lAsc : K.lookup fAsc = some ⟨ocAsc, odAsc, .func (PySem.W.fnOf "are_ascending" "Alphabet.are_ascending" (defArgs sAsc) (defBody sAsc) (defScope sAsc) .none kVAsc dcAsc pmAsc anAsc cdAsc ctAsc), slAsc⟩)
    (cAsc : PySem.W.codeIn K cdAsc "Alphabet.are_ascending" = true)
    (aAsc : PySem.W.findIn K (.ref C) "are_ascending" = some (some (.ref fAsc)))
    (kAsc : PySem.W.keepIn K (.ref fAsc) = true)
    (iAsc : PySem.W.isFn K (.ref fAsc) = true)
    (lIsSign : K.lookup fIsSign = some ⟨ocIsSign, odIsSign, .func (PySem.W.fnOf "is_sign" "Alphabet.is_sign" (defArgs sIsSign) (defBody sIsSign) (defScope sIsSign) .none kVIsSign dcIsSign pmIsSign anIsSign cdIsSign ctIsSign), slIsSign⟩)
    (cIsSign : PySem.W.codeIn K cdIsSign "Alphabet.is_sign" = true)
    (aIsSign : PySem.W.findIn K (.ref C) "is_sign" = some (some (.ref fIsSign)))
    (kIsSign : PySem.W.keepIn K (.ref fIsSign) = true)
    (iIsSign : PySem.W.isFn K (.ref fIsSign) = true)
    (lSignsOf : K.lookup fSignsOf = some ⟨ocSignsOf, odSignsOf, .func (PySem.W.fnOf "signs_of" "Alphabet.signs_of" (defArgs sSignsOf) (defBody sSignsOf) (defScope sSignsOf) .none kVSignsOf dcSignsOf pmSignsOf anSignsOf cdSignsOf ctSignsOf), slSignsOf⟩)
    (cSignsOf : PySem.W.codeIn K cdSignsOf "Alphabet.signs_of" = true)
    (aSignsOf : PySem.W.findIn K (.ref C) "signs_of" = some (some (.ref fSignsOf)))
    (kSignsOf : PySem.W.keepIn K (.ref fSignsOf) = true)
    (iSignsOf : PySem.W.isFn K (.ref fSignsOf) = true)
    (lIsText : K.lookup fIsText = some ⟨ocIsText, odIsText, .func (PySem.W.fnOf "is_text" "Alphabet.is_text" (defArgs sIsText) (defBody sIsText) (defScope sIsText) .none kVIsText dcIsText pmIsText anIsText cdIsText ctIsText), slIsText⟩)
    (cIsText : PySem.W.codeIn K cdIsText "Alphabet.is_text" = true)
    (aIsText : PySem.W.findIn K (.ref C) "is_text" = some (some (.ref fIsText)))
    (kIsText : PySem.W.keepIn K (.ref fIsText) = true)
    (iIsText : PySem.W.isFn K (.ref fIsText) = true)
    (lCheck : K.lookup fCheck = some ⟨ocCheck, odCheck, .func (PySem.W.fnOf "check" "Alphabet.check" (defArgs sCheck) (defBody sCheck) (defScope sCheck) .none kVCheck dcCheck pmCheck anCheck cdCheck ctCheck), slCheck⟩)
    (cCheck : PySem.W.codeIn K cdCheck "Alphabet.check" = true)
    (aCheck : PySem.W.findIn K (.ref C) "check" = some (some (.ref fCheck)))
    (kCheck : PySem.W.keepIn K (.ref fCheck) = true)
    (iCheck : PySem.W.isFn K (.ref fCheck) = true)
    (lDropCall : K.lookup fDropCall = some ⟨ocDropCall, odDropCall, .func (PySem.W.fnOf "__call__" "Drop.__call__" (defArgs sDropCall) (defBody sDropCall) (defScope sDropCall) .none kVDropCall dcDropCall pmDropCall anDropCall cdDropCall ctDropCall), slDropCall⟩)
    (cDropCall : PySem.W.codeIn K cdDropCall "Drop.__call__" = true)
    (aDropCall : PySem.W.findIn K (.ref CW) "__call__" = some (some (.ref fDropCall)))
    (kDropCall : PySem.W.keepIn K (.ref fDropCall) = true)
    (iDropCall : PySem.W.isFn K (.ref fDropCall) = true)
    (fnDropCall : PySem.W.fnIn K fDropCall = true)
    (lDropStr : K.lookup fDropStr = some ⟨ocDropStr, odDropStr, .func (PySem.W.fnOf "__str__" "Drop.__str__" (defArgs sDropStr) (defBody sDropStr) (defScope sDropStr) .none kVDropStr dcDropStr pmDropStr anDropStr cdDropStr ctDropStr), slDropStr⟩)
    (cDropStr : PySem.W.codeIn K cdDropStr "Drop.__str__" = true)
    (aDropStr : PySem.W.findIn K (.ref CW) "__str__" = some (some (.ref fDropStr)))
    (kDropStr : PySem.W.keepIn K (.ref fDropStr) = true)
    (iDropStr : PySem.W.isFn K (.ref fDropStr) = true)
    (lLastDropCall : K.lookup fLastDropCall = some ⟨ocLastDropCall, odLastDropCall, .func (PySem.W.fnOf "__call__" "LastDrop.__call__" (defArgs sLastDropCall) (defBody sLastDropCall) (defScope sLastDropCall) .none kVLastDropCall dcLastDropCall pmLastDropCall anLastDropCall cdLastDropCall ctLastDropCall), slLastDropCall⟩)
    (cLastDropCall : PySem.W.codeIn K cdLastDropCall "LastDrop.__call__" = true)
    (aLastDropCall : PySem.W.findIn K (.ref CO) "__call__" = some (some (.ref fLastDropCall)))
    (kLastDropCall : PySem.W.keepIn K (.ref fLastDropCall) = true)
    (iLastDropCall : PySem.W.isFn K (.ref fLastDropCall) = true)
    (fnLastDropCall : PySem.W.fnIn K fLastDropCall = true)
    (lLastDropStr : K.lookup fLastDropStr = some ⟨ocLastDropStr, odLastDropStr, .func (PySem.W.fnOf "__str__" "LastDrop.__str__" (defArgs sLastDropStr) (defBody sLastDropStr) (defScope sLastDropStr) .none kVLastDropStr dcLastDropStr pmLastDropStr anLastDropStr cdLastDropStr ctLastDropStr), slLastDropStr⟩)
    (cLastDropStr : PySem.W.codeIn K cdLastDropStr "LastDrop.__str__" = true)
    (aLastDropStr : PySem.W.findIn K (.ref CO) "__str__" = some (some (.ref fLastDropStr)))
    (kLastDropStr : PySem.W.keepIn K (.ref fLastDropStr) = true)
    (iLastDropStr : PySem.W.isFn K (.ref fLastDropStr) = true)
    (lWriteCall : K.lookup fWriteCall = some ⟨ocWriteCall, odWriteCall, .func (PySem.W.fnOf "__call__" "Write.__call__" (defArgs sWriteCall) (defBody sWriteCall) (defScope sWriteCall) .none kVWriteCall dcWriteCall pmWriteCall anWriteCall cdWriteCall ctWriteCall), slWriteCall⟩)
    (cWriteCall : PySem.W.codeIn K cdWriteCall "Write.__call__" = true)
    (aWriteCall : PySem.W.findIn K (.ref CR) "__call__" = some (some (.ref fWriteCall)))
    (kWriteCall : PySem.W.keepIn K (.ref fWriteCall) = true)
    (iWriteCall : PySem.W.isFn K (.ref fWriteCall) = true)
    (fnWriteCall : PySem.W.fnIn K fWriteCall = true)
    (lWriteStr : K.lookup fWriteStr = some ⟨ocWriteStr, odWriteStr, .func (PySem.W.fnOf "__str__" "Write.__str__" (defArgs sWriteStr) (defBody sWriteStr) (defScope sWriteStr) .none kVWriteStr dcWriteStr pmWriteStr anWriteStr cdWriteStr ctWriteStr), slWriteStr⟩)
    (cWriteStr : PySem.W.codeIn K cdWriteStr "Write.__str__" = true)
    (aWriteStr : PySem.W.findIn K (.ref CR) "__str__" = some (some (.ref fWriteStr)))
    (kWriteStr : PySem.W.keepIn K (.ref fWriteStr) = true)
    (iWriteStr : PySem.W.isFn K (.ref fWriteStr) = true)
    (lOnceCall : K.lookup fOnceCall = some ⟨ocOnceCall, odOnceCall, .func (PySem.W.fnOf "__call__" "Once.__call__" (defArgs sOnceCall) (defBody sOnceCall) (defScope sOnceCall) .none kVOnceCall dcOnceCall pmOnceCall anOnceCall cdOnceCall ctOnceCall), slOnceCall⟩)
    (cOnceCall : PySem.W.codeIn K cdOnceCall "Once.__call__" = true)
    (aOnceCall : PySem.W.findIn K (.ref CN) "__call__" = some (some (.ref fOnceCall)))
    (kOnceCall : PySem.W.keepIn K (.ref fOnceCall) = true)
    (iOnceCall : PySem.W.isFn K (.ref fOnceCall) = true)
    (fnOnceCall : PySem.W.fnIn K fOnceCall = true)
    (lOnceStr : K.lookup fOnceStr = some ⟨ocOnceStr, odOnceStr, .func (PySem.W.fnOf "__str__" "Once.__str__" (defArgs sOnceStr) (defBody sOnceStr) (defScope sOnceStr) .none kVOnceStr dcOnceStr pmOnceStr anOnceStr cdOnceStr ctOnceStr), slOnceStr⟩)
    (cOnceStr : PySem.W.codeIn K cdOnceStr "Once.__str__" = true)
    (aOnceStr : PySem.W.findIn K (.ref CN) "__str__" = some (some (.ref fOnceStr)))
    (kOnceStr : PySem.W.keepIn K (.ref fOnceStr) = true)
    (iOnceStr : PySem.W.isFn K (.ref fOnceStr) = true)
    (lAddCall : K.lookup fAddCall = some ⟨ocAddCall, odAddCall, .func (PySem.W.fnOf "__call__" "Add.__call__" (defArgs sAddCall) (defBody sAddCall) (defScope sAddCall) .none kVAddCall dcAddCall pmAddCall anAddCall cdAddCall ctAddCall), slAddCall⟩)
    (cAddCall : PySem.W.codeIn K cdAddCall "Add.__call__" = true)
    (aAddCall : PySem.W.findIn K (.ref CD) "__call__" = some (some (.ref fAddCall)))
    (kAddCall : PySem.W.keepIn K (.ref fAddCall) = true)
    (iAddCall : PySem.W.isFn K (.ref fAddCall) = true)
    (fnAddCall : PySem.W.fnIn K fAddCall = true)
    (lAddStr : K.lookup fAddStr = some ⟨ocAddStr, odAddStr, .func (PySem.W.fnOf "__str__" "Add.__str__" (defArgs sAddStr) (defBody sAddStr) (defScope sAddStr) .none kVAddStr dcAddStr pmAddStr anAddStr cdAddStr ctAddStr), slAddStr⟩)
    (cAddStr : PySem.W.codeIn K cdAddStr "Add.__str__" = true)
    (aAddStr : PySem.W.findIn K (.ref CD) "__str__" = some (some (.ref fAddStr)))
    (kAddStr : PySem.W.keepIn K (.ref fAddStr) = true)
    (iAddStr : PySem.W.isFn K (.ref fAddStr) = true)
    (lAlEq : K.lookup fAlEq = some ⟨ocAlEq, odAlEq, .func (PySem.W.fnOf "__eq__" "Alphabet.__eq__" (defArgs sAlEq) (defBody sAlEq) (defScope sAlEq) .none kVAlEq dcAlEq pmAlEq anAlEq cdAlEq ctAlEq), slAlEq⟩)
    (cAlEq : PySem.W.codeIn K cdAlEq "Alphabet.__eq__" = true)
    (aAlEq : PySem.W.findIn K (.ref C) "__eq__" = some (some (.ref fAlEq)))
    (kAlEq : PySem.W.keepIn K (.ref fAlEq) = true)
    (iAlEq : PySem.W.isFn K (.ref fAlEq) = true)
    (lSI : K.lookup fSI = some ⟨ocSI, odSI, .func (PySem.W.fnOf "__init__" "Stage.__init__" (defArgs sSI) (defBody sSI) (defScope sSI) .none kVSI dcSI pmSI anSI cdSI ctSI), slSI⟩)
    (cSI : PySem.W.codeIn K cdSI "Stage.__init__" = true)
    (aSI : PySem.W.findIn K (.ref CS) "__init__" = some (some (.ref fSI)))
    (kSI : PySem.W.keepIn K (.ref fSI) = true)
    (iSI : PySem.W.isFn K (.ref fSI) = true)
    (tySI : PySem.W.typeIn K (.ref fSI) = some (.type "function"))
    (fnSI : PySem.W.fnIn K fSI = true)
    (lDI : K.lookup fDI = some ⟨ocDI, odDI, .func (PySem.W.ksFn "__init__" "Drop.__init__" (defArgs sDI) (defBody sDI) (defScope sDI) .none (.ref kD) dcDI pmDI anDI (.ref cdaDI) ctDI ccDI), slDI⟩)
    (kwa : PySem.W.nsIn K kD "after" = some (some (.int 0 tk0)))
    (kwe : PySem.W.nsIn K kD "each" = some (some (.bool false)))
    (cDI : PySem.W.codeIn K (.ref cdaDI) "Drop.__init__" = true)
    (aDICW : PySem.W.findIn K (.ref CW) "__init__" = some (some (.ref fDI)))
    (aDICO : PySem.W.findIn K (.ref CO) "__init__" = some (some (.ref fDI)))
    (iDI : PySem.W.isFn K (.ref fDI) = true)
    (lccDI : K.lookup ccDI = some ⟨clccDI, ddccDI, .cell (some (.ref CW)), slccDI⟩)
    (lcdDI : K.lookup cdaDI = some ⟨clcdDI, ddcdDI, .fields vsCDI, slcdDI⟩)
    (hvDI : vsCDI[2]? = some (.str flDI tfDI))
    (hflDI : ((l.prog.main.file : Str) == flDI) = true)
    (lWI : K.lookup fWI = some ⟨ocWI, odWI, .func (PySem.W.ksFn "__init__" "Write.__init__" (defArgs sWI) (defBody sWI) (defScope sWI) .none kVWI dcWI pmWI anWI (.ref cdaWI) ctWI ccWI), slWI⟩)
    (cWI : PySem.W.codeIn K (.ref cdaWI) "Write.__init__" = true)
    (aWI : PySem.W.findIn K (.ref CR) "__init__" = some (some (.ref fWI)))
    (iWI : PySem.W.isFn K (.ref fWI) = true)
    (lccWI : K.lookup ccWI = some ⟨clccWI, ddccWI, .cell (some (.ref CR)), slccWI⟩)
    (lcdWI : K.lookup cdaWI = some ⟨clcdWI, ddcdWI, .fields vsCWI, slcdWI⟩)
    (hvWI : vsCWI[2]? = some (.str flWI tfWI))
    (hflWI : ((l.prog.main.file : Str) == flWI) = true)
    (lOI : K.lookup fOI = some ⟨ocOI, odOI, .func (PySem.W.ksFn "__init__" "Once.__init__" (defArgs sOI) (defBody sOI) (defScope sOI) .none kVOI dcOI pmOI anOI (.ref cdaOI) ctOI ccOI), slOI⟩)
    (cOI : PySem.W.codeIn K (.ref cdaOI) "Once.__init__" = true)
    (aOI : PySem.W.findIn K (.ref CN) "__init__" = some (some (.ref fOI)))
    (iOI : PySem.W.isFn K (.ref fOI) = true)
    (lccOI : K.lookup ccOI = some ⟨clccOI, ddccOI, .cell (some (.ref CN)), slccOI⟩)
    (lcdOI : K.lookup cdaOI = some ⟨clcdOI, ddcdOI, .fields vsCOI, slcdOI⟩)
    (hvOI : vsCOI[2]? = some (.str flOI tfOI))
    (hflOI : ((l.prog.main.file : Str) == flOI) = true)
    (lAI : K.lookup fAI = some ⟨ocAI, odAI, .func (PySem.W.ksFn "__init__" "Add.__init__" (defArgs sAI2) (defBody sAI2) (defScope sAI2) .none kVAI dcAI pmAI anAI (.ref cdaAI) ctAI ccAI), slAI⟩)
    (cAI : PySem.W.codeIn K (.ref cdaAI) "Add.__init__" = true)
    (aAI : PySem.W.findIn K (.ref CD) "__init__" = some (some (.ref fAI)))
    (iAI : PySem.W.isFn K (.ref fAI) = true)
    (lccAI : K.lookup ccAI = some ⟨clccAI, ddccAI, .cell (some (.ref CD)), slccAI⟩)
    (lcdAI : K.lookup cdaAI = some ⟨clcdAI, ddcdAI, .fields vsCAI, slcdAI⟩)
    (hvAI : vsCAI[2]? = some (.str flAI tfAI))
    (hflAI : ((l.prog.main.file : Str) == flAI) = true)
    (lA : K.lookup fA = some ⟨ocA, odA, .func (PySem.W.fnOf "__init__" "Alphabet.__init__" (defArgs sAI) (defBody sAI) (defScope sAI) (.ref TDA) kVA dcA pmA anA cdA ctA), slA⟩)
    (cA : PySem.W.codeIn K cdA "Alphabet.__init__" = true)
    (aA : PySem.W.findIn K (.ref C) "__init__" = some (some (.ref fA)))
    (lDA : K.lookup TDA = some ⟨ocDA, odDA, .seq [Value.str "" tDA].toArray nDA, slDA⟩)
    (kA : PySem.W.keepIn K (.ref fA) = true)
    (iA : PySem.W.isFn K (.ref fA) = true)
    (xTE : K.lookup TE = some (excClassObj nmTE qTE TE NTE bsTE [.type "ValueError", .type "Exception", .type "BaseException", .type "object"] true snTE subTE abTE colTE ddTE m0TE m1TE m2TE m3TE m5TE "ValueError.__new__"))
    (aTE : PySem.W.nsIn K mainGlobals "TaleError" = some (some (.ref TE)))
    (eTE : PySem.W.subIn K (.ref TE) (.type "BaseException") = some true)
    (tTE : PySem.W.typeIn K (.ref TE) = some (.type "type"))
    (hTE : PySem.W.hasDictIn K TE = true)
    (iTE : PySem.W.findIn K (.ref TE) "__init__" = some (some (.builtin "ValueError.__init__")))
    (noT : (l.prog.main.scope.names.lookup ("super" : Str)).isSome = false)
    (noM : PySem.W.nsIn K mainGlobals "super" = some none)
    (anyS : PySem.W.nsIn K cStatics "thirdparty.any" = some none)
    (xBA : K.lookup BA = some (excClassObj nmBA qBA BA NBA bsBA [.ref TE, .type "ValueError", .type "Exception", .type "BaseException", .type "object"] true snBA subBA abBA colBA ddBA m0BA m1BA m2BA m3BA m5BA "ValueError.__new__"))
    (aBA : PySem.W.nsIn K mainGlobals "BadAlphabet" = some (some (.ref BA)))
    (eBA : PySem.W.subIn K (.ref BA) (.type "BaseException") = some true)
    (tBA : PySem.W.typeIn K (.ref BA) = some (.type "type"))
    (hBA : PySem.W.hasDictIn K BA = true)
    (nBA_part : PySem.W.findIn K (.ref BA) "part" = some none)
    (saBA : PySem.W.findIn K (.ref BA) "__setattr__" = some (some (.builtin "object.__setattr__")))
    (gaBA : PySem.W.findIn K (.ref BA) "__getattribute__" = some (some (.builtin "BaseException.__getattribute__")))
    (ggBA : PySem.W.findIn K (.ref BA) "__getattr__" = some none)
    (aFBA : PySem.W.findIn K (.ref BA) "__init__" = some (some (.ref fBA)))
    (tFBA : PySem.W.typeIn K (.ref fBA) = some (.type "function"))
    (lBA : K.lookup fBA = some ⟨ocBA, odBA, .func (PySem.W.ksFn "__init__" "BadAlphabet.__init__" (defArgs sBA) (defBody sBA) (defScope sBA) .none kVBA dcBA pmBA anBA (.ref cdaBA) ctBA ccBA), slBA⟩)
    (cBA : PySem.W.codeIn K (.ref cdaBA) "BadAlphabet.__init__" = true)
    (kBA : PySem.W.keepIn K (.ref BA) = true)
    (lccBA : K.lookup ccBA = some ⟨clccBA, ddccBA, .cell (some (.ref BA)), slccBA⟩)
    (lcdBA : K.lookup cdaBA = some ⟨clcdBA, ddcdBA, .fields vsCBA, slcdBA⟩)
    (hvBA : vsCBA[2]? = some (.str flBA tfBA))
    (hflBA : ((l.prog.main.file : Str) == flBA) = true)
    (mmBA : PySem.W.mroIn K BA (.ref BA) = some true)
    (vBA : PySem.W.subIn K (.ref BA) (.type "ValueError") = some true)
    (xBT : K.lookup BT = some (excClassObj nmBT qBT BT NBT bsBT [.ref TE, .type "ValueError", .type "Exception", .type "BaseException", .type "object"] true snBT subBT abBT colBT ddBT m0BT m1BT m2BT m3BT m5BT "ValueError.__new__"))
    (aBT : PySem.W.nsIn K mainGlobals "BadText" = some (some (.ref BT)))
    (eBT : PySem.W.subIn K (.ref BT) (.type "BaseException") = some true)
    (tBT : PySem.W.typeIn K (.ref BT) = some (.type "type"))
    (hBT : PySem.W.hasDictIn K BT = true)
    (nBT_text : PySem.W.findIn K (.ref BT) "text" = some none)
    (saBT : PySem.W.findIn K (.ref BT) "__setattr__" = some (some (.builtin "object.__setattr__")))
    (gaBT : PySem.W.findIn K (.ref BT) "__getattribute__" = some (some (.builtin "BaseException.__getattribute__")))
    (ggBT : PySem.W.findIn K (.ref BT) "__getattr__" = some none)
    (aFBT : PySem.W.findIn K (.ref BT) "__init__" = some (some (.ref fBT)))
    (tFBT : PySem.W.typeIn K (.ref fBT) = some (.type "function"))
    (lBT : K.lookup fBT = some ⟨ocBT, odBT, .func (PySem.W.ksFn "__init__" "BadText.__init__" (defArgs sBadText) (defBody sBadText) (defScope sBadText) .none kVBT dcBT pmBT anBT (.ref cdaBT) ctBT ccBT), slBT⟩)
    (cBT : PySem.W.codeIn K (.ref cdaBT) "BadText.__init__" = true)
    (kBT : PySem.W.keepIn K (.ref BT) = true)
    (lccBT : K.lookup ccBT = some ⟨clccBT, ddccBT, .cell (some (.ref BT)), slccBT⟩)
    (lcdBT : K.lookup cdaBT = some ⟨clcdBT, ddcdBT, .fields vsCBT, slcdBT⟩)
    (hvBT : vsCBT[2]? = some (.str flBT tfBT))
    (hflBT : ((l.prog.main.file : Str) == flBT) = true)
    (mmBT : PySem.W.mroIn K BT (.ref BT) = some true)
    (vBT : PySem.W.subIn K (.ref BT) (.type "ValueError") = some true)
    (xBN : K.lookup BN = some (excClassObj nmBN qBN BN NBN bsBN [.ref TE, .type "ValueError", .type "Exception", .type "BaseException", .type "object"] true snBN subBN abBN colBN ddBN m0BN m1BN m2BN m3BN m5BN "ValueError.__new__"))
    (aBN : PySem.W.nsIn K mainGlobals "BadSet" = some (some (.ref BN)))
    (eBN : PySem.W.subIn K (.ref BN) (.type "BaseException") = some true)
    (tBN : PySem.W.typeIn K (.ref BN) = some (.type "type"))
    (hBN : PySem.W.hasDictIn K BN = true)
    (nBN_name : PySem.W.findIn K (.ref BN) "name" = some none)
    (saBN : PySem.W.findIn K (.ref BN) "__setattr__" = some (some (.builtin "object.__setattr__")))
    (gaBN : PySem.W.findIn K (.ref BN) "__getattribute__" = some (some (.builtin "BaseException.__getattribute__")))
    (ggBN : PySem.W.findIn K (.ref BN) "__getattr__" = some none)
    (aFBN : PySem.W.findIn K (.ref BN) "__init__" = some (some (.ref fBN)))
    (tFBN : PySem.W.typeIn K (.ref fBN) = some (.type "function"))
    (lBN : K.lookup fBN = some ⟨ocBN, odBN, .func (PySem.W.ksFn "__init__" "BadSet.__init__" (defArgs sBadSet) (defBody sBadSet) (defScope sBadSet) .none kVBN dcBN pmBN anBN (.ref cdaBN) ctBN ccBN), slBN⟩)
    (cBN : PySem.W.codeIn K (.ref cdaBN) "BadSet.__init__" = true)
    (kBN : PySem.W.keepIn K (.ref BN) = true)
    (lccBN : K.lookup ccBN = some ⟨clccBN, ddccBN, .cell (some (.ref BN)), slccBN⟩)
    (lcdBN : K.lookup cdaBN = some ⟨clcdBN, ddcdBN, .fields vsCBN, slcdBN⟩)
    (hvBN : vsCBN[2]? = some (.str flBN tfBN))
    (hflBN : ((l.prog.main.file : Str) == flBN) = true)
    (mmBN : PySem.W.mroIn K BN (.ref BN) = some true)
    (vBN : PySem.W.subIn K (.ref BN) (.type "ValueError") = some true)
    (xBS : K.lookup BS = some (excClassObj nmBS qBS BS NBS bsBS [.ref TE, .type "ValueError", .type "Exception", .type "BaseException", .type "object"] true snBS subBS abBS colBS ddBS m0BS m1BS m2BS m3BS m5BS "ValueError.__new__"))
    (aBS : PySem.W.nsIn K mainGlobals "BadStage" = some (some (.ref BS)))
    (eBS : PySem.W.subIn K (.ref BS) (.type "BaseException") = some true)
    (tBS : PySem.W.typeIn K (.ref BS) = some (.type "type"))
    (hBS : PySem.W.hasDictIn K BS = true)
    (nBS_what : PySem.W.findIn K (.ref BS) "what" = some none)
    (saBS : PySem.W.findIn K (.ref BS) "__setattr__" = some (some (.builtin "object.__setattr__")))
    (gaBS : PySem.W.findIn K (.ref BS) "__getattribute__" = some (some (.builtin "BaseException.__getattribute__")))
    (ggBS : PySem.W.findIn K (.ref BS) "__getattr__" = some none)
    (aFBS : PySem.W.findIn K (.ref BS) "__init__" = some (some (.ref fBS)))
    (tFBS : PySem.W.typeIn K (.ref fBS) = some (.type "function"))
    (lBS : K.lookup fBS = some ⟨ocBS, odBS, .func (PySem.W.ksFn "__init__" "BadStage.__init__" (defArgs sBadStage) (defBody sBadStage) (defScope sBadStage) .none kVBS dcBS pmBS anBS (.ref cdaBS) ctBS ccBS), slBS⟩)
    (cBS : PySem.W.codeIn K (.ref cdaBS) "BadStage.__init__" = true)
    (kBS : PySem.W.keepIn K (.ref BS) = true)
    (lccBS : K.lookup ccBS = some ⟨clccBS, ddccBS, .cell (some (.ref BS)), slccBS⟩)
    (lcdBS : K.lookup cdaBS = some ⟨clcdBS, ddcdBS, .fields vsCBS, slcdBS⟩)
    (hvBS : vsCBS[2]? = some (.str flBS tfBS))
    (hflBS : ((l.prog.main.file : Str) == flBS) = true)
    (mmBS : PySem.W.mroIn K BS (.ref BS) = some true)
    (vBS : PySem.W.subIn K (.ref BS) (.type "ValueError") = some true)
    (sBT_TE : PySem.W.subIn K (.ref BT) (.ref TE) = some true)
    (sBS_TE : PySem.W.subIn K (.ref BS) (.ref TE) = some true)
    (sBT_BT : PySem.W.subIn K (.ref BT) (.ref BT) = some true)
    (sBS_BS : PySem.W.subIn K (.ref BS) (.ref BS) = some true)
    (sBN_BN : PySem.W.subIn K (.ref BN) (.ref BN) = some true)
    (clTE : PySem.W.isClsIn K TE = true)
    (icBT : PySem.W.findIn K (.ref BT) "__class__" = some (some (.builtin "object.__class__")))
    (imBT : PySem.W.mroIn K BT (.type "object") = some true)
    (icBS : PySem.W.findIn K (.ref BS) "__class__" = some (some (.builtin "object.__class__")))
    (imBS : PySem.W.mroIn K BS (.type "object") = some true) :
    ∃ fd : FuncData, (∀ (s : Shared) (v : Value), BindsTo s fd ⟨[v], []⟩ [("_law_script", v)]) ∧ ∀ base : Heap, K.In base → base.Ns mainGlobals mg → FnOk l.prog w K mg base CX0 13 fa fd ["_law_script"] (spLaw K) := by
  have e := hfa.symm.trans (PySem.W.mg_of X G aLaw)
  cases e
  have gm : ∀ {n : Str} {v : Value}, PySem.W.nsIn K mainGlobals n = some (some v) → mg n = some v := fun e => PySem.W.mg_of X G e
  have gn : ∀ {n : Str}, PySem.W.nsIn K mainGlobals n = some none → mg n = none := fun e => PySem.W.mg_none_of X G e
  have FDiff := fun_mk (st := sDiff) lDiff cDiff kDiff
  have bDiff := FDiff.binds (ps := ["text", "allowed"]) fun _ _ _ _ _ _ us hl => match us, hl with | [_, _], _ => rfl
  have FPCheckSign := fun_mk (st := sPCheckSign) lPCheckSign cPCheckSign kPCheckSign
  have bPCheckSign := FPCheckSign.binds (ps := ["alphabet", "sign"]) fun _ _ _ _ _ _ us hl => match us, hl with | [_, _], _ => rfl
  have FPSignsOfSet := fun_mk (st := sPSignsOfSet) lPSignsOfSet cPSignsOfSet kPSignsOfSet
  have bPSignsOfSet := FPSignsOfSet.binds (ps := ["alphabet", "name"]) fun _ _ _ _ _ _ us hl => match us, hl with | [_, _], _ => rfl
  have FPNumberAfter := fun_mk (st := sPNumberAfter) lPNumberAfter cPNumberAfter kPNumberAfter
  have bPNumberAfter := FPNumberAfter.binds (ps := ["stage", "sign", "before"]) fun _ _ _ _ _ _ us hl => match us, hl with | [_, _, _], _ => rfl
  have FPIsDropped := fun_mk (st := sPIsDropped) lPIsDropped cPIsDropped kPIsDropped
  have bPIsDropped := FPIsDropped.binds (ps := ["stage", "sign", "before"]) fun _ _ _ _ _ _ us hl => match us, hl with | [_, _, _], _ => rfl
  have FPMarked := fun_mk (st := sPMarked) lPMarked cPMarked kPMarked
  have bPMarked := FPMarked.binds (ps := ["stage", "text"]) fun _ _ _ _ _ _ us hl => match us, hl with | [_, _], _ => rfl
  have FPDropWords := fun_mk (st := sPDropWords) lPDropWords cPDropWords kPDropWords
  have bPDropWords := FPDropWords.binds (ps := ["stage", "ending"]) fun _ _ _ _ _ _ us hl => match us, hl with | [_, _], _ => rfl
  have FPReadDrop := fun_mk (st := sPReadDrop) lPReadDrop cPReadDrop kPReadDrop
  have bPReadDrop := FPReadDrop.binds (ps := ["alphabet", "words"]) fun _ _ _ _ _ _ us hl => match us, hl with | [_, _], _ => rfl
  have FPReadStage := fun_mk (st := sPReadStage) lPReadStage cPReadStage kPReadStage
  have bPReadStage := FPReadStage.binds (ps := ["alphabet", "written"]) fun _ _ _ _ _ _ us hl => match us, hl with | [_, _], _ => rfl
  have FBox := fun_mk (st := sBox) lBox cBox kBox
  have bBox := FBox.binds (ps := ["_law_script", "_law_at"]) fun _ _ _ _ _ _ us hl => match us, hl with | [_, _], _ => rfl
  have FTake := fun_mk (st := sTake) lTake cTake kTake
  have bTake := FTake.binds (ps := ["_law_box_here", "_law_many"]) fun _ _ _ _ _ _ us hl => match us, hl with | [_, _], _ => rfl
  have FWorld := fun_mk (st := sWorld) lWorld cWorld kWorld
  have bWorld := FWorld.binds (ps := ["_law_box_here", "_law_count"]) fun _ _ _ _ _ _ us hl => match us, hl with | [_, _], _ => rfl
  have FName := fun_mk (st := sName) lName cName kName
  have bName := FName.binds (ps := ["_law_box_here", "_law_signs"]) fun _ _ _ _ _ _ us hl => match us, hl with | [_, _], _ => rfl
  have FMembers := fun_mk (st := sMembers) lMembers cMembers kMembers
  have bMembers := FMembers.binds (ps := ["_law_name_here", "_law_signs", "_law_vowels"]) fun _ _ _ _ _ _ us hl => match us, hl with | [_, _, _], _ => rfl
  have FText := fun_mk (st := sText) lText cText kText
  have bText := FText.binds (ps := ["_law_box_here", "_law_signs"]) fun _ _ _ _ _ _ us hl => match us, hl with | [_, _], _ => rfl
  have FSignWord := fun_mk (st := sSignWord) lSignWord cSignWord kSignWord
  have bSignWord := FSignWord.binds (ps := ["_law_box_here", "_law_signs", "_law_pool"]) fun _ _ _ _ _ _ us hl => match us, hl with | [_, _, _], _ => rfl
  have FSetWord := fun_mk (st := sSetWord) lSetWord cSetWord kSetWord
  have bSetWord := FSetWord.binds (ps := ["_law_box_here", "_law_signs", "_law_pool"]) fun _ _ _ _ _ _ us hl => match us, hl with | [_, _, _], _ => rfl
  have FNumberWord := fun_mk (st := sNumberWord) lNumberWord cNumberWord kNumberWord
  have bNumberWord := FNumberWord.binds (ps := ["_law_box_here"]) fun _ _ _ _ _ _ us hl => match us, hl with | [_], _ => rfl
  have FWords := fun_mk (st := sWords) lWords cWords kWords
  have bWords := FWords.binds (ps := ["_law_box_here", "_law_signs", "_law_pool"]) fun _ _ _ _ _ _ us hl => match us, hl with | [_, _, _], _ => rfl
  have FSpoilt := fun_mk (st := sSpoilt) lSpoilt cSpoilt kSpoilt
  have bSpoilt := FSpoilt.binds (ps := ["_law_box_here", "_law_words_here"]) fun _ _ _ _ _ _ us hl => match us, hl with | [_, _], _ => rfl
  have FParts := fun_mk (st := sParts) lParts cParts kParts
  have bParts := FParts.binds (ps := ["_law_words_here"]) fun _ _ _ _ _ _ us hl => match us, hl with | [_], _ => rfl
  have FIsSet := fun_mk (st := sIsSet) lIsSet cIsSet kIsSet
  have bIsSet := FIsSet.binds (ps := ["_law_name_here", "_law_signs"]) fun _ _ _ _ _ _ us hl => match us, hl with | [_, _], _ => rfl
  have FWrong := fun_mk (st := sWrong) lWrong cWrong kWrong
  have bWrong := FWrong.binds (ps := ["_law_parts_here", "_law_signs"]) fun _ _ _ _ _ _ us hl => match us, hl with | [_, _], _ => rfl
  have FRefusal := fun_mk (st := sRefusal) lRefusal cRefusal kRefusal
  have bRefusal := FRefusal.binds (ps := ["_law_alpha", "_law_written"]) fun _ _ _ _ _ _ us hl => match us, hl with | [_, _], _ => rfl
  have FObject := fun_mk (st := sObject) lObject cObject kObject
  have bObject := FObject.binds (ps := ["_law_alpha", "_law_parts_here"]) fun _ _ _ _ _ _ us hl => match us, hl with | [_, _], _ => rfl
  have FDue := fun_mk (st := sDue) lDue cDue kDue
  have bDue := FDue.binds (ps := ["_law_parts_here", "_law_members_here", "_law_text_here"]) fun _ _ _ _ _ _ us hl => match us, hl with | [_, _, _], _ => rfl
  have FRightKind := fun_mk (st := sRightKind) lRightKind cRightKind kRightKind
  have bRightKind := FRightKind.binds (ps := ["_law_stage", "_law_kind"]) fun _ _ _ _ _ _ us hl => match us, hl with | [_, _], _ => rfl
  have FLaw := fun_mk (st := sLaw) lLaw cLaw kLaw
  have bLaw := FLaw.binds (ps := ["_law_script"]) fun _ _ _ _ _ _ us hl => match us, hl with | [_], _ => rfl
  have FAsc := fun_mk (st := sAsc) lAsc cAsc kAsc
  have bAsc := FAsc.binds (ps := ["self", "text"]) fun _ _ _ _ _ _ us hl => match us, hl with | [_, _], _ => rfl
  have FIsSign := fun_mk (st := sIsSign) lIsSign cIsSign kIsSign
  have bIsSign := FIsSign.binds (ps := ["self", "text"]) fun _ _ _ _ _ _ us hl => match us, hl with | [_, _], _ => rfl
  have FSignsOf := fun_mk (st := sSignsOf) lSignsOf cSignsOf kSignsOf
  have bSignsOf := FSignsOf.binds (ps := ["self", "name"]) fun _ _ _ _ _ _ us hl => match us, hl with | [_, _], _ => rfl
  have FIsText := fun_mk (st := sIsText) lIsText cIsText kIsText
  have bIsText := FIsText.binds (ps := ["self", "text"]) fun _ _ _ _ _ _ us hl => match us, hl with | [_, _], _ => rfl
  have FCheck := fun_mk (st := sCheck) lCheck cCheck kCheck
  have bCheck := FCheck.binds (ps := ["self", "text"]) fun _ _ _ _ _ _ us hl => match us, hl with | [_, _], _ => rfl
  have FDropCall := fun_mk (st := sDropCall) lDropCall cDropCall kDropCall
  have bDropCall := FDropCall.binds (ps := ["self", "text"]) fun _ _ _ _ _ _ us hl => match us, hl with | [_, _], _ => rfl
  have FDropStr := fun_mk (st := sDropStr) lDropStr cDropStr kDropStr
  have bDropStr := FDropStr.binds (ps := ["self"]) fun _ _ _ _ _ _ us hl => match us, hl with | [_], _ => rfl
  have FLastDropCall := fun_mk (st := sLastDropCall) lLastDropCall cLastDropCall kLastDropCall
  have bLastDropCall := FLastDropCall.binds (ps := ["self", "text"]) fun _ _ _ _ _ _ us hl => match us, hl with | [_, _], _ => rfl
  have FLastDropStr := fun_mk (st := sLastDropStr) lLastDropStr cLastDropStr kLastDropStr
  have bLastDropStr := FLastDropStr.binds (ps := ["self"]) fun _ _ _ _ _ _ us hl => match us, hl with | [_], _ => rfl
  have FWriteCall := fun_mk (st := sWriteCall) lWriteCall cWriteCall kWriteCall
  have bWriteCall := FWriteCall.binds (ps := ["self", "text"]) fun _ _ _ _ _ _ us hl => match us, hl with | [_, _], _ => rfl
  have FWriteStr := fun_mk (st := sWriteStr) lWriteStr cWriteStr kWriteStr
  have bWriteStr := FWriteStr.binds (ps := ["self"]) fun _ _ _ _ _ _ us hl => match us, hl with | [_], _ => rfl
  have FOnceCall := fun_mk (st := sOnceCall) lOnceCall cOnceCall kOnceCall
  have bOnceCall := FOnceCall.binds (ps := ["self", "text"]) fun _ _ _ _ _ _ us hl => match us, hl with | [_, _], _ => rfl
  have FOnceStr := fun_mk (st := sOnceStr) lOnceStr cOnceStr kOnceStr
  have bOnceStr := FOnceStr.binds (ps := ["self"]) fun _ _ _ _ _ _ us hl => match us, hl with | [_], _ => rfl
  have FAddCall := fun_mk (st := sAddCall) lAddCall cAddCall kAddCall
  have bAddCall := FAddCall.binds (ps := ["self", "text"]) fun _ _ _ _ _ _ us hl => match us, hl with | [_, _], _ => rfl
  have FAddStr := fun_mk (st := sAddStr) lAddStr cAddStr kAddStr
  have bAddStr := FAddStr.binds (ps := ["self"]) fun _ _ _ _ _ _ us hl => match us, hl with | [_], _ => rfl
  have FAlEq := fun_mk (st := sAlEq) lAlEq cAlEq kAlEq
  have bAlEq := FAlEq.binds (ps := ["self", "other"]) fun _ _ _ _ _ _ us hl => match us, hl with | [_, _], _ => rfl
  have FSI := fun_mk (st := sSI) lSI cSI kSI
  have bSI := FSI.binds (ps := ["self", "alphabet"]) fun _ _ _ _ _ _ us hl => match us, hl with | [_, _], _ => rfl
  have hOW : (Value.ref CO != Value.ref CW) = true := by
    have hn : Value.ref CO ≠ Value.ref CW := fun e => by
      rw [e, sCW_CW] at sCW_CO
      cases sCW_CO
    simpa using hn
  have supCW : PySem.W.ks_superIn K CW CW "__init__" = some (some (.ref fSI)) := by
    have e1 := aSI
    rw [find_of_cls clCS] at e1
    unfold PySem.W.ks_superIn
    rw [clCW]
    show PySem.W.alongIn K "__init__" (([Value.ref CW, .ref CS, .type "object"].dropWhile (· != .ref CW)).drop 1) = _
    have hb : (Value.ref CW != .ref CW) = false := by simp
    rw [List.dropWhile_cons, hb]
    exact e1
  have SCCW : SupP l.prog K mg CW CW ccDI cdaDI "__init__" fSI := ⟨⟨_, _, _, lccDI⟩, ⟨_, _, _, _, _, _, lcdDI, hvDI, hflDI⟩, iscCW, sCW_CW, supCW, tySI, fnSI, noT, gn noM, anyS⟩
  have supCO : PySem.W.ks_superIn K CO CW "__init__" = some (some (.ref fSI)) := by
    have e1 := aSI
    rw [find_of_cls clCS] at e1
    unfold PySem.W.ks_superIn
    rw [clCO]
    show PySem.W.alongIn K "__init__" (([Value.ref CO, .ref CW, .ref CS, .type "object"].dropWhile (· != .ref CW)).drop 1) = _
    have hb : (Value.ref CW != .ref CW) = false := by simp
    rw [List.dropWhile_cons, hOW, if_pos rfl, List.dropWhile_cons, hb]
    exact e1
  have SCCO : SupP l.prog K mg CO CW ccDI cdaDI "__init__" fSI := ⟨⟨_, _, _, lccDI⟩, ⟨_, _, _, _, _, _, lcdDI, hvDI, hflDI⟩, iscCW, sCO_CW, supCO, tySI, fnSI, noT, gn noM, anyS⟩
  have hqD : ∀ q ∈ kwDI, ∃ u, PySem.W.nsIn K kD q.1 = some (some u) ∧ L2.RelV q.2 u := fun q hq => by
    rcases List.mem_cons.mp hq with rfl | hq
    · exact ⟨_, kwa, ⟨_, rfl⟩⟩
    · rcases List.mem_cons.mp hq with rfl | hq
      · exact ⟨_, kwe, rfl⟩
      · cases hq
  have supWI : PySem.W.ks_superIn K CR CR "__init__" = some (some (.ref fSI)) := by
    have e1 := aSI
    rw [find_of_cls clCS] at e1
    unfold PySem.W.ks_superIn
    rw [clCR]
    show PySem.W.alongIn K "__init__" (([Value.ref CR, .ref CS, .type "object"].dropWhile (· != .ref CR)).drop 1) = _
    have hb : (Value.ref CR != .ref CR) = false := by simp
    rw [List.dropWhile_cons, hb]
    exact e1
  have SCWI : SupP l.prog K mg CR CR ccWI cdaWI "__init__" fSI := ⟨⟨_, _, _, lccWI⟩, ⟨_, _, _, _, _, _, lcdWI, hvWI, hflWI⟩, iscCR, sCR_CR, supWI, tySI, fnSI, noT, gn noM, anyS⟩
  have bWI : Binds K (PySem.W.ksFn "__init__" "Write.__init__" (defArgs sWI) (defBody sWI) (defScope sWI) .none kVWI dcWI pmWI anWI (.ref cdaWI) ctWI ccWI) ["self", "alphabet", "sign", "name"] [] := Binds.all fun us hl => match us, hl with | [_, _, _, _], _ => rfl
  have supOI : PySem.W.ks_superIn K CN CN "__init__" = some (some (.ref fSI)) := by
    have e1 := aSI
    rw [find_of_cls clCS] at e1
    unfold PySem.W.ks_superIn
    rw [clCN]
    show PySem.W.alongIn K "__init__" (([Value.ref CN, .ref CS, .type "object"].dropWhile (· != .ref CN)).drop 1) = _
    have hb : (Value.ref CN != .ref CN) = false := by simp
    rw [List.dropWhile_cons, hb]
    exact e1
  have SCOI : SupP l.prog K mg CN CN ccOI cdaOI "__init__" fSI := ⟨⟨_, _, _, lccOI⟩, ⟨_, _, _, _, _, _, lcdOI, hvOI, hflOI⟩, iscCN, sCN_CN, supOI, tySI, fnSI, noT, gn noM, anyS⟩
  have bOI : Binds K (PySem.W.ksFn "__init__" "Once.__init__" (defArgs sOI) (defBody sOI) (defScope sOI) .none kVOI dcOI pmOI anOI (.ref cdaOI) ctOI ccOI) ["self", "alphabet", "name"] [] := Binds.all fun us hl => match us, hl with | [_, _, _], _ => rfl
  have supAI : PySem.W.ks_superIn K CD CD "__init__" = some (some (.ref fSI)) := by
    have e1 := aSI
    rw [find_of_cls clCS] at e1
    unfold PySem.W.ks_superIn
    rw [clCD]
    show PySem.W.alongIn K "__init__" (([Value.ref CD, .ref CS, .type "object"].dropWhile (· != .ref CD)).drop 1) = _
    have hb : (Value.ref CD != .ref CD) = false := by simp
    rw [List.dropWhile_cons, hb]
    exact e1
  have SCAI : SupP l.prog K mg CD CD ccAI cdaAI "__init__" fSI := ⟨⟨_, _, _, lccAI⟩, ⟨_, _, _, _, _, _, lcdAI, hvAI, hflAI⟩, iscCD, sCD_CD, supAI, tySI, fnSI, noT, gn noM, anyS⟩
  have bAI : Binds K (PySem.W.ksFn "__init__" "Add.__init__" (defArgs sAI2) (defBody sAI2) (defScope sAI2) .none kVAI dcAI pmAI anAI (.ref cdaAI) ctAI ccAI) ["self", "alphabet", "sign"] [] := Binds.all fun us hl => match us, hl with | [_, _, _], _ => rfl
  have FA : FunD K "__init__" "Alphabet.__init__" (defArgs sAI) (defBody sAI) (defScope sAI) [.str ""] [] fA (PySem.W.fnOf "__init__" "Alphabet.__init__" (defArgs sAI) (defBody sAI) (defScope sAI) (.ref TDA) kVA dcA pmA anA cdA ctA) :=
    ⟨⟨_, _, _, _, _, _, _, _, _, _, rfl, lA, cA, .inr ⟨by simp, TDA, _, [Value.str "" tDA], nDA, rfl, lDA, rfl, .cons ⟨_, rfl⟩ .nil⟩, .inl rfl⟩, kA⟩
  obtain ⟨d0A, v0A, bA⟩ := FA.binds1 (ps := ["self", "letters", "vowels"]) 3 1 (by simp) rfl fun T kV doc pm an cdv ct us its h1 h2 => match us, its, h1, h2 with | [_, _, _], [_], _, _ => ⟨_, rfl, rfl⟩
  have ed0A : d0A = [] := by
    cases v0A
    rfl
  subst ed0A
  have OXBA : OexC K BA := ⟨⟨_, _, _, _, _, _, _, _, _, _, _, _, _, _, _, xBA, rfl⟩, saBA, eBA, tBA, kBA⟩
  have supBA : PySem.W.ks_superIn K BA BA "__init__" = some (some (.builtin "ValueError.__init__")) := by
    have hcl : PySem.W.clsIn K BA = some { name := nmBA, bases := bsBA, mro := .ref BA :: [.ref TE, .type "ValueError", .type "Exception", .type "BaseException", .type "object"], ns := NBA, qualname := qBA, hasDict := true, slotNames := snBA, subclasses := subBA, abstract := abBA, collection := colBA, hasDel := false } := by
      unfold PySem.W.clsIn
      rw [xBA] <;> rfl
    unfold PySem.W.ks_superIn
    rw [hcl]
    have e1 : PySem.W.findIn K (.ref TE) "__init__" = PySem.W.alongIn K "__init__" [.ref TE, .type "ValueError", .type "Exception", .type "BaseException", .type "object"] := by
      unfold PySem.W.findIn
      simp only [xTE]
    rw [← iTE, e1]
    show PySem.W.alongIn K "__init__" (((Value.ref BA :: [.ref TE, .type "ValueError", .type "Exception", .type "BaseException", .type "object"]).dropWhile (· != .ref BA)).drop 1) = _
    have hb : (Value.ref BA != .ref BA) = false := by simp
    rw [List.dropWhile_cons, hb]
    rfl
  have SCBA : SupC l.prog K mg BA ccBA cdaBA := ⟨OXBA, ⟨_, _, _, lccBA⟩, ⟨_, _, _, _, _, _, lcdBA, hvBA, hflBA⟩, mmBA, supBA, vBA, noT, gn noM, anyS⟩
  have bBA : Binds K (PySem.W.ksFn "__init__" "BadAlphabet.__init__" (defArgs sBA) (defBody sBA) (defScope sBA) .none kVBA dcBA pmBA anBA (.ref cdaBA) ctBA ccBA) ["self", "part"] [] := Binds.all fun us hl => match us, hl with | [_, _], _ => rfl
  have OXBT : OexC K BT := ⟨⟨_, _, _, _, _, _, _, _, _, _, _, _, _, _, _, xBT, rfl⟩, saBT, eBT, tBT, kBT⟩
  have supBT : PySem.W.ks_superIn K BT BT "__init__" = some (some (.builtin "ValueError.__init__")) := by
    have hcl : PySem.W.clsIn K BT = some { name := nmBT, bases := bsBT, mro := .ref BT :: [.ref TE, .type "ValueError", .type "Exception", .type "BaseException", .type "object"], ns := NBT, qualname := qBT, hasDict := true, slotNames := snBT, subclasses := subBT, abstract := abBT, collection := colBT, hasDel := false } := by
      unfold PySem.W.clsIn
      rw [xBT] <;> rfl
    unfold PySem.W.ks_superIn
    rw [hcl]
    have e1 : PySem.W.findIn K (.ref TE) "__init__" = PySem.W.alongIn K "__init__" [.ref TE, .type "ValueError", .type "Exception", .type "BaseException", .type "object"] := by
      unfold PySem.W.findIn
      simp only [xTE]
    rw [← iTE, e1]
    show PySem.W.alongIn K "__init__" (((Value.ref BT :: [.ref TE, .type "ValueError", .type "Exception", .type "BaseException", .type "object"]).dropWhile (· != .ref BT)).drop 1) = _
    have hb : (Value.ref BT != .ref BT) = false := by simp
    rw [List.dropWhile_cons, hb]
    rfl
  have SCBT : SupC l.prog K mg BT ccBT cdaBT := ⟨OXBT, ⟨_, _, _, lccBT⟩, ⟨_, _, _, _, _, _, lcdBT, hvBT, hflBT⟩, mmBT, supBT, vBT, noT, gn noM, anyS⟩
  have bBT : Binds K (PySem.W.ksFn "__init__" "BadText.__init__" (defArgs sBadText) (defBody sBadText) (defScope sBadText) .none kVBT dcBT pmBT anBT (.ref cdaBT) ctBT ccBT) ["self", "text"] [] := Binds.all fun us hl => match us, hl with | [_, _], _ => rfl
  have OXBN : OexC K BN := ⟨⟨_, _, _, _, _, _, _, _, _, _, _, _, _, _, _, xBN, rfl⟩, saBN, eBN, tBN, kBN⟩
  have supBN : PySem.W.ks_superIn K BN BN "__init__" = some (some (.builtin "ValueError.__init__")) := by
    have hcl : PySem.W.clsIn K BN = some { name := nmBN, bases := bsBN, mro := .ref BN :: [.ref TE, .type "ValueError", .type "Exception", .type "BaseException", .type "object"], ns := NBN, qualname := qBN, hasDict := true, slotNames := snBN, subclasses := subBN, abstract := abBN, collection := colBN, hasDel := false } := by
      unfold PySem.W.clsIn
      rw [xBN] <;> rfl
    unfold PySem.W.ks_superIn
    rw [hcl]
    have e1 : PySem.W.findIn K (.ref TE) "__init__" = PySem.W.alongIn K "__init__" [.ref TE, .type "ValueError", .type "Exception", .type "BaseException", .type "object"] := by
      unfold PySem.W.findIn
      simp only [xTE]
    rw [← iTE, e1]
    show PySem.W.alongIn K "__init__" (((Value.ref BN :: [.ref TE, .type "ValueError", .type "Exception", .type "BaseException", .type "object"]).dropWhile (· != .ref BN)).drop 1) = _
    have hb : (Value.ref BN != .ref BN) = false := by simp
    rw [List.dropWhile_cons, hb]
    rfl
  have SCBN : SupC l.prog K mg BN ccBN cdaBN := ⟨OXBN, ⟨_, _, _, lccBN⟩, ⟨_, _, _, _, _, _, lcdBN, hvBN, hflBN⟩, mmBN, supBN, vBN, noT, gn noM, anyS⟩
  have bBN : Binds K (PySem.W.ksFn "__init__" "BadSet.__init__" (defArgs sBadSet) (defBody sBadSet) (defScope sBadSet) .none kVBN dcBN pmBN anBN (.ref cdaBN) ctBN ccBN) ["self", "name"] [] := Binds.all fun us hl => match us, hl with | [_, _], _ => rfl
  have OXBS : OexC K BS := ⟨⟨_, _, _, _, _, _, _, _, _, _, _, _, _, _, _, xBS, rfl⟩, saBS, eBS, tBS, kBS⟩
  have supBS : PySem.W.ks_superIn K BS BS "__init__" = some (some (.builtin "ValueError.__init__")) := by
    have hcl : PySem.W.clsIn K BS = some { name := nmBS, bases := bsBS, mro := .ref BS :: [.ref TE, .type "ValueError", .type "Exception", .type "BaseException", .type "object"], ns := NBS, qualname := qBS, hasDict := true, slotNames := snBS, subclasses := subBS, abstract := abBS, collection := colBS, hasDel := false } := by
      unfold PySem.W.clsIn
      rw [xBS] <;> rfl
    unfold PySem.W.ks_superIn
    rw [hcl]
    have e1 : PySem.W.findIn K (.ref TE) "__init__" = PySem.W.alongIn K "__init__" [.ref TE, .type "ValueError", .type "Exception", .type "BaseException", .type "object"] := by
      unfold PySem.W.findIn
      simp only [xTE]
    rw [← iTE, e1]
    show PySem.W.alongIn K "__init__" (((Value.ref BS :: [.ref TE, .type "ValueError", .type "Exception", .type "BaseException", .type "object"]).dropWhile (· != .ref BS)).drop 1) = _
    have hb : (Value.ref BS != .ref BS) = false := by simp
    rw [List.dropWhile_cons, hb]
    rfl
  have SCBS : SupC l.prog K mg BS ccBS cdaBS := ⟨OXBS, ⟨_, _, _, lccBS⟩, ⟨_, _, _, _, _, _, lcdBS, hvBS, hflBS⟩, mmBS, supBS, vBS, noT, gn noM, anyS⟩
  have bBS : Binds K (PySem.W.ksFn "__init__" "BadStage.__init__" (defArgs sBadStage) (defBody sBadStage) (defScope sBadStage) .none kVBS dcBS pmBS anBS (.ref cdaBS) ctBS ccBS) ["self", "what"] [] := Binds.all fun us hl => match us, hl with | [_, _], _ => rfl
  have EBT : EF K mg "BadText" BT fBT (PySem.W.ksFn "__init__" "BadText.__init__" (defArgs sBadText) (defBody sBadText) (defScope sBadText) .none kVBT dcBT pmBT anBT (.ref cdaBT) ctBT ccBT) ["self", "text"] := ⟨OXBT, aFBT, tFBT, gm aBT, bBT⟩
  have EBN : EF K mg "BadSet" BN fBN (PySem.W.ksFn "__init__" "BadSet.__init__" (defArgs sBadSet) (defBody sBadSet) (defScope sBadSet) .none kVBN dcBN pmBN anBN (.ref cdaBN) ctBN ccBN) ["self", "name"] := ⟨OXBN, aFBN, tFBN, gm aBN, bBN⟩
  have EBS : EF K mg "BadStage" BS fBS (PySem.W.ksFn "__init__" "BadStage.__init__" (defArgs sBadStage) (defBody sBadStage) (defScope sBadStage) .none kVBS dcBS pmBS anBS (.ref cdaBS) ctBS ccBS) ["self", "what"] := ⟨OXBS, aFBS, tFBS, gm aBS, bBS⟩
  have T : Fns K mg ⟨fDiff, fAsc, fIsSign, fSignsOf, fIsText, fCheck, fPCheckSign, fPSignsOfSet, fPNumberAfter, fPIsDropped, fPMarked, fPDropWords, fDropCall, fDropStr, fLastDropCall, fLastDropStr, fWriteCall, fWriteStr, fOnceCall, fOnceStr, fAddCall, fAddStr, fPReadDrop, fPReadStage, fBox, fTake, fWorld, fName, fMembers, fText, fSignWord, fSetWord, fNumberWord, fWords, fSpoilt, fParts, fIsSet, fWrong, fRefusal, fObject, fDue, fRightKind, fa, fAlEq, CS, CW, CO, CR, CN, CD, C, TE, BT, fBT, BN, fBN, BS, fBS, fSI, fDI, fWI, fOI, fAI, tj2, tMost⟩
      ⟨(PySem.W.fnOf "differ_within" "differ_within" (defArgs sDiff) (defBody sDiff) (defScope sDiff) .none kVDiff dcDiff pmDiff anDiff cdDiff ctDiff), (PySem.W.fnOf "are_ascending" "Alphabet.are_ascending" (defArgs sAsc) (defBody sAsc) (defScope sAsc) .none kVAsc dcAsc pmAsc anAsc cdAsc ctAsc), (PySem.W.fnOf "is_sign" "Alphabet.is_sign" (defArgs sIsSign) (defBody sIsSign) (defScope sIsSign) .none kVIsSign dcIsSign pmIsSign anIsSign cdIsSign ctIsSign), (PySem.W.fnOf "signs_of" "Alphabet.signs_of" (defArgs sSignsOf) (defBody sSignsOf) (defScope sSignsOf) .none kVSignsOf dcSignsOf pmSignsOf anSignsOf cdSignsOf ctSignsOf), (PySem.W.fnOf "is_text" "Alphabet.is_text" (defArgs sIsText) (defBody sIsText) (defScope sIsText) .none kVIsText dcIsText pmIsText anIsText cdIsText ctIsText), (PySem.W.fnOf "check" "Alphabet.check" (defArgs sCheck) (defBody sCheck) (defScope sCheck) .none kVCheck dcCheck pmCheck anCheck cdCheck ctCheck), (PySem.W.fnOf "check_sign" "check_sign" (defArgs sPCheckSign) (defBody sPCheckSign) (defScope sPCheckSign) .none kVPCheckSign dcPCheckSign pmPCheckSign anPCheckSign cdPCheckSign ctPCheckSign), (PySem.W.fnOf "signs_of_set" "signs_of_set" (defArgs sPSignsOfSet) (defBody sPSignsOfSet) (defScope sPSignsOfSet) .none kVPSignsOfSet dcPSignsOfSet pmPSignsOfSet anPSignsOfSet cdPSignsOfSet ctPSignsOfSet), (PySem.W.fnOf "number_after" "number_after" (defArgs sPNumberAfter) (defBody sPNumberAfter) (defScope sPNumberAfter) .none kVPNumberAfter dcPNumberAfter pmPNumberAfter anPNumberAfter cdPNumberAfter ctPNumberAfter), (PySem.W.fnOf "is_dropped" "is_dropped" (defArgs sPIsDropped) (defBody sPIsDropped) (defScope sPIsDropped) .none kVPIsDropped dcPIsDropped pmPIsDropped anPIsDropped cdPIsDropped ctPIsDropped), (PySem.W.fnOf "marked" "marked" (defArgs sPMarked) (defBody sPMarked) (defScope sPMarked) .none kVPMarked dcPMarked pmPMarked anPMarked cdPMarked ctPMarked), (PySem.W.fnOf "drop_words" "drop_words" (defArgs sPDropWords) (defBody sPDropWords) (defScope sPDropWords) .none kVPDropWords dcPDropWords pmPDropWords anPDropWords cdPDropWords ctPDropWords), (PySem.W.fnOf "__call__" "Drop.__call__" (defArgs sDropCall) (defBody sDropCall) (defScope sDropCall) .none kVDropCall dcDropCall pmDropCall anDropCall cdDropCall ctDropCall), (PySem.W.fnOf "__str__" "Drop.__str__" (defArgs sDropStr) (defBody sDropStr) (defScope sDropStr) .none kVDropStr dcDropStr pmDropStr anDropStr cdDropStr ctDropStr), (PySem.W.fnOf "__call__" "LastDrop.__call__" (defArgs sLastDropCall) (defBody sLastDropCall) (defScope sLastDropCall) .none kVLastDropCall dcLastDropCall pmLastDropCall anLastDropCall cdLastDropCall ctLastDropCall), (PySem.W.fnOf "__str__" "LastDrop.__str__" (defArgs sLastDropStr) (defBody sLastDropStr) (defScope sLastDropStr) .none kVLastDropStr dcLastDropStr pmLastDropStr anLastDropStr cdLastDropStr ctLastDropStr), (PySem.W.fnOf "__call__" "Write.__call__" (defArgs sWriteCall) (defBody sWriteCall) (defScope sWriteCall) .none kVWriteCall dcWriteCall pmWriteCall anWriteCall cdWriteCall ctWriteCall), (PySem.W.fnOf "__str__" "Write.__str__" (defArgs sWriteStr) (defBody sWriteStr) (defScope sWriteStr) .none kVWriteStr dcWriteStr pmWriteStr anWriteStr cdWriteStr ctWriteStr), (PySem.W.fnOf "__call__" "Once.__call__" (defArgs sOnceCall) (defBody sOnceCall) (defScope sOnceCall) .none kVOnceCall dcOnceCall pmOnceCall anOnceCall cdOnceCall ctOnceCall), (PySem.W.fnOf "__str__" "Once.__str__" (defArgs sOnceStr) (defBody sOnceStr) (defScope sOnceStr) .none kVOnceStr dcOnceStr pmOnceStr anOnceStr cdOnceStr ctOnceStr), (PySem.W.fnOf "__call__" "Add.__call__" (defArgs sAddCall) (defBody sAddCall) (defScope sAddCall) .none kVAddCall dcAddCall pmAddCall anAddCall cdAddCall ctAddCall), (PySem.W.fnOf "__str__" "Add.__str__" (defArgs sAddStr) (defBody sAddStr) (defScope sAddStr) .none kVAddStr dcAddStr pmAddStr anAddStr cdAddStr ctAddStr), (PySem.W.fnOf "read_drop" "read_drop" (defArgs sPReadDrop) (defBody sPReadDrop) (defScope sPReadDrop) .none kVPReadDrop dcPReadDrop pmPReadDrop anPReadDrop cdPReadDrop ctPReadDrop), (PySem.W.fnOf "read_stage" "read_stage" (defArgs sPReadStage) (defBody sPReadStage) (defScope sPReadStage) .none kVPReadStage dcPReadStage pmPReadStage anPReadStage cdPReadStage ctPReadStage), (PySem.W.fnOf "_law_box" "_law_box" (defArgs sBox) (defBody sBox) (defScope sBox) .none kVBox dcBox pmBox anBox cdBox ctBox), (PySem.W.fnOf "_law_take" "_law_take" (defArgs sTake) (defBody sTake) (defScope sTake) .none kVTake dcTake pmTake anTake cdTake ctTake), (PySem.W.fnOf "_law_world" "_law_world" (defArgs sWorld) (defBody sWorld) (defScope sWorld) .none kVWorld dcWorld pmWorld anWorld cdWorld ctWorld), (PySem.W.fnOf "_law_name" "_law_name" (defArgs sName) (defBody sName) (defScope sName) .none kVName dcName pmName anName cdName ctName), (PySem.W.fnOf "_law_members" "_law_members" (defArgs sMembers) (defBody sMembers) (defScope sMembers) .none kVMembers dcMembers pmMembers anMembers cdMembers ctMembers), (PySem.W.fnOf "_law_text" "_law_text" (defArgs sText) (defBody sText) (defScope sText) .none kVText dcText pmText anText cdText ctText), (PySem.W.fnOf "_law_sign_word" "_law_sign_word" (defArgs sSignWord) (defBody sSignWord) (defScope sSignWord) .none kVSignWord dcSignWord pmSignWord anSignWord cdSignWord ctSignWord), (PySem.W.fnOf "_law_set_word" "_law_set_word" (defArgs sSetWord) (defBody sSetWord) (defScope sSetWord) .none kVSetWord dcSetWord pmSetWord anSetWord cdSetWord ctSetWord), (PySem.W.fnOf "_law_number_word" "_law_number_word" (defArgs sNumberWord) (defBody sNumberWord) (defScope sNumberWord) .none kVNumberWord dcNumberWord pmNumberWord anNumberWord cdNumberWord ctNumberWord), (PySem.W.fnOf "_law_words" "_law_words" (defArgs sWords) (defBody sWords) (defScope sWords) .none kVWords dcWords pmWords anWords cdWords ctWords), (PySem.W.fnOf "_law_spoilt" "_law_spoilt" (defArgs sSpoilt) (defBody sSpoilt) (defScope sSpoilt) .none kVSpoilt dcSpoilt pmSpoilt anSpoilt cdSpoilt ctSpoilt), (PySem.W.fnOf "_law_parts" "_law_parts" (defArgs sParts) (defBody sParts) (defScope sParts) .none kVParts dcParts pmParts anParts cdParts ctParts), (PySem.W.fnOf "_law_is_set" "_law_is_set" (defArgs sIsSet) (defBody sIsSet) (defScope sIsSet) .none kVIsSet dcIsSet pmIsSet anIsSet cdIsSet ctIsSet), (PySem.W.fnOf "_law_wrong" "_law_wrong" (defArgs sWrong) (defBody sWrong) (defScope sWrong) .none kVWrong dcWrong pmWrong anWrong cdWrong ctWrong), (PySem.W.fnOf "_law_refusal" "_law_refusal" (defArgs sRefusal) (defBody sRefusal) (defScope sRefusal) .none kVRefusal dcRefusal pmRefusal anRefusal cdRefusal ctRefusal), (PySem.W.fnOf "_law_object" "_law_object" (defArgs sObject) (defBody sObject) (defScope sObject) .none kVObject dcObject pmObject anObject cdObject ctObject), (PySem.W.fnOf "_law_due" "_law_due" (defArgs sDue) (defBody sDue) (defScope sDue) .none kVDue dcDue pmDue anDue cdDue ctDue), (PySem.W.fnOf "_law_right_kind" "_law_right_kind" (defArgs sRightKind) (defBody sRightKind) (defScope sRightKind) .none kVRightKind dcRightKind pmRightKind anRightKind cdRightKind ctRightKind), (PySem.W.fnOf "law" "law" (defArgs sLaw) (defBody sLaw) (defScope sLaw) .none kVLaw dcLaw pmLaw anLaw cdLaw ctLaw), (PySem.W.fnOf "__eq__" "Alphabet.__eq__" (defArgs sAlEq) (defBody sAlEq) (defScope sAlEq) .none kVAlEq dcAlEq pmAlEq anAlEq cdAlEq ctAlEq), (PySem.W.ksFn "__init__" "BadText.__init__" (defArgs sBadText) (defBody sBadText) (defScope sBadText) .none kVBT dcBT pmBT anBT (.ref cdaBT) ctBT ccBT), (PySem.W.ksFn "__init__" "BadSet.__init__" (defArgs sBadSet) (defBody sBadSet) (defScope sBadSet) .none kVBN dcBN pmBN anBN (.ref cdaBN) ctBN ccBN), (PySem.W.ksFn "__init__" "BadStage.__init__" (defArgs sBadStage) (defBody sBadStage) (defScope sBadStage) .none kVBS dcBS pmBS anBS (.ref cdaBS) ctBS ccBS), (PySem.W.fnOf "__init__" "Stage.__init__" (defArgs sSI) (defBody sSI) (defScope sSI) .none kVSI dcSI pmSI anSI cdSI ctSI), (PySem.W.ksFn "__init__" "Drop.__init__" (defArgs sDI) (defBody sDI) (defScope sDI) .none (.ref kD) dcDI pmDI anDI (.ref cdaDI) ctDI ccDI), (PySem.W.ksFn "__init__" "Write.__init__" (defArgs sWI) (defBody sWI) (defScope sWI) .none kVWI dcWI pmWI anWI (.ref cdaWI) ctWI ccWI), (PySem.W.ksFn "__init__" "Once.__init__" (defArgs sOI) (defBody sOI) (defScope sOI) .none kVOI dcOI pmOI anOI (.ref cdaOI) ctOI ccOI), (PySem.W.ksFn "__init__" "Add.__init__" (defArgs sAI2) (defBody sAI2) (defScope sAI2) .none kVAI dcAI pmAI anAI (.ref cdaAI) ctAI ccAI)⟩ :=
    { z_len := gn z_len, z_set := gn z_set, z_all := gn z_all, z_abs := gn z_abs, z_int := gn z_int, z_range := gn z_range, z_sorted := gn z_sorted, z_isinstance := gn z_isinstance, z_str := gn z_str, z_bool := gn z_bool, z_list := gn z_list, z_tuple := gn z_tuple, z_any := gn z_any, z_enum := gn z_enumerate, z_min := gn z_min, z_max := gn z_max, z_VE := gn z_ValueError,
      gDiff := gm aDiff, FDiff := FDiff, bDiff := bDiff,
      mAsc := ⟨aAsc, iAsc, kAsc⟩, FAsc := FAsc, bAsc := bAsc,
      mIsSign := ⟨aIsSign, iIsSign, kIsSign⟩, FIsSign := FIsSign, bIsSign := bIsSign,
      mSignsOf := ⟨aSignsOf, iSignsOf, kSignsOf⟩, FSignsOf := FSignsOf, bSignsOf := bSignsOf,
      mIsText := ⟨aIsText, iIsText, kIsText⟩, FIsText := FIsText, bIsText := bIsText,
      mCheck := ⟨aCheck, iCheck, kCheck⟩, FCheck := FCheck, bCheck := bCheck,
      gPCheckSign := gm aPCheckSign, FPCheckSign := FPCheckSign, bPCheckSign := bPCheckSign,
      gPSignsOfSet := gm aPSignsOfSet, FPSignsOfSet := FPSignsOfSet, bPSignsOfSet := bPSignsOfSet,
      gPNumberAfter := gm aPNumberAfter, FPNumberAfter := FPNumberAfter, bPNumberAfter := bPNumberAfter,
      gPIsDropped := gm aPIsDropped, FPIsDropped := FPIsDropped, bPIsDropped := bPIsDropped,
      gPMarked := gm aPMarked, FPMarked := FPMarked, bPMarked := bPMarked,
      gPDropWords := gm aPDropWords, FPDropWords := FPDropWords, bPDropWords := bPDropWords,
      mDropCall := ⟨aDropCall, iDropCall, kDropCall⟩, FDropCall := FDropCall, bDropCall := bDropCall,
      mDropStr := ⟨aDropStr, iDropStr, kDropStr⟩, FDropStr := FDropStr, bDropStr := bDropStr,
      mLastDropCall := ⟨aLastDropCall, iLastDropCall, kLastDropCall⟩, FLastDropCall := FLastDropCall, bLastDropCall := bLastDropCall,
      mLastDropStr := ⟨aLastDropStr, iLastDropStr, kLastDropStr⟩, FLastDropStr := FLastDropStr, bLastDropStr := bLastDropStr,
      mWriteCall := ⟨aWriteCall, iWriteCall, kWriteCall⟩, FWriteCall := FWriteCall, bWriteCall := bWriteCall,
      mWriteStr := ⟨aWriteStr, iWriteStr, kWriteStr⟩, FWriteStr := FWriteStr, bWriteStr := bWriteStr,
      mOnceCall := ⟨aOnceCall, iOnceCall, kOnceCall⟩, FOnceCall := FOnceCall, bOnceCall := bOnceCall,
      mOnceStr := ⟨aOnceStr, iOnceStr, kOnceStr⟩, FOnceStr := FOnceStr, bOnceStr := bOnceStr,
      mAddCall := ⟨aAddCall, iAddCall, kAddCall⟩, FAddCall := FAddCall, bAddCall := bAddCall,
      mAddStr := ⟨aAddStr, iAddStr, kAddStr⟩, FAddStr := FAddStr, bAddStr := bAddStr,
      gPReadDrop := gm aPReadDrop, FPReadDrop := FPReadDrop, bPReadDrop := bPReadDrop,
      gPReadStage := gm aPReadStage, FPReadStage := FPReadStage, bPReadStage := bPReadStage,
      gBox := gm aBox, FBox := FBox, bBox := bBox,
      gTake := gm aTake, FTake := FTake, bTake := bTake,
      gWorld := gm aWorld, FWorld := FWorld, bWorld := bWorld,
      gName := gm aName, FName := FName, bName := bName,
      gMembers := gm aMembers, FMembers := FMembers, bMembers := bMembers,
      gText := gm aText, FText := FText, bText := bText,
      gSignWord := gm aSignWord, FSignWord := FSignWord, bSignWord := bSignWord,
      gSetWord := gm aSetWord, FSetWord := FSetWord, bSetWord := bSetWord,
      gNumberWord := gm aNumberWord, FNumberWord := FNumberWord, bNumberWord := bNumberWord,
      gWords := gm aWords, FWords := FWords, bWords := bWords,
      gSpoilt := gm aSpoilt, FSpoilt := FSpoilt, bSpoilt := bSpoilt,
      gParts := gm aParts, FParts := FParts, bParts := bParts,
      gIsSet := gm aIsSet, FIsSet := FIsSet, bIsSet := bIsSet,
      gWrong := gm aWrong, FWrong := FWrong, bWrong := bWrong,
      gRefusal := gm aRefusal, FRefusal := FRefusal, bRefusal := bRefusal,
      gObject := gm aObject, FObject := FObject, bObject := bObject,
      gDue := gm aDue, FDue := FDue, bDue := bDue,
      gRightKind := gm aRightKind, FRightKind := FRightKind, bRightKind := bRightKind,
      gLaw := gm aLaw, FLaw := FLaw, bLaw := bLaw,
      mAlEq := ⟨aAlEq, iAlEq, kAlEq⟩, FAlEq := FAlEq, bAlEq := bAlEq,
      gcTaleError := gm aTE,
      gcStage := gm aCS,
      gcDrop := gm aCW,
      gcLastDrop := gm aCO,
      gcWrite := gm aCR,
      gcOnce := gm aCN,
      gcAdd := gm aCD,
      gMost := gm aMost,
      xBadText := EBT,
      xBadSet := EBN,
      xBadStage := EBS,
      clA := ⟨pgC, hdC, poC, saC⟩,
      nL := nC_letters,
      nV := nC_vowels,
      nC := nC_consonants,
      nS := nC_signs,
      joint := ⟨aJ, ⟨_, by rw [show S [45] = PySem.Str.ofString "-" by decide +kernel]⟩, gJ, by decide +kernel⟩,
      clS := ⟨pgCS, hdCS, poCS, saCS⟩,
      clW := ⟨pgCW, hdCW, poCW, saCW⟩,
      clO := ⟨pgCO, hdCO, poCO, saCO⟩,
      clWr := ⟨pgCR, hdCR, poCR, saCR⟩,
      clOn := ⟨pgCN, hdCN, poCN, saCN⟩,
      clAd := ⟨pgCD, hdCD, poCD, saCD⟩,
      nWral := nCR_alphabet,
      nWrsg := nCR_signs,
      nWrsi := nCR_sign,
      nWrnm := nCR_name,
      nOnal := nCN_alphabet,
      nOnsg := nCN_signs,
      nOnnm := nCN_name,
      nAdal := nCD_alphabet,
      nAdsi := nCD_sign,
      nSal := nCS_alphabet,
      nWal := nCW_alphabet,
      nWsg := nCW_signs,
      nWnm := nCW_name,
      nWaf := nCW_after,
      nWea := nCW_each,
      nOal := nCO_alphabet,
      nOsg := nCO_signs,
      nOnm := nCO_name,
      nOaf := nCO_after,
      nOea := nCO_each,
      eqN := nE }
  have A : AlF K C := ⟨⟨pgC, hdC, poC, saC⟩, nC_letters, nC_vowels, nC_consonants, nC_signs, icC, ig, it, imC⟩
  have AV : AlV K mg C (.type "type") tM tJ tl := ⟨gm aC, by rw [← az_S]; exact gm aSL, ⟨rdC, gaC⟩, ⟨vM, ⟨_, rfl⟩⟩, ⟨vJ, ⟨_, rfl⟩⟩⟩
  have BA' : BaF l.prog K mg BA fBA := ⟨OXBA, aFBA, tFBA, gm aBA⟩
  have kBST : PySem.W.kitOne K (.ref BS) (.ref TE) = some true := by
    have h1' : (PySem.W.clsIn K TE).isSome = true := clTE
    unfold PySem.W.kitOne
    by_cases e : (Value.ref BS == Value.ref TE) = true
    · rw [if_pos e]
    · rw [if_neg e]
      show (if ((PySem.W.clsIn K TE).isSome && PySem.W.typeIn K (.ref TE) == some (.type "type")) = true then PySem.W.subIn K (.ref BS) (.ref TE) else none) = _
      rw [h1', tTE, if_pos (by rfl), sBS_TE]
  have XBS : ErrX K (⟨fDiff, fAsc, fIsSign, fSignsOf, fIsText, fCheck, fPCheckSign, fPSignsOfSet, fPNumberAfter, fPIsDropped, fPMarked, fPDropWords, fDropCall, fDropStr, fLastDropCall, fLastDropStr, fWriteCall, fWriteStr, fOnceCall, fOnceStr, fAddCall, fAddStr, fPReadDrop, fPReadStage, fBox, fTake, fWorld, fName, fMembers, fText, fSignWord, fSetWord, fNumberWord, fWords, fSpoilt, fParts, fIsSet, fWrong, fRefusal, fObject, fDue, fRightKind, fa, fAlEq, CS, CW, CO, CR, CN, CD, C, TE, BT, fBT, BN, fBN, BS, fBS, fSI, fDI, fWI, fOI, fAI, tj2, tMost⟩ : Ad) BS "what" := ⟨⟨gaBS, ggBS, eBS, hBS⟩, nBS_what, ⟨gaBS, ggBS, eBS, hBS, icBS, ig, it, imBS⟩, PySem.W.exm_ref eBS hBS tBS sBS_BS, kBST, by
        unfold PySem.W.kitOne
        have hne : (Value.ref BS == Value.type "ValueError") = false := beq_eq_false_iff_ne.mpr fun e => by cases e
        rw [hne, if_neg Bool.false_ne_true]
        show (if PySem.W.kitMeta "ValueError" = true then PySem.W.subIn K (.ref BS) (.type "ValueError") else none) = _
        rw [if_pos (by decide +kernel), vBS]⟩
  have HN : Hnd K BN := ⟨PySem.W.exm_ref eBN hBN tBN sBN_BN⟩
  have MX : Mx K ⟨fDiff, fAsc, fIsSign, fSignsOf, fIsText, fCheck, fPCheckSign, fPSignsOfSet, fPNumberAfter, fPIsDropped, fPMarked, fPDropWords, fDropCall, fDropStr, fLastDropCall, fLastDropStr, fWriteCall, fWriteStr, fOnceCall, fOnceStr, fAddCall, fAddStr, fPReadDrop, fPReadStage, fBox, fTake, fWorld, fName, fMembers, fText, fSignWord, fSetWord, fNumberWord, fWords, fSpoilt, fParts, fIsSet, fWrong, fRefusal, fObject, fDue, fRightKind, fa, fAlEq, CS, CW, CO, CR, CN, CD, C, TE, BT, fBT, BN, fBN, BS, fBS, fSI, fDI, fWI, fOI, fAI, tj2, tMost⟩
      ⟨(PySem.W.fnOf "differ_within" "differ_within" (defArgs sDiff) (defBody sDiff) (defScope sDiff) .none kVDiff dcDiff pmDiff anDiff cdDiff ctDiff), (PySem.W.fnOf "are_ascending" "Alphabet.are_ascending" (defArgs sAsc) (defBody sAsc) (defScope sAsc) .none kVAsc dcAsc pmAsc anAsc cdAsc ctAsc), (PySem.W.fnOf "is_sign" "Alphabet.is_sign" (defArgs sIsSign) (defBody sIsSign) (defScope sIsSign) .none kVIsSign dcIsSign pmIsSign anIsSign cdIsSign ctIsSign), (PySem.W.fnOf "signs_of" "Alphabet.signs_of" (defArgs sSignsOf) (defBody sSignsOf) (defScope sSignsOf) .none kVSignsOf dcSignsOf pmSignsOf anSignsOf cdSignsOf ctSignsOf), (PySem.W.fnOf "is_text" "Alphabet.is_text" (defArgs sIsText) (defBody sIsText) (defScope sIsText) .none kVIsText dcIsText pmIsText anIsText cdIsText ctIsText), (PySem.W.fnOf "check" "Alphabet.check" (defArgs sCheck) (defBody sCheck) (defScope sCheck) .none kVCheck dcCheck pmCheck anCheck cdCheck ctCheck), (PySem.W.fnOf "check_sign" "check_sign" (defArgs sPCheckSign) (defBody sPCheckSign) (defScope sPCheckSign) .none kVPCheckSign dcPCheckSign pmPCheckSign anPCheckSign cdPCheckSign ctPCheckSign), (PySem.W.fnOf "signs_of_set" "signs_of_set" (defArgs sPSignsOfSet) (defBody sPSignsOfSet) (defScope sPSignsOfSet) .none kVPSignsOfSet dcPSignsOfSet pmPSignsOfSet anPSignsOfSet cdPSignsOfSet ctPSignsOfSet), (PySem.W.fnOf "number_after" "number_after" (defArgs sPNumberAfter) (defBody sPNumberAfter) (defScope sPNumberAfter) .none kVPNumberAfter dcPNumberAfter pmPNumberAfter anPNumberAfter cdPNumberAfter ctPNumberAfter), (PySem.W.fnOf "is_dropped" "is_dropped" (defArgs sPIsDropped) (defBody sPIsDropped) (defScope sPIsDropped) .none kVPIsDropped dcPIsDropped pmPIsDropped anPIsDropped cdPIsDropped ctPIsDropped), (PySem.W.fnOf "marked" "marked" (defArgs sPMarked) (defBody sPMarked) (defScope sPMarked) .none kVPMarked dcPMarked pmPMarked anPMarked cdPMarked ctPMarked), (PySem.W.fnOf "drop_words" "drop_words" (defArgs sPDropWords) (defBody sPDropWords) (defScope sPDropWords) .none kVPDropWords dcPDropWords pmPDropWords anPDropWords cdPDropWords ctPDropWords), (PySem.W.fnOf "__call__" "Drop.__call__" (defArgs sDropCall) (defBody sDropCall) (defScope sDropCall) .none kVDropCall dcDropCall pmDropCall anDropCall cdDropCall ctDropCall), (PySem.W.fnOf "__str__" "Drop.__str__" (defArgs sDropStr) (defBody sDropStr) (defScope sDropStr) .none kVDropStr dcDropStr pmDropStr anDropStr cdDropStr ctDropStr), (PySem.W.fnOf "__call__" "LastDrop.__call__" (defArgs sLastDropCall) (defBody sLastDropCall) (defScope sLastDropCall) .none kVLastDropCall dcLastDropCall pmLastDropCall anLastDropCall cdLastDropCall ctLastDropCall), (PySem.W.fnOf "__str__" "LastDrop.__str__" (defArgs sLastDropStr) (defBody sLastDropStr) (defScope sLastDropStr) .none kVLastDropStr dcLastDropStr pmLastDropStr anLastDropStr cdLastDropStr ctLastDropStr), (PySem.W.fnOf "__call__" "Write.__call__" (defArgs sWriteCall) (defBody sWriteCall) (defScope sWriteCall) .none kVWriteCall dcWriteCall pmWriteCall anWriteCall cdWriteCall ctWriteCall), (PySem.W.fnOf "__str__" "Write.__str__" (defArgs sWriteStr) (defBody sWriteStr) (defScope sWriteStr) .none kVWriteStr dcWriteStr pmWriteStr anWriteStr cdWriteStr ctWriteStr), (PySem.W.fnOf "__call__" "Once.__call__" (defArgs sOnceCall) (defBody sOnceCall) (defScope sOnceCall) .none kVOnceCall dcOnceCall pmOnceCall anOnceCall cdOnceCall ctOnceCall), (PySem.W.fnOf "__str__" "Once.__str__" (defArgs sOnceStr) (defBody sOnceStr) (defScope sOnceStr) .none kVOnceStr dcOnceStr pmOnceStr anOnceStr cdOnceStr ctOnceStr), (PySem.W.fnOf "__call__" "Add.__call__" (defArgs sAddCall) (defBody sAddCall) (defScope sAddCall) .none kVAddCall dcAddCall pmAddCall anAddCall cdAddCall ctAddCall), (PySem.W.fnOf "__str__" "Add.__str__" (defArgs sAddStr) (defBody sAddStr) (defScope sAddStr) .none kVAddStr dcAddStr pmAddStr anAddStr cdAddStr ctAddStr), (PySem.W.fnOf "read_drop" "read_drop" (defArgs sPReadDrop) (defBody sPReadDrop) (defScope sPReadDrop) .none kVPReadDrop dcPReadDrop pmPReadDrop anPReadDrop cdPReadDrop ctPReadDrop), (PySem.W.fnOf "read_stage" "read_stage" (defArgs sPReadStage) (defBody sPReadStage) (defScope sPReadStage) .none kVPReadStage dcPReadStage pmPReadStage anPReadStage cdPReadStage ctPReadStage), (PySem.W.fnOf "_law_box" "_law_box" (defArgs sBox) (defBody sBox) (defScope sBox) .none kVBox dcBox pmBox anBox cdBox ctBox), (PySem.W.fnOf "_law_take" "_law_take" (defArgs sTake) (defBody sTake) (defScope sTake) .none kVTake dcTake pmTake anTake cdTake ctTake), (PySem.W.fnOf "_law_world" "_law_world" (defArgs sWorld) (defBody sWorld) (defScope sWorld) .none kVWorld dcWorld pmWorld anWorld cdWorld ctWorld), (PySem.W.fnOf "_law_name" "_law_name" (defArgs sName) (defBody sName) (defScope sName) .none kVName dcName pmName anName cdName ctName), (PySem.W.fnOf "_law_members" "_law_members" (defArgs sMembers) (defBody sMembers) (defScope sMembers) .none kVMembers dcMembers pmMembers anMembers cdMembers ctMembers), (PySem.W.fnOf "_law_text" "_law_text" (defArgs sText) (defBody sText) (defScope sText) .none kVText dcText pmText anText cdText ctText), (PySem.W.fnOf "_law_sign_word" "_law_sign_word" (defArgs sSignWord) (defBody sSignWord) (defScope sSignWord) .none kVSignWord dcSignWord pmSignWord anSignWord cdSignWord ctSignWord), (PySem.W.fnOf "_law_set_word" "_law_set_word" (defArgs sSetWord) (defBody sSetWord) (defScope sSetWord) .none kVSetWord dcSetWord pmSetWord anSetWord cdSetWord ctSetWord), (PySem.W.fnOf "_law_number_word" "_law_number_word" (defArgs sNumberWord) (defBody sNumberWord) (defScope sNumberWord) .none kVNumberWord dcNumberWord pmNumberWord anNumberWord cdNumberWord ctNumberWord), (PySem.W.fnOf "_law_words" "_law_words" (defArgs sWords) (defBody sWords) (defScope sWords) .none kVWords dcWords pmWords anWords cdWords ctWords), (PySem.W.fnOf "_law_spoilt" "_law_spoilt" (defArgs sSpoilt) (defBody sSpoilt) (defScope sSpoilt) .none kVSpoilt dcSpoilt pmSpoilt anSpoilt cdSpoilt ctSpoilt), (PySem.W.fnOf "_law_parts" "_law_parts" (defArgs sParts) (defBody sParts) (defScope sParts) .none kVParts dcParts pmParts anParts cdParts ctParts), (PySem.W.fnOf "_law_is_set" "_law_is_set" (defArgs sIsSet) (defBody sIsSet) (defScope sIsSet) .none kVIsSet dcIsSet pmIsSet anIsSet cdIsSet ctIsSet), (PySem.W.fnOf "_law_wrong" "_law_wrong" (defArgs sWrong) (defBody sWrong) (defScope sWrong) .none kVWrong dcWrong pmWrong anWrong cdWrong ctWrong), (PySem.W.fnOf "_law_refusal" "_law_refusal" (defArgs sRefusal) (defBody sRefusal) (defScope sRefusal) .none kVRefusal dcRefusal pmRefusal anRefusal cdRefusal ctRefusal), (PySem.W.fnOf "_law_object" "_law_object" (defArgs sObject) (defBody sObject) (defScope sObject) .none kVObject dcObject pmObject anObject cdObject ctObject), (PySem.W.fnOf "_law_due" "_law_due" (defArgs sDue) (defBody sDue) (defScope sDue) .none kVDue dcDue pmDue anDue cdDue ctDue), (PySem.W.fnOf "_law_right_kind" "_law_right_kind" (defArgs sRightKind) (defBody sRightKind) (defScope sRightKind) .none kVRightKind dcRightKind pmRightKind anRightKind cdRightKind ctRightKind), (PySem.W.fnOf "law" "law" (defArgs sLaw) (defBody sLaw) (defScope sLaw) .none kVLaw dcLaw pmLaw anLaw cdLaw ctLaw), (PySem.W.fnOf "__eq__" "Alphabet.__eq__" (defArgs sAlEq) (defBody sAlEq) (defScope sAlEq) .none kVAlEq dcAlEq pmAlEq anAlEq cdAlEq ctAlEq), (PySem.W.ksFn "__init__" "BadText.__init__" (defArgs sBadText) (defBody sBadText) (defScope sBadText) .none kVBT dcBT pmBT anBT (.ref cdaBT) ctBT ccBT), (PySem.W.ksFn "__init__" "BadSet.__init__" (defArgs sBadSet) (defBody sBadSet) (defScope sBadSet) .none kVBN dcBN pmBN anBN (.ref cdaBN) ctBN ccBN), (PySem.W.ksFn "__init__" "BadStage.__init__" (defArgs sBadStage) (defBody sBadStage) (defScope sBadStage) .none kVBS dcBS pmBS anBS (.ref cdaBS) ctBS ccBS), (PySem.W.fnOf "__init__" "Stage.__init__" (defArgs sSI) (defBody sSI) (defScope sSI) .none kVSI dcSI pmSI anSI cdSI ctSI), (PySem.W.ksFn "__init__" "Drop.__init__" (defArgs sDI) (defBody sDI) (defScope sDI) .none (.ref kD) dcDI pmDI anDI (.ref cdaDI) ctDI ccDI), (PySem.W.ksFn "__init__" "Write.__init__" (defArgs sWI) (defBody sWI) (defScope sWI) .none kVWI dcWI pmWI anWI (.ref cdaWI) ctWI ccWI), (PySem.W.ksFn "__init__" "Once.__init__" (defArgs sOI) (defBody sOI) (defScope sOI) .none kVOI dcOI pmOI anOI (.ref cdaOI) ctOI ccOI), (PySem.W.ksFn "__init__" "Add.__init__" (defArgs sAI2) (defBody sAI2) (defScope sAI2) .none kVAI dcAI pmAI anAI (.ref cdaAI) ctAI ccAI)⟩ :=
    { mkW := ⟨mkCW, aDICW, iDI, kCW⟩, mkO := ⟨mkCO, aDICO, iDI, kCO⟩, mkWr := ⟨mkCR, aWI, iWI, kCR⟩, mkOn := ⟨mkCN, aOI, iOI, kCN⟩, mkAd := ⟨mkCD, aAI, iAI, kCD⟩, bWr := bWI, bOn := bOI, bAd := bAI, kAE := kb_both hqD,
      ob := fun i hi => match i, hi with | 0, _ => ⟨⟨pgCW, hdCW, poCW, saCW⟩, icCW, ig, it, imCW⟩ | 1, _ => ⟨⟨pgCO, hdCO, poCO, saCO⟩, icCO, ig, it, imCO⟩ | 2, _ => ⟨⟨pgCR, hdCR, poCR, saCR⟩, icCR, ig, it, imCR⟩ | 3, _ => ⟨⟨pgCN, hdCN, poCN, saCN⟩, icCN, ig, it, imCN⟩ | 4, _ => ⟨⟨pgCD, hdCD, poCD, saCD⟩, icCD, ig, it, imCD⟩,
      kit := fun i j hi hj => match i, hi, j, hj with | 0, _, 0, _ => kit_of iscCW tyCW sCW_CW sCW_CW | 0, _, 1, _ => kit_of iscCO tyCO sCW_CO sCO_CO | 0, _, 2, _ => kit_of iscCR tyCR sCW_CR sCR_CR | 0, _, 3, _ => kit_of iscCN tyCN sCW_CN sCN_CN | 0, _, 4, _ => kit_of iscCD tyCD sCW_CD sCD_CD | 1, _, 0, _ => kit_of iscCW tyCW sCO_CW sCW_CW | 1, _, 1, _ => kit_of iscCO tyCO sCO_CO sCO_CO | 1, _, 2, _ => kit_of iscCR tyCR sCO_CR sCR_CR | 1, _, 3, _ => kit_of iscCN tyCN sCO_CN sCN_CN | 1, _, 4, _ => kit_of iscCD tyCD sCO_CD sCD_CD | 2, _, 0, _ => kit_of iscCW tyCW sCR_CW sCW_CW | 2, _, 1, _ => kit_of iscCO tyCO sCR_CO sCO_CO | 2, _, 2, _ => kit_of iscCR tyCR sCR_CR sCR_CR | 2, _, 3, _ => kit_of iscCN tyCN sCR_CN sCN_CN | 2, _, 4, _ => kit_of iscCD tyCD sCR_CD sCD_CD | 3, _, 0, _ => kit_of iscCW tyCW sCN_CW sCW_CW | 3, _, 1, _ => kit_of iscCO tyCO sCN_CO sCO_CO | 3, _, 2, _ => kit_of iscCR tyCR sCN_CR sCR_CR | 3, _, 3, _ => kit_of iscCN tyCN sCN_CN sCN_CN | 3, _, 4, _ => kit_of iscCD tyCD sCN_CD sCD_CD | 4, _, 0, _ => kit_of iscCW tyCW sCD_CW sCW_CW | 4, _, 1, _ => kit_of iscCO tyCO sCD_CO sCO_CO | 4, _, 2, _ => kit_of iscCR tyCR sCD_CR sCR_CR | 4, _, 3, _ => kit_of iscCN tyCN sCD_CN sCN_CN | 4, _, 4, _ => kit_of iscCD tyCD sCD_CD sCD_CD,
      fnDrop := fnDropCall, fnLastDrop := fnLastDropCall, fnWrite := fnWriteCall, fnOnce := fnOnceCall, fnAdd := fnAddCall }
  refine ⟨PySem.W.fnOf "law" "law" (defArgs sLaw) (defBody sLaw) (defScope sLaw) .none kVLaw dcLaw pmLaw anLaw cdLaw ctLaw, fun s v => .of_eq rfl, fun base _ _ => ?_⟩
  have GA := ok_alph (P := l.prog) (w := w) (base := base) FA T.toTxA A AV BA' FDiff bDiff (ok_ba SCBA nBA_part lBA cBA) bBA
  have GBT : FnOk l.prog w K mg base CX0 1 fBT (PySem.W.ksFn "__init__" "BadText.__init__" (defArgs sBadText) (defBody sBadText) (defScope sBadText) .none kVBT dcBT pmBT anBT (.ref cdaBT) ctBT ccBT) ["self", "text"] (spErr BT "text") := ok_eBadText SCBT nBT_text lBT cBT
  have GBN : FnOk l.prog w K mg base CX0 1 fBN (PySem.W.ksFn "__init__" "BadSet.__init__" (defArgs sBadSet) (defBody sBadSet) (defScope sBadSet) .none kVBN dcBN pmBN anBN (.ref cdaBN) ctBN ccBN) ["self", "name"] (spErr BN "name") := ok_eBadSet SCBN nBN_name lBN cBN
  have GBS : FnOk l.prog w K mg base CX0 1 fBS (PySem.W.ksFn "__init__" "BadStage.__init__" (defArgs sBadStage) (defBody sBadStage) (defScope sBadStage) .none kVBS dcBS pmBS anBS (.ref cdaBS) ctBS ccBS) ["self", "what"] (spErr BS "what") := ok_eBadStage SCBS nBS_what lBS cBS
  have HBS : L2H.FnH l.prog w K mg base CX0 1 fBS (PySem.W.ksFn "__init__" "BadStage.__init__" (defArgs sBadStage) (defBody sBadStage) (defScope sBadStage) .none kVBS dcBS pmBS anBS (.ref cdaBS) ctBS ccBS) ["self", "what"] (spErr BS "what") := ok_hBadStage SCBS nBS_what lBS cBS
  have GIW := ok_DI (w := w) (base := base) (i := 0) T SCCW lDI cDI FSI bSI AV HN GBN HBS GBS
  have GIO := ok_DI (w := w) (base := base) (i := 1) T SCCO lDI cDI FSI bSI AV HN GBN HBS GBS
  have GIWr := ok_WI (w := w) (base := base) T SCWI lWI cWI FSI bSI AV HN GBN HBS GBS
  have GIOn := ok_OI (w := w) (base := base) T SCOI lOI cOI FSI bSI AV HN GBN HBS GBS
  have GIAd := ok_AI (w := w) (base := base) T SCAI lAI cAI FSI bSI AV HN GBN HBS GBS
  exact ok_law T (gn z_zip) A AV ⟨mkC, aA, iA, kC⟩ GA bA HN MX GIW GIO GIWr GIOn GIAd XBS GBT GBN HBS GBS
theorem walk {l : PySem.W.OpenLaw} {q : Program} {loose : List Str} {XP : (Str → Option Value) → Heap → Prop} {YP : World → Heap → Prop} {d : DefRec} {K : Params → PySem.W.Frag} (hn : l.most = some 63) (hdf : d.params.defaults = [])
    (hY : ∀ (w : World) (h : Heap), YP w h → (K w.params).In h)
    (F : ∀ (w : World) (mg : Str → Option Value) (fa : Addr) (h : Heap), (K w.params).In h → h.Ns mainGlobals mg → mg d.name = some (.ref fa) →
      ∃ fd : FuncData, (∀ (s : Shared) (u : Value), BindsTo s fd ⟨[u], []⟩ [("_law_script", u)]) ∧ ∀ base : Heap, (K w.params).In base → base.Ns mainGlobals mg → FnOk l.prog w (K w.params) mg base CX0 13 fa fd ["_law_script"] (spLaw (K w.params))) :
    PySem.W.WalkO q loose XP YP l.row.toRowW d [] (fun f vs => PySem.call f vs) :=
  L2.walk_of (n := 63) (k := 13) (x := "_law_script") (CX := fun _ => CX0) (sp := fun w => spLaw (K w.params)) hn (by decide) hdf ⟨rfl, by decide, by decide⟩ hY F (fun _ _ a ns hl _ hS => ⟨a, ns, rfl, hS, hl, fun _ => rfl⟩) fun _ _ _ _ _ z => z
end
end Vk
set_option Elab.async false
open PySem PySem.W PyProof.Rows
set_option maxRecDepth 100000 in
set_option maxHeartbeats 0 in
theorem PySem.Challenge.cw_talepost_k38_stages_read_holds : PySem.Challenge.rw_talepost_k38_stages_read.Holds := by
  w_on; o_law; k_head; (case hw => w_witness2)
  k_fill
  refine Vk.walk (l := PySem.Challenge.rw_talepost_k38_stages_read) rfl rfl (fun w h Y => PySem.W.kIn_of Y) ?F
  case F =>
    intro w mg fa h KX G hmg
    refine' Vk.all_mk KX G hmg ?lDiff ?cDiff ?aDiff ?kDiff ?lPCheckSign ?cPCheckSign ?aPCheckSign ?kPCheckSign ?lPSignsOfSet ?cPSignsOfSet ?aPSignsOfSet ?kPSignsOfSet ?lPNumberAfter ?cPNumberAfter ?aPNumberAfter ?kPNumberAfter ?lPIsDropped ?cPIsDropped ?aPIsDropped ?kPIsDropped ?lPMarked ?cPMarked ?aPMarked ?kPMarked ?lPDropWords ?cPDropWords ?aPDropWords ?kPDropWords ?lPReadDrop ?cPReadDrop ?aPReadDrop ?kPReadDrop ?lPReadStage ?cPReadStage ?aPReadStage ?kPReadStage ?lBox ?cBox ?aBox ?kBox ?lTake ?cTake ?aTake ?kTake ?lWorld ?cWorld ?aWorld ?kWorld ?lName ?cName ?aName ?kName ?lMembers ?cMembers ?aMembers ?kMembers ?lText ?cText ?aText ?kText ?lSignWord ?cSignWord ?aSignWord ?kSignWord ?lSetWord ?cSetWord ?aSetWord ?kSetWord ?lNumberWord ?cNumberWord ?aNumberWord ?kNumberWord ?lWords ?cWords ?aWords ?kWords ?lSpoilt ?cSpoilt ?aSpoilt ?kSpoilt ?lParts ?cParts ?aParts ?kParts ?lIsSet ?cIsSet ?aIsSet ?kIsSet ?lWrong ?cWrong ?aWrong ?kWrong ?lRefusal ?cRefusal ?aRefusal ?kRefusal ?lObject ?cObject ?aObject ?kObject ?lDue ?cDue ?aDue ?kDue ?lRightKind ?cRightKind ?aRightKind ?kRightKind ?lLaw ?cLaw ?aLaw ?kLaw ?z_len ?z_set ?z_all ?z_abs ?z_int ?z_range ?z_sorted ?z_isinstance ?z_str ?z_bool ?z_list ?z_tuple ?z_any ?z_enumerate ?z_min ?z_max ?z_ValueError ?z_zip ?aC ?pgC ?hdC ?poC ?saC ?mkC ?kC ?nC_letters ?nC_vowels ?nC_consonants ?nC_signs ?ig ?it ?icC ?imC ?rdC ?gaC ?vM ?vJ ?aJ ?gJ ?aMost ?aSL ?nE ?aCS ?pgCS ?hdCS ?poCS ?saCS ?mkCS ?kCS ?icCS ?imCS ?nCS_alphabet ?iscCS ?tyCS ?sCS_CS ?clCS ?aCW ?pgCW ?hdCW ?poCW ?saCW ?mkCW ?kCW ?icCW ?imCW ?nCW_alphabet ?nCW_signs ?nCW_name ?nCW_after ?nCW_each ?iscCW ?tyCW ?sCW_CW ?clCW ?aCO ?pgCO ?hdCO ?poCO ?saCO ?mkCO ?kCO ?icCO ?imCO ?nCO_alphabet ?nCO_signs ?nCO_name ?nCO_after ?nCO_each ?iscCO ?tyCO ?sCO_CO ?clCO ?aCR ?pgCR ?hdCR ?poCR ?saCR ?mkCR ?kCR ?icCR ?imCR ?nCR_alphabet ?nCR_signs ?nCR_sign ?nCR_name ?iscCR ?tyCR ?sCR_CR ?clCR ?aCN ?pgCN ?hdCN ?poCN ?saCN ?mkCN ?kCN ?icCN ?imCN ?nCN_alphabet ?nCN_signs ?nCN_name ?iscCN ?tyCN ?sCN_CN ?clCN ?aCD ?pgCD ?hdCD ?poCD ?saCD ?mkCD ?kCD ?icCD ?imCD ?nCD_alphabet ?nCD_sign ?iscCD ?tyCD ?sCD_CD ?clCD ?sCW_CO ?sCW_CR ?sCW_CN ?sCW_CD ?sCO_CW ?sCO_CR ?sCO_CN ?sCO_CD ?sCR_CW ?sCR_CO ?sCR_CN ?sCR_CD ?sCN_CW ?sCN_CO ?sCN_CR ?sCN_CD ?sCD_CW ?sCD_CO ?sCD_CR ?sCD_CN ?lAsc ?cAsc ?aAsc ?kAsc ?iAsc ?lIsSign ?cIsSign ?aIsSign ?kIsSign ?iIsSign ?lSignsOf ?cSignsOf ?aSignsOf ?kSignsOf ?iSignsOf ?lIsText ?cIsText ?aIsText ?kIsText ?iIsText ?lCheck ?cCheck ?aCheck ?kCheck ?iCheck ?lDropCall ?cDropCall ?aDropCall ?kDropCall ?iDropCall ?fnDropCall ?lDropStr ?cDropStr ?aDropStr ?kDropStr ?iDropStr ?lLastDropCall ?cLastDropCall ?aLastDropCall ?kLastDropCall ?iLastDropCall ?fnLastDropCall ?lLastDropStr ?cLastDropStr ?aLastDropStr ?kLastDropStr ?iLastDropStr ?lWriteCall ?cWriteCall ?aWriteCall ?kWriteCall ?iWriteCall ?fnWriteCall ?lWriteStr ?cWriteStr ?aWriteStr ?kWriteStr ?iWriteStr ?lOnceCall ?cOnceCall ?aOnceCall ?kOnceCall ?iOnceCall ?fnOnceCall ?lOnceStr ?cOnceStr ?aOnceStr ?kOnceStr ?iOnceStr ?lAddCall ?cAddCall ?aAddCall ?kAddCall ?iAddCall ?fnAddCall ?lAddStr ?cAddStr ?aAddStr ?kAddStr ?iAddStr ?lAlEq ?cAlEq ?aAlEq ?kAlEq ?iAlEq ?lSI ?cSI ?aSI ?kSI ?iSI ?tySI ?fnSI ?lDI ?kwa ?kwe ?cDI ?aDICW ?aDICO ?iDI ?lccDI ?lcdDI ?hvDI ?hflDI ?lWI ?cWI ?aWI ?iWI ?lccWI ?lcdWI ?hvWI ?hflWI ?lOI ?cOI ?aOI ?iOI ?lccOI ?lcdOI ?hvOI ?hflOI ?lAI ?cAI ?aAI ?iAI ?lccAI ?lcdAI ?hvAI ?hflAI ?lA ?cA ?aA ?lDA ?kA ?iA ?xTE ?aTE ?eTE ?tTE ?hTE ?iTE ?noT ?noM ?anyS ?xBA ?aBA ?eBA ?tBA ?hBA ?nBA_part ?saBA ?gaBA ?ggBA ?aFBA ?tFBA ?lBA ?cBA ?kBA ?lccBA ?lcdBA ?hvBA ?hflBA ?mmBA ?vBA ?xBT ?aBT ?eBT ?tBT ?hBT ?nBT_text ?saBT ?gaBT ?ggBT ?aFBT ?tFBT ?lBT ?cBT ?kBT ?lccBT ?lcdBT ?hvBT ?hflBT ?mmBT ?vBT ?xBN ?aBN ?eBN ?tBN ?hBN ?nBN_name ?saBN ?gaBN ?ggBN ?aFBN ?tFBN ?lBN ?cBN ?kBN ?lccBN ?lcdBN ?hvBN ?hflBN ?mmBN ?vBN ?xBS ?aBS ?eBS ?tBS ?hBS ?nBS_what ?saBS ?gaBS ?ggBS ?aFBS ?tFBS ?lBS ?cBS ?kBS ?lccBS ?lcdBS ?hvBS ?hflBS ?mmBS ?vBS ?sBT_TE ?sBS_TE ?sBT_BT ?sBS_BS ?sBN_BN ?clTE ?icBT ?imBT ?icBS ?imBS
    (case aDiff => k_is)
    (case aPCheckSign => k_is)
    (case aPSignsOfSet => k_is)
    (case aPNumberAfter => k_is)
    (case aPIsDropped => k_is)
    (case aPMarked => k_is)
    (case aPDropWords => k_is)
    (case aPReadDrop => k_is)
    (case aPReadStage => k_is)
    (case aBox => k_is)
    (case aTake => k_is)
    (case aWorld => k_is)
    (case aName => k_is)
    (case aMembers => k_is)
    (case aText => k_is)
    (case aSignWord => k_is)
    (case aSetWord => k_is)
    (case aNumberWord => k_is)
    (case aWords => k_is)
    (case aSpoilt => k_is)
    (case aParts => k_is)
    (case aIsSet => k_is)
    (case aWrong => k_is)
    (case aRefusal => k_is)
    (case aObject => k_is)
    (case aDue => k_is)
    (case aRightKind => k_is)
    (case aLaw => k_is)
    (case z_len => k_is)
    (case z_set => k_is)
    (case z_all => k_is)
    (case z_abs => k_is)
    (case z_int => k_is)
    (case z_range => k_is)
    (case z_sorted => k_is)
    (case z_isinstance => k_is)
    (case z_str => k_is)
    (case z_bool => k_is)
    (case z_list => k_is)
    (case z_tuple => k_is)
    (case z_any => k_is)
    (case z_enumerate => k_is)
    (case z_min => k_is)
    (case z_max => k_is)
    (case z_ValueError => k_is)
    (case z_zip => k_is)
    (case aC => k_is)
    (case aMost => k_is)
    (case aSL => k_is)
    (case aCS => k_is)
    (case aCW => k_is)
    (case aCO => k_is)
    (case aCR => k_is)
    (case aCN => k_is)
    (case aCD => k_is)
    (case aTE => k_is)
    (case noM => k_is)
    (case aBA => k_is)
    (case aBT => k_is)
    (case aBN => k_is)
    (case aBS => k_is)
    (case aAsc => k_is)
    (case aIsSign => k_is)
    (case aSignsOf => k_is)
    (case aIsText => k_is)
    (case aCheck => k_is)
    (case aDropCall => k_is)
    (case aDropStr => k_is)
    (case aLastDropCall => k_is)
    (case aLastDropStr => k_is)
    (case aWriteCall => k_is)
    (case aWriteStr => k_is)
    (case aOnceCall => k_is)
    (case aOnceStr => k_is)
    (case aAddCall => k_is)
    (case aAddStr => k_is)
    (case aAlEq => k_is)
    (case aSI => k_is)
    (case aDICW => k_is)
    (case aDICO => k_is)
    (case aWI => k_is)
    (case aOI => k_is)
    (case aAI => k_is)
    (case aA => k_is)
    (case aFBA => k_is)
    (case aFBT => k_is)
    (case aFBN => k_is)
    (case aFBS => k_is)
    (case lDiff => k_is)
    (case cDiff => k_is)
    (case kDiff => k_is)
    (case lPCheckSign => k_is)
    (case cPCheckSign => k_is)
    (case kPCheckSign => k_is)
    (case lPSignsOfSet => k_is)
    (case cPSignsOfSet => k_is)
    (case kPSignsOfSet => k_is)
    (case lPNumberAfter => k_is)
    (case cPNumberAfter => k_is)
    (case kPNumberAfter => k_is)
    (case lPIsDropped => k_is)
    (case cPIsDropped => k_is)
    (case kPIsDropped => k_is)
    (case lPMarked => k_is)
    (case cPMarked => k_is)
    (case kPMarked => k_is)
    (case lPDropWords => k_is)
    (case cPDropWords => k_is)
    (case kPDropWords => k_is)
    (case lPReadDrop => k_is)
    (case cPReadDrop => k_is)
    (case kPReadDrop => k_is)
    (case lPReadStage => k_is)
    (case cPReadStage => k_is)
    (case kPReadStage => k_is)
    (case lBox => k_is)
    (case cBox => k_is)
    (case kBox => k_is)
    (case lTake => k_is)
    (case cTake => k_is)
    (case kTake => k_is)
    (case lWorld => k_is)
    (case cWorld => k_is)
    (case kWorld => k_is)
    (case lName => k_is)
    (case cName => k_is)
    (case kName => k_is)
    (case lMembers => k_is)
    (case cMembers => k_is)
    (case kMembers => k_is)
    (case lText => k_is)
    (case cText => k_is)
    (case kText => k_is)
    (case lSignWord => k_is)
    (case cSignWord => k_is)
    (case kSignWord => k_is)
    (case lSetWord => k_is)
    (case cSetWord => k_is)
    (case kSetWord => k_is)
    (case lNumberWord => k_is)
    (case cNumberWord => k_is)
    (case kNumberWord => k_is)
    (case lWords => k_is)
    (case cWords => k_is)
    (case kWords => k_is)
    (case lSpoilt => k_is)
    (case cSpoilt => k_is)
    (case kSpoilt => k_is)
    (case lParts => k_is)
    (case cParts => k_is)
    (case kParts => k_is)
    (case lIsSet => k_is)
    (case cIsSet => k_is)
    (case kIsSet => k_is)
    (case lWrong => k_is)
    (case cWrong => k_is)
    (case kWrong => k_is)
    (case lRefusal => k_is)
    (case cRefusal => k_is)
    (case kRefusal => k_is)
    (case lObject => k_is)
    (case cObject => k_is)
    (case kObject => k_is)
    (case lDue => k_is)
    (case cDue => k_is)
    (case kDue => k_is)
    (case lRightKind => k_is)
    (case cRightKind => k_is)
    (case kRightKind => k_is)
    (case lLaw => k_is)
    (case cLaw => k_is)
    (case kLaw => k_is)
    (case pgC => k_is)
    (case hdC => k_is)
    (case poC => k_is)
    (case saC => k_is)
    (case mkC => k_is)
    (case kC => k_is)
    (case nC_letters => k_is)
    (case nC_vowels => k_is)
    (case nC_consonants => k_is)
    (case nC_signs => k_is)
    (case ig => k_is)
    (case it => k_is)
    (case icC => k_is)
    (case imC => k_is)
    (case rdC => k_is)
    (case gaC => k_is)
    (case vM => k_is)
    (case vJ => k_is)
    (case aJ => k_is)
    (case gJ => k_is)
    (case nE => k_is)
    (case pgCS => k_is)
    (case hdCS => k_is)
    (case poCS => k_is)
    (case saCS => k_is)
    (case mkCS => k_is)
    (case kCS => k_is)
    (case icCS => k_is)
    (case imCS => k_is)
    (case nCS_alphabet => k_is)
    (case iscCS => k_is)
    (case tyCS => k_is)
    (case sCS_CS => k_is)
    (case clCS => k_is)
    (case pgCW => k_is)
    (case hdCW => k_is)
    (case poCW => k_is)
    (case saCW => k_is)
    (case mkCW => k_is)
    (case kCW => k_is)
    (case icCW => k_is)
    (case imCW => k_is)
    (case nCW_alphabet => k_is)
    (case nCW_signs => k_is)
    (case nCW_name => k_is)
    (case nCW_after => k_is)
    (case nCW_each => k_is)
    (case iscCW => k_is)
    (case tyCW => k_is)
    (case sCW_CW => k_is)
    (case clCW => k_is)
    (case pgCO => k_is)
    (case hdCO => k_is)
    (case poCO => k_is)
    (case saCO => k_is)
    (case mkCO => k_is)
    (case kCO => k_is)
    (case icCO => k_is)
    (case imCO => k_is)
    (case nCO_alphabet => k_is)
    (case nCO_signs => k_is)
    (case nCO_name => k_is)
    (case nCO_after => k_is)
    (case nCO_each => k_is)
    (case iscCO => k_is)
    (case tyCO => k_is)
    (case sCO_CO => k_is)
    (case clCO => k_is)
    (case pgCR => k_is)
    (case hdCR => k_is)
    (case poCR => k_is)
    (case saCR => k_is)
    (case mkCR => k_is)
    (case kCR => k_is)
    (case icCR => k_is)
    (case imCR => k_is)
    (case nCR_alphabet => k_is)
    (case nCR_signs => k_is)
    (case nCR_sign => k_is)
    (case nCR_name => k_is)
    (case iscCR => k_is)
    (case tyCR => k_is)
    (case sCR_CR => k_is)
    (case clCR => k_is)
    (case pgCN => k_is)
    (case hdCN => k_is)
    (case poCN => k_is)
    (case saCN => k_is)
    (case mkCN => k_is)
    (case kCN => k_is)
    (case icCN => k_is)
    (case imCN => k_is)
    (case nCN_alphabet => k_is)
    (case nCN_signs => k_is)
    (case nCN_name => k_is)
    (case iscCN => k_is)
    (case tyCN => k_is)
    (case sCN_CN => k_is)
    (case clCN => k_is)
    (case pgCD => k_is)
    (case hdCD => k_is)
    (case poCD => k_is)
    (case saCD => k_is)
    (case mkCD => k_is)
    (case kCD => k_is)
    (case icCD => k_is)
    (case imCD => k_is)
    (case nCD_alphabet => k_is)
    (case nCD_sign => k_is)
    (case iscCD => k_is)
    (case tyCD => k_is)
    (case sCD_CD => k_is)
    (case clCD => k_is)
    (case sCW_CO => k_is)
    (case sCW_CR => k_is)
    (case sCW_CN => k_is)
    (case sCW_CD => k_is)
    (case sCO_CW => k_is)
    (case sCO_CR => k_is)
    (case sCO_CN => k_is)
    (case sCO_CD => k_is)
    (case sCR_CW => k_is)
    (case sCR_CO => k_is)
    (case sCR_CN => k_is)
    (case sCR_CD => k_is)
    (case sCN_CW => k_is)
    (case sCN_CO => k_is)
    (case sCN_CR => k_is)
    (case sCN_CD => k_is)
    (case sCD_CW => k_is)
    (case sCD_CO => k_is)
    (case sCD_CR => k_is)
    (case sCD_CN => k_is)
    (case lAsc => k_is)
    (case cAsc => k_is)
    (case kAsc => k_is)
    (case iAsc => k_is)
    (case lIsSign => k_is)
    (case cIsSign => k_is)
    (case kIsSign => k_is)
    (case iIsSign => k_is)
    (case lSignsOf => k_is)
    (case cSignsOf => k_is)
    (case kSignsOf => k_is)
    (case iSignsOf => k_is)
    (case lIsText => k_is)
    (case cIsText => k_is)
    (case kIsText => k_is)
    (case iIsText => k_is)
    (case lCheck => k_is)
    (case cCheck => k_is)
    (case kCheck => k_is)
    (case iCheck => k_is)
    (case lDropCall => k_is)
    (case cDropCall => k_is)
    (case kDropCall => k_is)
    (case iDropCall => k_is)
    (case fnDropCall => k_is)
    (case lDropStr => k_is)
    (case cDropStr => k_is)
    (case kDropStr => k_is)
    (case iDropStr => k_is)
    (case lLastDropCall => k_is)
    (case cLastDropCall => k_is)
    (case kLastDropCall => k_is)
    (case iLastDropCall => k_is)
    (case fnLastDropCall => k_is)
    (case lLastDropStr => k_is)
    (case cLastDropStr => k_is)
    (case kLastDropStr => k_is)
    (case iLastDropStr => k_is)
    (case lWriteCall => k_is)
    (case cWriteCall => k_is)
    (case kWriteCall => k_is)
    (case iWriteCall => k_is)
    (case fnWriteCall => k_is)
    (case lWriteStr => k_is)
    (case cWriteStr => k_is)
    (case kWriteStr => k_is)
    (case iWriteStr => k_is)
    (case lOnceCall => k_is)
    (case cOnceCall => k_is)
    (case kOnceCall => k_is)
    (case iOnceCall => k_is)
    (case fnOnceCall => k_is)
    (case lOnceStr => k_is)
    (case cOnceStr => k_is)
    (case kOnceStr => k_is)
    (case iOnceStr => k_is)
    (case lAddCall => k_is)
    (case cAddCall => k_is)
    (case kAddCall => k_is)
    (case iAddCall => k_is)
    (case fnAddCall => k_is)
    (case lAddStr => k_is)
    (case cAddStr => k_is)
    (case kAddStr => k_is)
    (case iAddStr => k_is)
    (case lAlEq => k_is)
    (case cAlEq => k_is)
    (case kAlEq => k_is)
    (case iAlEq => k_is)
    (case lSI => k_is)
    (case cSI => k_is)
    (case kSI => k_is)
    (case iSI => k_is)
    (case tySI => k_is)
    (case fnSI => k_is)
    (case lDI => k_is)
    (case kwa => k_is)
    (case kwe => k_is)
    (case cDI => k_is)
    (case iDI => k_is)
    (case lccDI => k_is)
    (case lcdDI => k_is)
    (case hvDI => rfl)
    (case hflDI => first | rfl | decide +kernel)
    (case lWI => k_is)
    (case cWI => k_is)
    (case iWI => k_is)
    (case lccWI => k_is)
    (case lcdWI => k_is)
    (case hvWI => rfl)
    (case hflWI => first | rfl | decide +kernel)
    (case lOI => k_is)
    (case cOI => k_is)
    (case iOI => k_is)
    (case lccOI => k_is)
    (case lcdOI => k_is)
    (case hvOI => rfl)
    (case hflOI => first | rfl | decide +kernel)
    (case lAI => k_is)
    (case cAI => k_is)
    (case iAI => k_is)
    (case lccAI => k_is)
    (case lcdAI => k_is)
    (case hvAI => rfl)
    (case hflAI => first | rfl | decide +kernel)
    (case lA => k_is)
    (case cA => k_is)
    (case lDA => k_is)
    (case kA => k_is)
    (case iA => k_is)
    (case xTE => k_is)
    (case eTE => k_is)
    (case tTE => k_is)
    (case hTE => k_is)
    (case iTE => k_is)
    (case noT => first | rfl | decide +kernel)
    (case anyS => k_is)
    (case xBA => k_is)
    (case eBA => k_is)
    (case tBA => k_is)
    (case hBA => k_is)
    (case nBA_part => k_is)
    (case saBA => k_is)
    (case gaBA => k_is)
    (case ggBA => k_is)
    (case tFBA => k_is)
    (case lBA => k_is)
    (case cBA => k_is)
    (case kBA => k_is)
    (case lccBA => k_is)
    (case lcdBA => k_is)
    (case hvBA => rfl)
    (case hflBA => first | rfl | decide +kernel)
    (case mmBA => k_is)
    (case vBA => k_is)
    (case xBT => k_is)
    (case eBT => k_is)
    (case tBT => k_is)
    (case hBT => k_is)
    (case nBT_text => k_is)
    (case saBT => k_is)
    (case gaBT => k_is)
    (case ggBT => k_is)
    (case tFBT => k_is)
    (case lBT => k_is)
    (case cBT => k_is)
    (case kBT => k_is)
    (case lccBT => k_is)
    (case lcdBT => k_is)
    (case hvBT => rfl)
    (case hflBT => first | rfl | decide +kernel)
    (case mmBT => k_is)
    (case vBT => k_is)
    (case xBN => k_is)
    (case eBN => k_is)
    (case tBN => k_is)
    (case hBN => k_is)
    (case nBN_name => k_is)
    (case saBN => k_is)
    (case gaBN => k_is)
    (case ggBN => k_is)
    (case tFBN => k_is)
    (case lBN => k_is)
    (case cBN => k_is)
    (case kBN => k_is)
    (case lccBN => k_is)
    (case lcdBN => k_is)
    (case hvBN => rfl)
    (case hflBN => first | rfl | decide +kernel)
    (case mmBN => k_is)
    (case vBN => k_is)
    (case xBS => k_is)
    (case eBS => k_is)
    (case tBS => k_is)
    (case hBS => k_is)
    (case nBS_what => k_is)
    (case saBS => k_is)
    (case gaBS => k_is)
    (case ggBS => k_is)
    (case tFBS => k_is)
    (case lBS => k_is)
    (case cBS => k_is)
    (case kBS => k_is)
    (case lccBS => k_is)
    (case lcdBS => k_is)
    (case hvBS => rfl)
    (case hflBS => first | rfl | decide +kernel)
    (case mmBS => k_is)
    (case vBS => k_is)
    (case sBT_TE => k_is)
    (case sBS_TE => k_is)
    (case sBT_BT => k_is)
    (case sBS_BS => k_is)
    (case sBN_BN => k_is)
    (case clTE => k_is)
    (case icBT => k_is)
    (case imBT => k_is)
    (case icBS => k_is)
    (case imBS => k_is)
