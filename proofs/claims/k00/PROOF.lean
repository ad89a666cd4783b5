import PyProof.Rows.All
import Wide.All
import OpenK.AllK
import Wide.FinOn
import HandS.ForExc
import HandS.ExcInit
import HandS.ExcField
import HandS.FStr
import HandS.ExcSuper
import KE.KExcSuper
import HandS.Strs
import HandS.Zip
import HandS.ForMost
import HandS.More
import PyProof.CollectStr
import HandS.ExcIs
import HandS.IsInst
import HandS.SlotsOwn
import HandS.Walk
import PySem.Challenge.RW_talepost_k00_alphabets
import HandS.ClsMeth
import HandS.Defaults
import HandS.Replace
import HandS.ReplaceList
import PyProof.ToksMono
import KE.Datum
set_option Elab.async false
set_option linter.all false
set_option maxRecDepth 100000
set_option maxHeartbeats 2000000
namespace Vk
open PySem PySem.Spec PyProof.Rows L2

/-- the context of a body that closes over its class's cell -/
def cxS (CX : CXT) (P : Program) (w : World) (K : PySem.W.Frag) (mg : Str → Option Value) (base : Heap) (N : List Str) (qual : Str) (scope : Scope) (f cc : Addr) (cd : Value) (A : Around) (outer : List Env) (s : Shared) (H : Hp) (E : XK) : Cx where
  prog := P
  w := w
  K := K
  mg := mg
  base := base
  A := A.deeper (PySem.W.ksEnv qual scope s.heap.objs.size f cd cc)
  N := N
  s_0 := s
  H_0 := H
  env := PySem.W.ksEnv qual scope s.heap.objs.size f cd cc
  outer := outer
  stack := PySem.W.ksEnv qual scope s.heap.objs.size f cd cc :: outer
  ex := []
  calm := true
  fn := fun _ => false
  pn := []
  xe := fun e s' => wpAny (model P w) (A.deeper (PySem.W.ksEnv qual scope s.heap.objs.size f cd cc)) (leaving (PySem.W.ksEnv qual scope s.heap.objs.size f cd cc) e) (fun _ s'' => CX outer H s E e s'') (fun e' s'' => CX outer H s E e' s'') s'

/-- what the text has written of an own exception class at C and its __init__ at fI, whose code is at cda, its cell at cc -/
structure SupC (P : Program) (K : PySem.W.Frag) (mg : Str → Option Value) (C cc cda : Addr) : Prop where
  oex : OexC K C
  cell : ∃ cl cld csl, K.lookup cc = some ⟨cl, cld, .cell (some (.ref C)), csl⟩
  code : ∃ (ccl : Value) (cdd : Option Addr) (vs : Array Value) (ccs : Array (Option Value)) (file : Str) (tf : Tok), K.lookup cda = some ⟨ccl, cdd, .fields vs, ccs⟩ ∧ vs[2]? = some (.str file tf) ∧ ((P.main.file : Str) == file) = true
  sub : PySem.W.mroIn K C (.ref C) = some true
  sup : PySem.W.ks_superIn K C C "__init__" = some (some (.builtin "ValueError.__init__"))
  subV : PySem.W.subIn K (.ref C) (.type "ValueError") = some true
  noTop : (P.main.scope.names.lookup ("super" : Str)).isSome = false
  noMg : mg "super" = none
  any : PySem.W.nsIn K cStatics "thirdparty.any" = some none

structure SScope (N : List Str) (sc : Scope) : Prop where
  kind : sc.kind = .function
  co : sc.isCoroutine = false
  gen : sc.isGenerator = false
  nd : N.Nodup
  par : ∀ x ∈ N, sc.names.lookup x = some .local
  nocell : ∀ x ∈ sc.names, x.2 ≠ .cell
  free : ∀ x, sc.names.lookup x = some .free → x = "__class__"
  sup : sc.names.lookup ("super" : Str) = some .globalImplicit
  cls : sc.names.lookup ("__class__" : Str) = some .free

theorem rev_get {N : List Str} {us : List Value} (hlen : N.length = us.length) (nd : N.Nodup) {i : Nat} {x : Str} {u : Value} (h1 : N[i]? = some x) (h2 : us[i]? = some u) : (N.zip us).reverse.lookup x = some u := by
  have key : ∀ (l : List (Str × Value)), (l.map (·.1)).Nodup → ∀ x u, (x, u) ∈ l → l.lookup x = some u := by
    intro l
    induction l with
    | nil => intro _ _ _ h; cases h
    | cons p l ih =>
      intro hn x u hm
      obtain ⟨a, b⟩ := p
      simp only [List.map_cons, List.nodup_cons] at hn
      rcases List.mem_cons.mp hm with e | hm
      · cases e
        simp [List.lookup]
      · have hne : (x == a) = false := by
          have : x ≠ a := fun z => hn.1 (z ▸ List.mem_map_of_mem hm)
          simpa using this
        simp [List.lookup, hne, ih hn.2 x u hm]
  have hz : (N.zip us)[i]? = some (x, u) := by
    rw [List.getElem?_zip_eq_some]
    exact ⟨h1, h2⟩
  refine key _ ?_ _ _ (List.mem_reverse.mpr (List.mem_of_getElem? hz))
  rw [List.map_reverse]
  refine (List.pairwise_reverse (R := fun a b : Str => a ≠ b)).mpr ?_
  refine List.Pairwise.imp (R := fun a b : Str => a ≠ b) (fun h => Ne.symm h) ?_
  rw [List.map_fst_zip (Nat.le_of_eq hlen)]
  exact nd

theorem inv_s {CX : CXT} {P : Program} {w : World} {K : PySem.W.Frag} {mg : Str → Option Value} {base : Heap} {N : List Str} {qual : Str} {scope : Scope} {f cc : Addr} {cd : Value} {A : Around} {outer : List Env} {s : Shared} {H : Hp} {E : XK} {us : List Value} {vs : List V} {h1 : Heap} {tk : Nat} {oc : Value} {ocd : Option Addr} {osl : Array (Option Value)} {cv : Option Value}
    (S : SScope N scope) (hd : A.handled = none) (e0 : Env0 P w K mg base A outer s H) (hl : vs.length = N.length) (r : Vals vs us) (hcell : K.lookup cc = some ⟨oc, ocd, .cell cv, osl⟩)
    (hns : h1.Ns s.heap.objs.size (fun x => (N.zip us).reverse.lookup x)) (hk : ∀ b o, s.heap.get? b = some o → h1.get? b = some o) :
    Inv (cxS CX P w K mg base N qual scope f cc cd A outer s H E) [] (vs.map some) H { s with heap := h1, toks := tk } := by
  have noA : ∀ b : Addr, b ∉ (cxS CX P w K mg base N qual scope f cc cd A outer s H E).ex := fun b z => absurd (show b ∈ ([] : List Addr) from z) (by simp)
  have hcs : ∀ y c, (cxS CX P w K mg base N qual scope f cc cd A outer s H E).env.cells.lookup y = some c → y = "__class__" ∧ c = cc := fun y c h => by
    have h' : List.lookup y [(("__class__" : Str), cc)] = some c := h
    by_cases e : y = "__class__"
    · subst e
      simp [List.lookup] at h'
      exact ⟨rfl, h'.symm⟩
    · have q : (y == ("__class__" : Str)) = false := by simpa using e
      simp [List.lookup, q] at h'
  have hcb : ∃ o, base.get? cc = some o ∧ o.data = .cell cv := ⟨_, e0.mod.kin _ _ hcell, rfl⟩
  obtain ⟨ob, hb1, hb2⟩ := hcb
  refine ⟨⟨e0.mod, S.kind, rfl, rfl, Nat.le_refl _, fun y z c h1 h2 => ?_, fun y hy => ?_, fun y c h _ => absurd h (by show ¬ (false = true); decide), fun _ => hd, Around.frames_deeper e0.frames, .inr ⟨rfl, rfl⟩, fun b z => absurd z (noA b), e0.bs, e0.bsz, fun b _ _ => noA b, fun b z => absurd z (noA b), e0.funs, e0.frf⟩,
    rfl, e0.bare, Un.kept hk, ⟨_, hns, fun i y v h1 h2 h3 => ?_⟩, fun y c h => ?_, e0.hok.fresh (Nat.le_refl _), fun y c h => ?_, fun p hp => absurd (show p ∈ ([] : List (Addr × Obj)) from hp) (by simp), e0.hok.kept hk, ?_⟩
  · exact (hcs y c h1).1.trans (hcs z c h2).1.symm
  · have hy : scope.names.lookup y = some .cell ∨ scope.names.lookup y = some .free := hy
    rcases hy with hy | hy
    · exact absurd rfl (S.nocell _ (PySem.mem_of_lookup hy))
    · have e := S.free y hy
      subst e
      exact ⟨cc, by show List.lookup ("__class__" : Str) [(("__class__" : Str), cc)] = _; simp [List.lookup]⟩
  · have h1' : N[i]? = some y := h1
    have ha : vs[i]? = some v := by
      rw [List.getElem?_map] at h2
      cases e : vs[i]? with
      | none => rw [e] at h2; cases h2
      | some a => rw [e] at h2; cases h2; rfl
    obtain ⟨u, hu, rv⟩ := r.get ha
    exact ⟨u, rv, .inl ⟨S.par y (List.mem_of_getElem? h1'), rev_get (hl.symm.trans r.length) S.nd h1' hu⟩⟩
  · obtain ⟨_, rfl⟩ := hcs y c h
    exact ⟨cv, ob, hk _ _ (e0.bs _ _ hb1).1, hb2⟩
  · obtain ⟨_, rfl⟩ := hcs y c h
    exact (e0.bs _ _ hb1).2
  · show (vs.map some).length = N.length
    rw [List.length_map, hl]

/-- ValueError.__init__ bound to the exception at e, called -/
theorem call_bv {prog : Program} {w : World} {A : Around} {E : Value → Shared → Prop} {h : Heap} {g : Array GenState} {d : Drawn} {t : Nat} {os : OsState}
    {nm q : Str} {C N : Addr} {bs bm : List Value} {hdct : Bool} {sn : List Str} {sub : List Value} {ab : Bool} {col : Option Bool} {dd : Option Addr} {k0 k1 k2 k3 k5 : Option Value}
    {u e t0 : Addr} {rest : List Value} {Q : Value → Shared → Prop}
    (hC : h.get? C = some (excClassObj nm q C N bs bm hdct sn sub ab col dd k0 k1 k2 k3 k5 "ValueError.__new__")) (he : h.get? e = some (HandSPX.excO C t0)) (hu : h.get? u = some (PySem.W.kxs_mw "ValueError.__init__" e)) (hrest : rest.length ≤ sizeLine)
    (hq : ∀ h' t1, (∀ b o, b ≠ e → h.get? b = some o → h'.get? b = some o) → h'.get? e = some (HandSPX.excO C t1) → Q .none ⟨h', g, d, t, os⟩) :
    wpAny (model prog w) A (call (.ref u) rest) Q E ⟨h, g, d, t, os⟩ := by
  refine wpAny_call (codeAny_of_tree ?_)
  show wpAny _ A.in1 (callAny (.ref u) ⟨rest, []⟩) _ _ _
  unfold callAny
  refine wpAny_bind (wpAny_load hu ?_)
  simp only [PySem.W.kxs_mw, show (Value.type "method-wrapper" == Value.type "method" || Value.type "method-wrapper" == Value.type "builtin_function_or_method" || Value.type "method-wrapper" == Value.type "method-wrapper") = true from by decide, if_true]
  refine W.KFB.if_so (by decide) ?_
  refine wpAny_bind (PySem.ESX.check_bound F.excBase_ValueError hC he rfl ?_)
  refine wpAny_bind (wpAny_pure (wpAny_pure ?_))
  refine ⟨plainId_quiet F.excBase_ValueError.init.plain _, codeAny_builtin F.excBase_ValueError.initEntry ?_⟩
  refine PySem.W.exc_init_tree (cls := .ref C) (t0 := t0) (dv := none) (c2 := .none) (c3 := .none) (b4 := .bool false) he hrest fun h' k e' _ => hq h' _ k e'

/-- what super().__init__(e) asks: the argument; the exception, fresh -/
def tSup (C : Addr) (te : TE) : TS := fun D σ H => te σ H fun _ H1 => (∃ a, σ[0]? = some (some (.ref a)) ∧ H1 a = some (exo a C none)) ∧ D.nx σ H1

theorem fn_super {CX : CXT} {P : Program} {w : World} {K : PySem.W.Frag} {mg : Str → Option Value} {base : Heap} {k : Nat} {f C cc cda : Addr} {name qual self : Str} {params : Arguments} {body : List Stmt} {scope : Scope} {dV kV doc pm ct oc : Value} {an od : Option Addr}
    {osl : Array (Option Value)} {N : List Str} {sp : Sp} {parts : List Expr} {rest : List Stmt} {p0 p1 p2 p3 p4 jp : Pos} {ar : Arg} {N' : List Str} {pl : Sem Bool}
    (T : SupC P K mg C cc cda)
    (lk : K.lookup f = some ⟨oc, od, .func (PySem.W.ksFn name qual params body scope dV kV doc pm an (.ref cda) ct cc), osl⟩) (hcd : PySem.W.codeIn K (.ref cda) qual = true) (S : SScope N scope) (hN : N = self :: N')
    (hpar : (params.posonlyargs ++ params.args).head? = some ar) (har : ar.arg = self)
    (hbd : body = .Expr (.Call (.Attribute (.Call (.Name "super" p0) [] [] p1) "__init__" p2) [.JoinedStr parts jp] [] p3) p4 :: rest)
    (hcall : ∀ env : Env, eval (.Call (.Attribute (.Call (.Name "super" p0) [] [] p1) "__init__" p2) [.JoinedStr parts jp] [] p3) env = (do
      let ov ← attributeBase (.Call (.Name "super" p0) [] [] p1) "__init__" env (eval (.Call (.Name "super" p0) [] [] p1) env)
      standAt p2.atName
      let (f, first) ← holding [ov] (getMethod ov "__init__" pl)
      callWith p3 f first (backTo p3 (starEach [.JoinedStr parts jp] env)) []))
    (hsw : ∀ env : Env, swapsWith (.Call (.Attribute (.Call (.Name "super" p0) [] [] p1) "__init__" p2) [.JoinedStr parts jp] [] p3) none p4.line env = pure false)
    (len : ∀ vs H Q E, sp vs H Q E → vs.length = N.length)
    (hbody : ∀ (A : Around) (outer : List Env) (s : Shared) (H : Hp) (vs : List V) (Q : VK) (E : XK), Room k (A.deeper (PySem.W.ksEnv qual scope s.heap.objs.size f (.ref cda) cc)) → sp vs H Q E →
      ∃ te t, PE (cxS CX P w K mg base N qual scope f cc (.ref cda) A outer s H E) (.JoinedStr parts jp) te ∧ PSs (cxS CX P w K mg base N qual scope f cc (.ref cda) A outer s H E) rest t ∧
        (∃ a, vs[0]? = some (.ref a) ∧ H a = some (exo a C none)) ∧ tSeq (tSup C te) t { nx := fun _ H' => Q .non H', rt := Q } (vs.map some) H) :
    FnOk P w K mg base CX (k + 1) f (PySem.W.ksFn name qual params body scope dV kV doc pm an (.ref cda) ct cc) N sp := by
  refine ⟨len, fun A outer s H args us vs Q E hr e0 hb r hsp => ?_⟩
  have hl := len _ _ _ _ hsp
  have KX : K.In s.heap := e0.mod.kin.keeps fun b o e => (e0.bs b o e).1
  have lim : s.heap.NoLimit := e0.mod.nolimit.keeps fun b o e => (e0.bs b o e).1
  obtain ⟨cl, cld, csl, hcell⟩ := T.cell
  obtain ⟨ccl, cdd, vsC, ccs, file, tf, hcode, hvs2, hfile⟩ := T.code
  obtain ⟨nm, q, Nc, bs, bm, sn, sub, ab, col, dd, k0, k1, k2, k3, k5, hC, hbm⟩ := T.oex.cls
  obtain ⟨te, t, hpe, hps, ⟨a, ha0, hea⟩, hq⟩ := hbody A outer s H vs Q E (hr.deeper _) hsp
  refine ks_codeAny_call_defAt (fd := PySem.W.ksFn name qual params body scope dV kV doc pm an (.ref cda) ct cc) (body := body) (binds := N.zip us) hr.depth (KX _ _ lk) rfl lim (PySem.W.codeRec_of KX hcd) rfl hb S.nocell (fun y hy => S.par y.1 (List.of_mem_zip (a := y.1) (b := y.2) hy).1) (fun h1 hns hk => ?_) S.co S.gen S.kind
  have I : Inv (cxS CX P w K mg base N qual scope f cc (.ref cda) A outer s H E) [] (vs.map some) H { s with heap := h1, toks := s.toks + (N.zip us).length } := inv_s S hr.hd e0 hl r hcell hns hk
  subst hbd
  subst hN
  have ka0 : ∃ u0 us', us = u0 :: us' := by
    cases us with
    | nil => have q := r.length; rw [hl] at q; exact absurd q (by simp)
    | cons u0 us' => exact ⟨u0, us', rfl⟩
  obtain ⟨u0, us', rfl⟩ := ka0
  have hu0 : u0 = Value.ref a := by
    cases r with
    | cons r0 rt =>
      rw [List.getElem?_cons_zero] at ha0
      cases ha0
      exact r0
  subst hu0
  have hL : ((self :: N').zip (Value.ref a :: us')).reverse.lookup self = some (Value.ref a) := rev_get (by rw [← r.length]; exact hl.symm) S.nd (i := 0) rfl rfl
  have hself : scope.names.lookup self = some .local := S.par self List.mem_cons_self
  have hne : a ≠ C := fun z => by
    obtain ⟨t1, ho⟩ := exo_at e0.hok hea
    rw [z, KX _ _ hC] at ho
    cases ho
  generalize hs1 : s.toks + ((self :: N').zip (Value.ref a :: us')).length = tk1 at I ⊢
  obtain ⟨hp0, g, d, tk, os⟩ := s
  let env := PySem.W.ksEnv qual scope hp0.objs.size f (.ref cda) cc
  show PySem.wpAt (model P w) (A.deeper env) (.func (.Expr (.Call (.Attribute (.Call (.Name "super" p0) [] [] p1) "__init__" p2) [.JoinedStr parts jp] [] p3) p4 :: rest) env) (execs (.Expr (.Call (.Attribute (.Call (.Name "super" p0) [] [] p1) "__init__" p2) [.JoinedStr parts jp] [] p3) p4 :: rest) env) _ _ _
  have hint : interactive env = false := by
    unfold interactive
    rw [show env.scope.kind = ScopeKind.function from S.kind]
    rfl
  refine ks_wpAt_execs_cons (ks_wpAt_Expr_any (ks_wpAt_MethodCall (pl := pl) ?_ (hcall env)) hint (hsw env))
  · refine ks_wpAt_super_base (env := env) S.sup S.cls (by decide) rfl (hk _ _ (KX _ _ lk)) rfl hpar rfl (hk _ _ (KX _ _ hcode)) rfl hvs2 hfile T.noTop ?_
    obtain ⟨mb, hb1, hb2⟩ := I.mod.blt
    have hbs : mb ("super" : Str) = some (.type "super") := (hb2 _ (by decide)).trans (by decide +kernel)
    refine PySem.W.ks_loadName_global (env := env) S.kind S.sup (Calls.loadGlobal_builtin (env := env) (I.mod.glob.keeps I.bk) T.noMg (hb1.keeps I.bk) hbs ⟨rfl, ?_⟩)
    refine wpAny_loadName_free (env := env) S.kind S.cls rfl ⟨_, hk _ _ (KX _ _ hcell), rfl⟩ ?_
    rw [har]
    refine wpAny_loadName_local (env := env) S.kind hself hns hL ?_
    have KX1 : K.In h1 := KX.keeps hk
    have hC1 := KX1 _ _ hC
    obtain ⟨t1, hx1⟩ := exo_at I.hok hea
    have hcl : PySem.W.clsIn K C = some { name := nm, bases := bs, mro := .ref C :: bm, ns := Nc, qualname := q, hasDict := true, slotNames := sn, subclasses := sub, abstract := ab, collection := col, hasDel := false } := by unfold PySem.W.clsIn; rw [hC] <;> rfl
    have hsup := T.sup
    unfold PySem.W.ks_superIn at hsup
    rw [hcl] at hsup
    refine ks_wpAny_isType_cls hC1 rfl ⟨rfl, ?_⟩
    refine ks_wpAny_call_super hC1 rfl hx1 rfl (fun c z => by cases z) (PySem.W.looks_mroIn KX1 T.sub) (fun h2 e2 k2 => ?_)
    have I1 : Inv (cxS CX P w K mg base (self :: N') qual scope f cc (.ref cda) A outer ⟨hp0, g, d, tk, os⟩ H E) [] (vs.map some) H ⟨h2, g, d, tk1, os⟩ := I.kept (t' := tk1) k2
    have KX2 : K.In h2 := KX1.keeps k2
    have J2 : PySem.W.InstAt h2 a ({ cls := .ref C, dict := none, data := .fields #[.ref t1, .none, .none, .none, .bool false, .none] } : Obj) C none := ⟨k2 _ _ hx1, rfl, rfl, trivial⟩
    refine PySem.W.kxs_getMethod PySem.W.kxs_ValueError e2 (PySem.W.looks_opaque KX2 T.any) (fun A Q E s k q => wpAny_bind ((PySem.W.looks_clsIn KX2 hcl) A _ E s k (wpAny_pure q))) rfl KX2 hsup (J2.type.andThen (PySem.W.looks_subIn KX2 T.subV)) hne (by decide) ?_
    have fp := I1.fpOk (b := h2.objs.size) (H' := H) (Nat.le_refl _) (I1.hok.fresh (Nat.le_refl _))
    have I2 : Inv (cxS CX P w K mg base (self :: N') qual scope f cc (.ref cda) A outer ⟨hp0, g, d, tk, os⟩ H E) [(h2.objs.size, PySem.W.kxs_mw "ValueError.__init__" a)] (vs.map some) H ⟨h2.push (PySem.W.kxs_mw "ValueError.__init__" a), g, d, tk1 + 1, os⟩ :=
      (I1.kept (t' := tk1 + 1) (h' := h2.push (PySem.W.kxs_mw "ValueError.__init__" a)) fun b o z => Heap.get?_push_of_some _ z).pins_of fun p hp => by
        have ep : p = (h2.objs.size, PySem.W.kxs_mw "ValueError.__init__" a) := by simpa using hp
        subst ep
        exact ⟨Heap.get?_push_at rfl rfl, fp.1, fp.2.1, fp.2.2.1, fun v z => by cases z⟩
    have hst : starEach [Expr.JoinedStr parts jp] env = (false, eval (.JoinedStr parts jp) env) :: starEach [] env := rfl
    rw [hst]
    refine PySem.W.kxs_callWith (i := "ValueError.__init__") (x := a) (by rfl) (Calls.evalArgs_plain ?_)
    refine Calls.spliced_cons (thn (hpe.run [(h2.objs.size, PySem.W.kxs_mw "ValueError.__init__" a)] _ (vs.map some) H _ I2 hq) fun u1 s3 hh => Calls.spliced_nil ?_)
    obtain ⟨v1, H3, I3, r3, ⟨a', ea', hea3⟩, q3⟩ := hh
    have ea2 : a' = a := by
      rw [List.getElem?_map, ha0] at ea'
      cases ea'
      rfl
    subst ea2
    have hu3 : s3.heap.get? h2.objs.size = some (PySem.W.kxs_mw "ValueError.__init__" a') := (I3.pin (h2.objs.size, PySem.W.kxs_mw "ValueError.__init__" a') (by simp)).1
    refine ⟨hu3, ?_⟩
    obtain ⟨t3, hx3⟩ := exo_at I3.hok hea3
    have KX3 := I3.kIn
    have hlen1 : [u1].length ≤ sizeLine := by
      rw [sizeLine_eq]
      exact (by decide : 1 ≤ 16777216)
    obtain ⟨hp3, g3, d3, tk3, os3⟩ := s3
    refine call_bv (KX3 _ _ hC) hx3 hu3 hlen1 fun h4 t4 k4 hx4 => ?_
    have J := I3.write (t' := tk3) (x := a') (e := a') (o := exo a' C none) (by rw [hea3]; exact True.intro) (.inl rfl) k4 ⟨_, hx4⟩ (exo_ok hx4)
    have eu : upd H3 a' (exo a' C none) = H3 := by
      funext b
      by_cases hb : b = a'
      · rw [hb, upd_same, hea3]
      · rw [upd_ne hb]
    rw [eu] at J
    have J0 : Inv (cxS CX P w K mg base (self :: N') qual scope f cc (.ref cda) A outer ⟨hp0, g, d, tk, os⟩ H E) [] (vs.map some) H3 ⟨h4, g3, d3, tk3, os3⟩ := Inv.unpinned (pins := []) J
    refine PySem.wpAt_of_wpAny ?_
    refine wpAny_mono (hps.run [] _ (vs.map some) H3 _ J0 q3) (fun fl s' hs => ?_) fun e s' hs => hs
    have fin : ∀ {σ' : L2.St} {H' : Hp} {v : V} {u : Value}, Inv (cxS CX P w K mg base (self :: N') qual scope f cc (.ref cda) A outer ⟨hp0, g, d, tk, os⟩ H E) [] σ' H' s' → RelV v u → Q v H' → CE outer P w H ⟨hp0, g, d, tk, os⟩ Q u s' :=
      fun {σ' H' v u} J rv q => ⟨v, H', J.os, J.bare, J.base, J.hok, rv, q⟩
    cases fl with
    | ret u =>
      obtain ⟨v, σ', H', J, rv, q⟩ := hs
      exact fin J rv q
    | next =>
      obtain ⟨σ', H', J, q⟩ := hs
      exact fin (v := V.non) (u := Value.none) J rfl q
    | brk =>
      obtain ⟨_, _, _, q⟩ := hs
      exact False.elim q
    | cont =>
      obtain ⟨_, _, _, q⟩ := hs
      exact False.elim q
end Vk

set_option Elab.async false
set_option linter.all false
set_option maxRecDepth 100000
set_option maxHeartbeats 4000000
/-! set(text) and len(set(text)), whatever the text -/
namespace Vk
open PySem PySem.Spec PyProof.Rows L2

/-- the different codes, in the order in which they are met -/
def met : List Nat → List Nat
  | [] => []
  | c :: r => if (met r).contains c then met r else c :: met r
def metAt (l : List Nat) (i : Nat) : List Nat := met (l.take i).reverse
theorem metAt_succ {l : List Nat} {i c : Nat} (h : l[i]? = some c) : metAt l (i + 1) = if (metAt l i).contains c then metAt l i else c :: metAt l i := by
  unfold metAt
  have e : l.take (i + 1) = l.take i ++ [c] := by
    rw [List.take_add_one, h]
    rfl
  rw [e, List.reverse_append]
  rfl
theorem met_len : ∀ l : List Nat, (met l).length ≤ l.length
  | [] => Nat.le_refl _
  | c :: r => by
    have ih := met_len r
    unfold met
    split
    · exact Nat.le_succ_of_le ih
    · simp only [List.length_cons]
      omega
theorem mem_met : ∀ (l : List Nat) (c : Nat), c ∈ met l ↔ c ∈ l
  | [], c => Iff.rfl
  | a :: r, c => by
    have ih := mem_met r
    unfold met
    by_cases h : (met r).contains a = true
    · rw [if_pos h, ih]
      have ha : a ∈ r := (ih a).mp (by simpa using h)
      constructor
      · exact fun q => List.mem_cons_of_mem _ q
      · intro q
        rcases List.mem_cons.mp q with rfl | q
        · exact ha
        · exact q
    · rw [if_neg h]
      simp only [List.mem_cons, ih]
theorem met_full : ∀ l : List Nat, (met l).length = l.length ↔ l.Nodup
  | [] => by simp [met]
  | a :: r => by
    have ih := met_full r
    have hl := met_len r
    unfold met
    by_cases h : (met r).contains a = true
    · rw [if_pos h]
      have ha : a ∈ r := (mem_met r a).mp (by simpa using h)
      constructor
      · intro e
        simp only [List.length_cons] at e
        omega
      · intro q
        exact absurd ha (List.nodup_cons.mp q).1
    · rw [if_neg h]
      have ha : a ∉ r := fun q => h (by simpa using (mem_met r a).mpr q)
      simp only [List.length_cons, List.nodup_cons, ha, not_false_eq_true, true_and, Nat.add_right_cancel_iff]
      exact ih
theorem nodup_rev {l : List Nat} : l.reverse.Nodup ↔ l.Nodup := by
  refine (List.pairwise_reverse (R := fun a b : Nat => a ≠ b)).trans ?_
  exact ⟨fun h => h.imp Ne.symm, fun h => h.imp Ne.symm⟩
theorem metAt_end (l : List Nat) : (metAt l l.length).length = l.length ↔ l.Nodup := by
  unfold metAt
  rw [List.take_length]
  have h := met_full l.reverse
  rw [List.length_reverse] at h
  exact h.trans nodup_rev
/-- the set of the signs met -/
def metS (l : List Nat) (i : Nat) : Str → Bool := fun k => (metAt l i).any fun c => decide (k = (⟨#[c]⟩ : Str))
theorem metS_mem {l : List Nat} {i c : Nat} : metS l i ⟨#[c]⟩ = (metAt l i).contains c := by
  unfold metS
  rw [Bool.eq_iff_iff, List.any_eq_true]
  constructor
  · rintro ⟨d, hd, e⟩
    have e1 : [c] = [d] := congrArg (fun y : Str => y.cps.toList) (of_decide_eq_true e)
    have e2 : c = d := (List.cons.inj e1).1
    simpa [e2] using hd
  · intro h
    exact ⟨c, by simpa using h, by simp⟩
theorem metS_step {l : List Nat} {i c : Nat} (h : l[i]? = some c) (k : Str) : (metS l i k || decide (k = (⟨#[c]⟩ : Str))) = metS l (i + 1) k := by
  unfold metS
  rw [metAt_succ h]
  by_cases q : (metAt l i).contains c = true
  · rw [if_pos q]
    by_cases e : k = (⟨#[c]⟩ : Str)
    · subst e
      have := metS_mem (l := l) (i := i) (c := c)
      unfold metS at this
      rw [this, q]
      rfl
    · simp [e]
  · rw [if_neg q, List.any_cons, Bool.or_comm]
theorem metN_step {l : List Nat} {i c : Nat} (h : l[i]? = some c) : (if metS l i ⟨#[c]⟩ = true then (metAt l i).length else (metAt l i).length + 1) = (metAt l (i + 1)).length := by
  rw [metAt_succ h, metS_mem]
  split
  · rfl
  · rfl

section
variable {prog : Program} {w : World} {A : Around} {R : Result → Shared → Prop} {I : Addr} {fp wr : List Addr} {G : Array GenState → Array GenState → Prop} {P : Nat → Value → Prop} {St : Nat → Shared → Prop}
theorem upd_text {l : List Nat} (W : WalksS prog w A.in1 I fp wr G l.length P St) (S : Addr) (hSf : S ∉ fp)
    (hval : ∀ i v, P i v → ∃ c t, l[i]? = some c ∧ v = .str ⟨#[c]⟩ t) (hb : l.length + 1 < scanBound) :
    ∀ (k i : Nat) (s : Shared), l.length - i = k → i ≤ l.length → St i s → s.heap.SetOf (strKind prog w) S (metS l i) (metAt l i).length →
      (∀ s', Moved (S :: wr) G s s' → s'.heap.SetOf (strKind prog w) S (metS l l.length) (metAt l l.length).length → R (.ok (.ret .none)) s') → codeAny (model prog w) A (.builtin "set.update.loop" ⟨[.ref S, .ref I], []⟩) R s := by
  have hSw : S ∉ wr := fun h => hSf (W.sub _ h)
  have hsub : ∀ b ∈ wr, b ∈ S :: wr := fun b hb => List.mem_cons_of_mem _ hb
  intro k
  induction k with
  | zero =>
    intro i s hk hi hst hS hR
    obtain rfl : i = l.length := by omega
    refine codeAny_builtin PyProof.Rows.F.entry_set_update_loop ?_
    rw [Around.under_plainId PyProof.Rows.F.plain_set_update_loop _]
    show wpAny _ A.in1 (pyNext (.ref I) >>= _) _ _ s
    refine wpAny_bind (W.done s _ _ hst fun s1 hm => ?_)
    show wpAny _ A.in1 (ret Value.none) _ _ s1
    refine wpAny_pure (hR s1 (hm.mono hsub) ?_)
    obtain ⟨o, es, ep, t, ho, more⟩ := hS
    exact ⟨o, es, ep, t, hm.heap S _ hSw ho, more⟩
  | succ k ih =>
    intro i s hk hi hst hS hR
    have hlt : i < l.length := by omega
    refine codeAny_builtin PyProof.Rows.F.entry_set_update_loop ?_
    rw [Around.under_plainId PyProof.Rows.F.plain_set_update_loop _]
    show wpAny _ A.in1 (pyNext (.ref I) >>= _) _ _ s
    refine wpAny_bind (W.item i s _ _ hlt hst fun v s1 hP hst1 hm => ?_)
    obtain ⟨c, t, hc, rfl⟩ := hval i v hP
    have hS1 : s1.heap.SetOf (strKind prog w) S (metS l i) (metAt l i).length := by
      obtain ⟨o, es, ep, tb, ho, more⟩ := hS
      exact ⟨o, es, ep, tb, hm.heap S _ hSw ho, more⟩
    show wpAny _ A.in1 (holding [Value.str ⟨#[c]⟩ t] (setAdd S (.str ⟨#[c]⟩ t)) >>= _) _ _ s1
    refine wpAny_bind (wpAny_holding ?_)
    unfold setAdd
    refine wpAny_holding (wpAny_bind ((strKind prog w).pyHash (k := ⟨#[c]⟩) (strKind_is _ _ _ _) ?_))
    have hroom : (metAt l i).length + 1 < scanBound := by
      have h1 := met_len (l.take i).reverse
      rw [List.length_reverse, List.length_take] at h1
      have h2 : (metAt l i).length ≤ min i l.length := h1
      omega
    refine wpAny_setAddHashed_of (knd := strKind prog w) (s := { s1 with toks := s1.toks + 1 }) (strKind_is _ _ _ _) rfl hS1 hroom fun h2 hsb hS2 => ?_
    have hSi : h2.SetOf (strKind prog w) S (metS l (i + 1)) (metAt l (i + 1)).length := SetOf_congr hS2 (fun y => metS_step hc y) (metN_step hc)
    refine wpAny_pure ⟨plainId_quiet PyProof.Rows.F.plain_set_update_loop _, ih (i + 1) _ (by omega) hlt (W.frame _ s1 _ _ hst1 (Nat.le_succ _) fun b hb o e => ?_) hSi fun s3 hm3 hS3 => ?_⟩
    · rw [hsb.2 b (fun z : b = S => hSf (by rw [← z]; exact hb))]
      exact e
    · refine hR s3 (Moved.trans W.gtrans ((hm.mono hsub).then_heap (Nat.le_succ _) fun b o hb e => ?_) hm3) hS3
      rw [hsb.2 b (fun z : b = S => hb (by rw [z]; exact List.mem_cons_self))]
      exact e
end

section
variable {prog : Program} {w : World} {A : Around} {E : Value → Shared → Prop} {s : Shared}
theorem call_set_text {x : Str} {t : Tok} {Q : Value → Shared → Prop} (hh : A.handled = none) (hb : x.cps.size + 1 < scanBound)
    (h : ∀ (h2 : Heap) (tk : Nat), h2.SetOf (strKind prog w) s.heap.objs.size (metS x.cps.toList x.cps.size) (metAt x.cps.toList x.cps.size).length →
      (∀ b o, b < s.heap.objs.size → s.heap.get? b = some o → h2.get? b = some o) → Q (.ref s.heap.objs.size) { s with heap := h2, toks := tk }) :
    wpAny (model prog w) A (call (.type "set") [.str x t]) Q E s := by
  obtain ⟨c, tl, hmro⟩ := PySem.F.called_set.mro
  have hmade := PySem.F.called_set.made
  have hsub := PySem.F.called_set.sub
  refine wpAny_call (codeAny_of_tree ?_)
  show wpAny _ _ (callAny (.type "set") _) _ _ _
  refine wpAny_pure ⟨Code.quiet_builtin _ (by decide +kernel), codeAny_builtin PySem.F.entry_type_call ?_⟩
  rw [Around.under_plain (weight_type_call_type "set" [.str x t] []) rfl]
  have h1 := PySem.F.called_set.notType
  have h2 := PySem.F.called_set.canCreate
  have hct := PySem.F.typeCall_set_1 (.str x t)
  repeat (any_goals (first | assumption | wp_step))
  refine codeAny_mono (code_set_new_1 (.str x t) (E := E) (Q₁ := fun obj s₁ => ∃ led : Bool, obj = .ref s.heap.objs.size ∧ s₁ = { s with heap := s.heap.push { cls := .type "set", dict := none, data := .set #[] 0 (.fresh 0 0 led) } }) fun led => ⟨led, rfl, rfl⟩) fun r s₁ hr => ?_
  cases r with
  | error e => exact hr
  | ok fl =>
    cases fl with
    | ret obj =>
      obtain ⟨led, rfl, rfl⟩ := hr
      have hS : (s.heap.push { cls := .type "set", dict := none, data := .set #[] 0 (.fresh 0 0 led) }).get? s.heap.objs.size = some { cls := .type "set", dict := none, data := .set #[] 0 (.fresh 0 0 led) } := Heap.get?_push_size _ rfl
      have hT : Shared.TypeIs { s with heap := s.heap.push { cls := .type "set", dict := none, data := .set #[] 0 (.fresh 0 0 led) } } (.ref s.heap.objs.size) "set" := ⟨_, hS, rfl⟩
      have hli := PySem.F.called_set.init.lookup
      have hbi := PySem.F.called_set.init.bind (.ref s.heap.objs.size)
      repeat (any_goals (first | assumption | wp_step))
      refine codeAny_mono (codeAny_call_builtin (R := wants (fun r s₂ => r = .none ∧ ∃ h2 tk, s₂ = { s with heap := h2, toks := tk } ∧
          h2.SetOf (strKind prog w) s.heap.objs.size (metS x.cps.toList x.cps.size) (metAt x.cps.toList x.cps.size).length ∧
          (∀ b o, b < s.heap.objs.size → s.heap.get? b = some o → h2.get? b = some o)) E) PySem.F.called_set.init.plain PySem.F.entry_set_init (check_set_init_1 hT ?_)) fun r₂ s₂ hr₂ => ?_
      · unfold Builtin.«set.__init__» noKeywords Builtin.Frozenset.updateFrom
        generalize hPI : pyIter = PI
        have hTx : Shared.TypeIs { s with heap := s.heap.push { cls := .type "set", dict := none, data := .set #[] 0 (.fresh 0 0 led) } } (.str x t) "str" := rfl
        have hsS : isSubtype (.type "str") (.type "set") = pure false := by rw [isSubtype_type]; kernel_rfl
        have hsF : isSubtype (.type "str") (.type "frozenset") = pure false := by rw [isSubtype_type]; kernel_rfl
        have hne : (Value.type "str" == Value.type "dict") = false := by decide
        wp_walk
        subst hPI
        refine wpAny_pyIter_str fun o St W hst => wpAny_bind (wpAny_runValue ?_)
        generalize hH : s.heap.push { cls := .type "set", dict := none, data := .set #[] 0 (.fresh 0 0 led) } = Hq at W hst hS ⊢
        have hHs : Hq.objs.size = s.heap.objs.size + 1 := by rw [← hH, Heap.size_push]
        have hSf : s.heap.objs.size ∉ [Hq.objs.size] := fun hm => by
          rw [List.mem_singleton] at hm
          omega
        have hh3 : A.in1.in1.in1.handled = none := by simp [hh]
        refine upd_text (l := x.cps.toList) ((W A.in1.in1.in1 hh3).toS) s.heap.objs.size hSf (fun i v hv => ?_) hb (x.cps.toList.length - 0) 0 _ (by omega) (Nat.zero_le _) hst ?_ ?_
        · obtain ⟨c, u, hc, e⟩ := hv
          exact ⟨c, u, by rw [Array.getElem?_toList]; exact hc, e⟩
        · exact SetOf_congr ((PyProof.Rows.setObjOf_fresh (knd := strKind prog w) led).setOf (Heap.get?_push_of_some _ hS) (by unfold scanBound; omega)) (fun _ => rfl) rfl
        · intro s1 hm hS1
          obtain ⟨h2, g2, d2, tk2, os2⟩ := s1
          have eg : g2 = s.gens := hm.gens
          have ed : d2 = s.drawn := hm.drawn
          have eo : os2 = s.os := hm.os
          subst eg; subst ed; subst eo
          show wpAny _ _ _ _ _ _
          refine wpAny_pure ?_
          show wpAny _ _ (ret Value.none) _ _ _
          refine wpAny_pure ⟨rfl, h2, tk2, rfl, hS1, fun b o hb2 e => hm.heap b o (fun z => ?_) (Heap.get?_push_of_some _ (by rw [← hH]; exact Heap.get?_push_of_some _ e))⟩
          rcases List.mem_cons.mp z with z | z
          · rw [z] at hb2
            exact Nat.lt_irrefl _ hb2
          · rw [List.mem_singleton] at z
            rw [z, hHs] at hb2
            exact Nat.not_succ_lt_self hb2
      · cases r₂ with
        | error e => exact hr₂
        | ok fl₂ =>
          cases fl₂ with
          | ret r =>
            obtain ⟨rfl, h2, tk, rfl, hS', hk'⟩ := hr₂
            repeat (any_goals (first | assumption | wp_step))
            exact h _ _ hS' hk'
          | _ => exact hr₂.elim
    | _ => exact hr.elim
end

/-- len(set(x)), x a text -/
def tLenSetT (ta : TE) : TE := fun σ H Q => ta σ H fun x H1 => ∃ z : Str, x = .str z ∧ z.length ≤ 4000 ∧ Q (.int ((metAt z.cps.toList z.cps.toList.length).length : Nat)) H1
theorem pe_lenSetT {X : Cx} {a : Expr} {ta : TE} {p p2 q pos : Pos} (hg : Gl X "len") (hm : X.mg "len" = none) (hg2 : Gl X "set") (hm2 : X.mg "set" = none) (ha : PE X a ta) (hc : X.calm = true := by rfl)
    (na : starEach [a] X.env = (false, eval a X.env) :: starEach [] X.env := by rfl) : PE X (.Call (.Name "len" p) [.Call (.Name "set" p2) [a] [] q] [] pos) (tLenSetT ta) := by
  refine ⟨fun pins s σ H Q I h => ?_⟩
  refine Call_ (ld_blt I hg hm boot_len (PyProof.Rows.callWith_builtin1 (PyProof.Rows.args_cons ?_ rfl) rfl rfl))
  refine Call_ (ld_blt I hg2 hm2 boot_set ?_)
  refine PyProof.Rows.callWith_type1 (PyProof.Rows.args_cons (thn (ha.run pins s σ H _ I h) fun v s1 hh => PyProof.Rows.args_nil ?_) na) na rfl
  obtain ⟨x, H1, I1, r1, z, rfl, hz, q1⟩ := hh
  obtain ⟨t, rfl⟩ := r1
  have hz2 : z.cps.size ≤ 4000 := hz
  refine call_set_text (I1.ok.hd hc) (by unfold scanBound; omega) fun h2 tk hS hk => PyProof.Rows.args_nil ?_
  obtain ⟨o, es, ep, tb, ho, hex, hd, _, _, _, hf, hn⟩ := hS
  have I2 : Inv X pins σ H1 { s1 with heap := h2, toks := tk } := I1.kept fun b o e => hk b o (Heap.lt_size e) e
  have hle : (metAt z.cps.toList z.cps.size).length ≤ z.cps.size := by
    have h1 := met_len (z.cps.toList.take z.cps.size).reverse
    rw [List.length_reverse, List.length_take] at h1
    exact Nat.le_trans h1 (Nat.min_le_left _ _)
  exact call_len_set ho hex hd hf (by rw [hn]; omega) ⟨.int ((metAt z.cps.toList z.cps.toList.length).length : Nat), H1, I2.tok _, ⟨_, by rw [hn]; rfl⟩, q1⟩
end Vk

set_option Elab.async false
set_option linter.all false
set_option maxRecDepth 100000
set_option maxHeartbeats 4000000
/-! sorted(text): the signs of a text in order; list(text) -/
namespace Vk
open PySem PySem.Spec PyProof.Rows L2
def signsOf (z : Str) : List Str := z.cps.toList.map fun c => (⟨#[c]⟩ : Str)
theorem signs_strs {z : Str} {acc : Array Value} (h : ItemsOf (SignAt z) acc z.cps.size) : StrsAre acc.toList (signsOf z) := by
  have hsz : acc.size = z.cps.size := h.1
  have hL : acc.toList.length = (signsOf z).length := by
    rw [Array.length_toList, hsz]
    unfold signsOf
    rw [List.length_map, Array.length_toList]
  refine strs_at hL fun j v e => ?_
  have e1 : acc[j]? = some v := by rw [← Array.getElem?_toList]; exact e
  obtain ⟨c, u, hc, ev⟩ := h.2 j v e1
  refine ⟨⟨#[c]⟩, u, ?_, ev⟩
  unfold signsOf
  rw [List.getElem?_map, Array.getElem?_toList, hc]
  rfl
section
variable {X : Cx}
def rSortT : List V → Hp → VK → Prop := fun vs H Q => ∃ z : Str, vs = [.str z] ∧ z.length < 64 ∧
  ∀ ys p, ys.Perm (signsOf z) → sortedS ys = true → H p = none → Q (.ref p) (upd H p (.lst (ys.map V.str)))
theorem cr_sortT (hcalm : X.calm = true) : CallR X (.builtin "sorted") rSortT := by
  intro pins s σ H xs us Q I r q
  obtain ⟨z, ex, h64, q⟩ := q
  subst ex
  obtain ⟨u, eu, rx⟩ := vals1 r
  subst eu
  obtain ⟨t, rfl⟩ := rx
  have hz2 : z.cps.size < 64 := h64
  refine Calls.call_function_entry PyProof.Rows.kind_sorted PyProof.Rows.plain_sorted PyProof.Rows.entry_sorted (PyProof.Rows.args_sorted1 _) ?_
  unfold Builtin.«sorted»
  refine wpAny_bind (m := checkCount "sorted" 1 1 _) (wpAny_pure ?_)
  refine wpAny_bind (wpAny_collect_str (A := X.A.in1) (I.ok.hd hcalm) z t (fun s1 acc hk hg hd ho hacc => ?_) (by rw [sizeLine_eq]; omega))
  obtain ⟨h1, g1, d1, tk1, os1⟩ := s1
  have eg : g1 = s.gens := hg
  have ed : d1 = s.drawn := hd
  have eo : os1 = s.os := ho
  subst eg; subst ed; subst eo
  have hS := signs_strs hacc
  have hal : acc.toList.length = z.cps.size := by rw [Array.length_toList]; exact hacc.1
  have I1 : Inv X pins σ H { s with heap := h1, toks := tk1 } := I.kept hk
  refine wpAny_bind (wpAny_newList ?_ (by rw [hal, sizeLine_eq]; omega))
  have hoL : (h1.push (seqObj "list" acc.toList.toArray 0)).get? h1.objs.size = some (seqObj "list" acc.toList.toArray 0) := Heap.get?_push_size _ rfl
  show wpAny _ _ _ _ _ { s with heap := h1.push (seqObj "list" acc.toList.toArray 0), toks := tk1 }
  refine wpAny_bind (wpAny_holding (wpAny_call_entry PyProof.Rows.slot_list_sort ⟨_, hoL, rfl⟩ PyProof.Rows.entry_list_sort
    (list_sort_treeK strKind_oneLt (s := { s with heap := h1.push (seqObj "list" acc.toList.toArray 0), toks := tk1 }) hoL hS.keysOf (fun v₁ v₂ more e => keyKind_strs (by rw [← e]; exact hS)) (by rw [hal]; exact hz2) fun st2 hp hs => ⟨_, rfl, ?_⟩)
    (PyProof.Rows.args_list_sort _)))
  obtain ⟨ys, g1, g2, g3⟩ := sorted_out_str hS hp hs
  obtain ⟨e', he'⟩ := PyProof.Rows.sortedHeap_at (vs := acc.toList) (out := (arrOf st2).map (·.2)) hoL
  have hlen : (ys.map V.str).length ≤ sizeLine := by
    rw [List.length_map, g2.length_eq]
    unfold signsOf
    rw [List.length_map, Array.length_toList, sizeLine_eq]
    omega
  refine wpAny_pure ⟨_, rfl, .ref h1.objs.size, upd H h1.objs.size (.lst (ys.map V.str)), I1.laid (t' := tk1) (fun b u e => ?_) (Nat.le_refl _)
    (show ObjOk X.prog X.w _ _ _ (.lst (ys.map V.str)) from ⟨hlen, ((arrOf st2).map (·.2)).toList, e', vals_of_strs g1, by rw [Array.toArray_toList]; exact he'⟩), rfl, q ys _ g2 g3 (I1.hok.fresh (Nat.le_refl _))⟩
  have hb : b < h1.objs.size := Heap.lt_size e
  rw [PyProof.Rows.sortedHeap_old (Nat.ne_of_lt hb) (by rw [size_push']; exact Nat.lt_succ_of_lt hb)]
  exact Heap.get?_push_of_some _ e
/-- list(x), x a text -/
def rListT : List V → Hp → VK → Prop := fun vs H Q => ∃ z : Str, vs = [.str z] ∧ z.length ≤ 4000 ∧ ∀ p, H p = none → Q (.ref p) (upd H p (.lst ((signsOf z).map V.str)))
end
/-! sorted texts: two arrangements of the same texts are one -/
theorem lt_irr (a : List Nat) : ltCps a a = false := by
  rw [ltCps_eq]
  exact decide_eq_false (List.lt_irrefl a)
end Vk

set_option Elab.async false
set_option linter.all false
set_option maxRecDepth 100000
set_option maxHeartbeats 4000000
namespace Vk
open PySem PySem.Spec PyProof.Rows L2
/-! isinstance of a caught error that has a dict -/
section
open PySem.W
variable {prog : Program} {w : World} {A : Around} {E : Value → Shared → Prop} {s : Shared} {K : Frag} {x D : Addr} {ox od : Obj}
theorem cls_of_exc {Q : Option Value → Shared → Prop} (T : ExcC K D) (X : K.In s.heap) (I : InstAt s.heap x ox D (some od)) (h : Q (some (.ref D)) { s with toks := s.toks + 1 }) : wpAny (model prog w) A (getAttr? (.ref x) "__class__") Q E s := by
  have hf : findObj K D (some od) "__class__" = some (.bind (.builtin "getset_descriptor.__get__") (.builtin "object.__class__")) :=
    findObj_data (by obtain ⟨cd, hc, _⟩ := any_some T.hd; rw [hc]; rfl) T.ha T.hn T.ht
  obtain ⟨hp, g, d, t, os⟩ := s
  have K0 := I.type (M := model prog w)
  have K1 := looks_findIn (M := model prog w) X T.hg
  have K2 := looks_findIn (M := model prog w) X T.hk
  have K3 := looks_find (M := model prog w) X I hf
  have sub : Looks (model prog w) hp (isInstance (.ref x) (.type "BaseException")) true := K0.andThen (looks_subIn X T.hs)
  have q0 : (false && onTheHeap (Value.builtin "BaseException.__getattribute__")) = false := rfl
  have q2 : (Value.builtin "BaseException.__getattribute__" == Value.builtin "object.__getattribute__") = false := by decide +kernel
  have q1 : (onTheHeap (Value.ref D) && Value.builtin "BaseException.__getattribute__" == Value.builtin "object.__getattribute__") = false := by rw [q2]; rfl
  unfold getAttr? getAttrBy? getAttrBy
  refine wpAny_bind (wpAny_mkText (wpAny_bind (wpAny_attempt (wpAny_holding (wpAny_bind (K0.at (wpAny_bind (K1.at ?_))))))))
  show wpAny _ _ (if (onTheHeap (Value.ref D) && Value.builtin "BaseException.__getattribute__" == Value.builtin "object.__getattribute__") = true then _ else _) _ _ _
  rw [q1, if_neg Bool.false_ne_true]
  unfold getAttrByItsOwn hookBefore
  refine wpAny_bind ?_
  rw [if_pos (show onTheHeap (Value.ref D) = true from rfl)]
  refine K2.at (wpAny_bind (wpAny_attempt (wpAny_holding ?_)))
  unfold callGetattribute
  rw [q0, if_neg Bool.false_ne_true]
  unfold boundAndCalled
  rw [PySem.F.excAttr_ValueError.ga.bind (.ref x)]
  refine wpAny_bind (wpAny_pure ?_)
  show wpAny _ _ (call (.builtin "BaseException.__getattribute__") [.ref x, .str "__class__" t]) _ _ _
  refine wpAny_call (codeAny_call_builtin PySem.F.excAttr_ValueError.ga.plain PySem.F.entry_bexc_ga ?_)
  refine @check_slot (model prog w) _ _ ⟨hp, g, d, t + 1, os⟩ "BaseException.__getattribute__" "BaseException" "__getattribute__" (.ref x) [.str "__class__" t] [] _ (by decide +kernel) (by decide +kernel) sub (PySem.F.args_bexc_ga (.ref x) (.str "__class__" t)) ?_
  unfold Builtin.«object.__getattribute__»
  refine wpAny_bind (wpAny_of_eq (a := ((Value.ref x : Value), [Value.str "__class__" t])) (by first | rfl | (simp only [slotArgs]; rfl)) ?_)
  refine wpAny_bind (wpAny_pure (wpAny_bind (K0.at (wpAny_bind (K3.at ?_)))))
  show wpAny _ _ (holding [Value.builtin "object.__class__"] (call (.builtin "getset_descriptor.__get__") [.builtin "object.__class__", .ref x, .ref D]) >>= ret) _ _ _
  refine wpAny_bind (wpAny_holding (wpAny_call (class_get (s := ⟨hp, g, d, t + 1, os⟩) (ox := ox) (od := some od) X I T.hm (wpAny_pure ?_))))
  show wpAny _ _ (handedOut (.ref D)) _ _ _
  rw [handedOut_of (v := .ref D) rfl]
  first
    | exact wpAny_pure (wpAny_pure h)
    | exact wpAny_pure h
    | exact wpAny_pure (wpAny_bind (wpAny_pure (wpAny_pure h)))
theorem kit_excD (T : ExcC K D) : KitX K (.ref x) (.ref D) (fun h => InstAt h x ox D (some od)) where
  ty := fun _ _ _ I => I.type
  it := fun _ _ X _ => by
    obtain ⟨cdD, hcD, _⟩ := any_some T.hd
    unfold clsIn at hcD
    split at hcD
    · rename_i c1 d1 cd1 sl1 ho
      intro A1 Q1 E1 s1 k q
      unfold isType loadHead
      exact wpAny_bind (wpAny_loadPart (k _ _ (X _ _ ho)) (wpAny_pure q))
    · cases hcD
  ne := fun h tp dd its n sl X htp => by
    obtain ⟨cdD, hcD, _⟩ := any_some T.hd
    refine Bool.eq_false_iff.mpr fun q => ?_
    have e : D = tp := Value.ref.inj (beq_iff_eq.mp q)
    subst e
    unfold clsIn at hcD
    split at hcD
    · rename_i c1 d1 cd1 sl1 ho
      have z := (X _ _ ho).symm.trans htp
      cases z
    · cases hcD
  ca := fun X I k => cls_of_exc T X I k
end
/-- the caught error at a, of the class at D, its dict at dd: it can be asked for its class -/
theorem exc_inst {X : Cx} {a D dd : Addr} {oe : Obj} {pn : List (Addr × Obj)} {pins : List (Addr × Obj)} {σ : L2.St} {H : Hp} {s : Shared} {fs : List (Str × V)} (hz : Zc (.ref D) (some dd) oe) (hf : ∃ vs, oe.data = .fields vs)
    (I : Inv (X.suite a ((a, oe) :: pn)) pins σ H s) (hd : H dd = some (.xd fs)) : ∃ od, PySem.W.InstAt s.heap a oe D (some od) := by
  obtain ⟨ha, _⟩ := I.pin (a, oe) (List.mem_append_left _ List.mem_cons_self)
  obtain ⟨vs, hv⟩ := hf
  have hx : ObjOk X.prog X.w H s.heap dd (.xd fs) := I.hok dd _ hd
  obtain ⟨mA, hns, hr⟩ := hx
  obtain ⟨od, ho, hl⟩ := lookIn_ns hns
  exact ⟨od, ha, hz.1, by unfold PySem.W.notCls; rw [hv] <;> rfl, by rw [hz.2]; exact ho⟩
/-- isinstance(e, c), isinstance(e, (c1, c2)) in the suite: t the class of e as a value -/
def rIsX (K : PySem.W.Frag) (a : Addr) (cls : Value) (d : Option Addr) : List V → Hp → VK → Prop := fun xs H Q =>
  ∃ (D dd : Addr) (fs : List (Str × V)), cls = .ref D ∧ d = some dd ∧ ExcC K D ∧ H dd = some (.xd fs) ∧
    ((∃ (c : V) (u : Value) (b : Bool), xs = [.ref a, c] ∧ ClsV c u ∧ PySem.W.kitOne K (.ref D) u = some b ∧ Q (.bl b) H) ∨
      ∃ (tp : Addr) (cs : List V) (us : List Value) (b : Bool), xs = [.ref a, .ref tp] ∧ H tp = some (.tup cs) ∧ Paired ClsV cs us ∧ PySem.W.kitAny K (.ref D) us = some b ∧ Q (.bl b) H)
theorem call_isX {X : Cx} {a : Addr} {cls : Value} {d : Option Addr} {oe : Obj} {pn : List (Addr × Obj)} (hz : Zc cls d oe) (hf : ∃ vs, oe.data = .fields vs) : CallR (X.suite a ((a, oe) :: pn)) (.builtin "isinstance") (rIsX X.K a cls d) := by
  intro pins s σ H xs us Q I r h
  obtain ⟨D, dd, fs, rfl, rfl, C, hd, h⟩ := h
  obtain ⟨od, J⟩ := exc_inst hz hf I hd
  rcases h with ⟨c, u, b, rfl, k, e, q⟩ | ⟨tp, cs, ws, b, rfl, hT, k, e, q⟩
  · obtain ⟨u1, u2, rfl, r1, r2⟩ := vals2 r
    cases (show u1 = Value.ref a from r1)
    have e2 := k.eq r2
    subst e2
    exact PySem.W.kia_one (kit_excD C) I.kIn J e (fun z => nomatch z) fun tk => ⟨.bl b, H, I.tok tk, rfl, q⟩
  · obtain ⟨u1, u2, rfl, r1, r2⟩ := vals2 r
    cases (show u1 = Value.ref a from r1)
    cases (show u2 = Value.ref tp from r2)
    obtain ⟨_, its, rv, o, h1, h2, n, h3⟩ := (show ObjOk X.prog X.w H s.heap tp (.tup cs) from I.hok tp _ hT)
    have e3 := ClsV.all k rv
    subst e3
    obtain ⟨oc, od', dt, sl⟩ := o
    simp only at h2 h3
    subst h2 h3
    exact PySem.W.kia_tup (kit_excD C) I.kIn J h1 e (fun z => nomatch z) fun tk => ⟨.bl b, H, I.tok tk, rfl, q⟩

/-! x == y by an own __eq__ -/
def rOwnI (K : PySem.W.Frag) (C : Addr) (sp : Sp) (E : XK) : R2 := fun x y H Q => ∃ a dx fs b C' dy gs, x = .ref a ∧ y = .ref b ∧ H a = some (.ins C dx fs) ∧ H b = some (.ins C' dy gs) ∧ PySem.W.notFirst K C (.ref C') = true ∧ sp [x, y] H Q E
section
variable {X : Cx} {CX : CXT} {k : Nat} {g C : Addr} {fd : FuncData} {ps : List Str} {sp : Sp} {E : XK}
theorem op_ownI {op : CmpOp} (hop : ∀ a b, compareOp op a b = richCompare op a b) (hs : PySem.W.findIn X.K (.ref C) (cmpInfo op).2.1 = some (some (.ref g))) (hf : PySem.W.isFn X.K (.ref g) = true) (F : FnOk X.prog X.w X.K X.mg X.base CX k g fd ps sp)
    (hr : Room k X.A) (hb : Binds X.K fd ps []) (hx : Passes CX X E) : OpR X (compareOp op) (rOwnI X.K C sp E) := by
  intro pins s σ H x y v u Q I rx ry h
  obtain ⟨a, dx, fs, b, C', dy, gs, rfl, rfl, ha, hbb, hn, q⟩ := h
  cases (show v = Value.ref a from rx)
  cases (show u = Value.ref b from ry)
  obtain ⟨mA, O, _⟩ := ins_get I.hok ha
  obtain ⟨od, J, _⟩ := O.look
  obtain ⟨mB, O2, _⟩ := ins_get I.hok hbb
  obtain ⟨od2, J2, _⟩ := O2.look
  obtain ⟨m, hF⟩ := I.fr
  rw [hop]
  refine PySem.W.cmp_K (op := op) (tb := .ref C') hr.units0 hF I.ok.mod.kin J J2.type hn hs hf ?_
  refine wpAny_mono (run_fn (us := [.ref a, .ref b]) (vs := [.ref a, .ref b]) F hr hb .nil hx I (.cons rfl (.cons rfl .nil)) (by rw [List.append_nil]; exact q)) (fun w s1 z => ?_) fun _ _ x => x
  obtain ⟨z1, H1, I1, rz, qz⟩ := z
  exact SlX.cmpback rz ⟨z1, H1, I1, rz, qz⟩
end

/-! C(e, ..) whose __init__ may raise, in a try: what is raised is wished for at the slots -/
def tMakeS (C : Addr) (sp : Sp) (dvs : List V) (E : L2.St → XK) (t : TA) : TE := fun σ H Q => t σ H fun vs H1 => ∀ x dx, H1 x = none → H1 dx = none → dx ≠ x →
  sp (.ref x :: (vs ++ dvs)) (upd (upd H1 dx (.own x)) x (.ins C dx [])) (fun v H2 => v = .non ∧ Q (.ref x) H2) (E σ)
section
variable {X : Cx} {CX : CXT} {k : Nat} {f C : Addr} {fd : FuncData} {ps : List Str} {sp : Sp} {dvs : List V} {ds : List Value} {E : L2.St → XK} {x : Str} {p pos : Pos} {e : Expr} {es : List Expr} {t : TA}
theorem pe_makeS (M : Mk X.K C f) (F : FnOk X.prog X.w X.K X.mg X.base CX k f fd ps sp) (hr : Room (k + 1) X.A) (hg : Gl X x) (hm : X.mg x = some (.ref C)) (hb : Binds X.K fd ps ds) (hd : Vals dvs ds) (hx : ∀ σ, PassesAt CX X σ (E σ))
    (ha : PA X (e :: es) t) (hdb : (x == ("__debug__" : Str)) = false := by decide) (he : starEach (e :: es) X.env = (false, eval e X.env) :: starEach es X.env := by rfl) (hpl : (backTo pos (starEach es X.env)).any (·.1) = false := by rfl) :
    PE X (.Call (.Name x p) (e :: es) [] pos) (tMakeS C sp dvs E t) := by
  refine ⟨fun pins s σ H Q I h => ?_⟩
  refine wpAny_Call_Name_kw (ld_glob I hg hm ?_ hdb)
  refine PySem.W.callWith_K (h₀ := X.base) I.ok.mod.kin M.kp (thn (ha.run pos pins s σ H _ I h) fun us s1 hh => ?_) he hpl
  obtain ⟨vs, H1, I1, r, q⟩ := hh
  refine ⟨I1.kIn, ?_⟩
  show wpAny _ _ (call (.ref C) us) _ _ _
  have hq := q (s1.heap.objs.size + 1) s1.heap.objs.size (I1.hok.fresh (Nat.le_succ _)) (I1.hok.fresh (Nat.le_refl _)) (Nat.ne_of_lt (Nat.lt_succ_self _))
  have I2 := Inv.made (C := C) I1
  have r2 : Vals (V.ref (s1.heap.objs.size + 1) :: (vs ++ dvs)) (Value.ref (s1.heap.objs.size + 1) :: (us ++ ds)) := .cons rfl (r.append hd)
  have hl : (Value.ref (s1.heap.objs.size + 1) :: us ++ ds).length = ps.length := by
    have e := r2.length
    rw [F.len _ _ _ _ hq] at e
    exact e.symm
  refine wpAny_call (make_map (f := f) I1.kIn M.makes M.init (beq_iff_eq.mp M.fn) (codeAny_mono (F.run _ X.stack _ _ ⟨Value.ref (s1.heap.objs.size + 1) :: us, []⟩ (Value.ref (s1.heap.objs.size + 1) :: (us ++ ds)) _ _ (E σ) (hr.make C us [])
    (I2.env0.make C us []) (hb _ (Value.ref (s1.heap.objs.size + 1) :: us) I2.kIn hl) r2 hq) fun r3 s3 hq3 => ?_))
  cases r3 with
  | error e => exact hx σ _ _ _ e s3 I2 hq3
  | ok fl =>
    cases fl with
    | ret u =>
      obtain ⟨v, H3, I3, rv, ev, q3⟩ := I2.after hq3
      subst ev
      exact ⟨rv, ⟨V.ref (s1.heap.objs.size + 1), H3, I3, rfl, q3⟩⟩
    | next => exact False.elim hq3
    | brk => exact False.elim hq3
    | cont => exact False.elim hq3
end
end Vk

set_option Elab.async false
set_option linter.all false
set_option maxRecDepth 100000
set_option maxHeartbeats 1000000
/-! texts as lists of codes; comprehensions over a text -/
namespace Vk
open PySem PySem.Spec PyProof.Rows L2
/-- the text of these codes -/
def S (l : List Nat) : Str := ⟨l.toArray⟩
theorem S_of (z : Str) : z = S z.cps.toList := by
  obtain ⟨a⟩ := z
  simp [S]
theorem S_len (l : List Nat) : (S l).length = l.length := by
  show l.toArray.size = l.length
  simp
theorem S_cps (l : List Nat) : (S l).cps.toList = l := by simp [S]
theorem S_size (l : List Nat) : (S l).cps.size = l.length := S_len l
theorem S_inj {a b : List Nat} : S a = S b ↔ a = b := by
  constructor
  · intro h
    have := congrArg (fun z : Str => z.cps.toList) h
    simpa [S] using this
  · rintro rfl
    rfl
theorem S_one (c : Nat) : (⟨#[c]⟩ : Str) = S [c] := rfl
theorem S_app (a b : List Nat) : S a ++ S b = S (a ++ b) := by
  show (⟨a.toArray ++ b.toArray⟩ : Str) = ⟨(a ++ b).toArray⟩
  simp
theorem S_get {l : List Nat} {i c : Nat} : (S l).cps[i]? = some c ↔ l[i]? = some c := by
  show l.toArray[i]? = some c ↔ _
  simp
theorem signs_S (l : List Nat) : signsOf (S l) = l.map fun c => S [c] := by
  unfold signsOf
  rw [S_cps]
  rfl
theorem S_cut (l : List Nat) (lo hi : Option Int) : cutS (S l) lo hi = S ((l.drop (HT.sIx l.length 0 lo)).take (HT.sIx l.length l.length hi - HT.sIx l.length 0 lo)) := by
  unfold cutS
  rw [S_cps, S_len]
  rfl
theorem S_to (l : List Nat) (k : Nat) : cutS (S l) none (some (k : Int)) = S (l.take k) := by
  rw [S_cut, HT.sIx_none, HT.sIx_nat, List.drop_zero, Nat.sub_zero]
  congr 1
  rw [← List.take_take, List.take_length]
theorem S_from (l : List Nat) (k : Nat) : cutS (S l) (some (k : Int)) none = S (l.drop k) := by
  rw [S_cut, HT.sIx_none, HT.sIx_nat]
  congr 1
  by_cases h : k ≤ l.length
  · rw [Nat.min_eq_left h]
    exact List.take_of_length_le (by rw [List.length_drop]; exact Nat.le_refl _)
  · rw [Nat.min_eq_right (by omega), Nat.sub_self, List.take_zero, List.drop_eq_nil_of_le (by omega)]
/-- what join does of single signs -/
theorem join_signs : ∀ l : List Nat, Txt.join (S []) (l.map fun c => S [c]) = S l := by
  have key : ∀ l : List Nat, Str.join (S []) (l.map fun c => S [c]) = S l := by
    intro l
    induction l with
    | nil => rfl
    | cons c r ih =>
      cases r with
      | nil => rfl
      | cons d r =>
        show S [c] ++ S [] ++ Str.join (S []) ((d :: r).map fun c => S [c]) = _
        rw [ih, S_app, S_app]
        rfl
  intro l
  exact (PySem.StrLaws.glued_eq_join _ _).trans (key l)
/-! sorted -/
def srtL (l : List Nat) : List Nat := l.mergeSort fun a b => decide (a ≤ b)
theorem srtL_perm (l : List Nat) : (srtL l).Perm l := List.mergeSort_perm _ _
theorem srtL_le (l : List Nat) : (srtL l).Pairwise (· ≤ ·) := by
  have h := List.pairwise_mergeSort (le := fun a b : Nat => decide (a ≤ b)) (by simp; omega) (by simp; omega) l
  exact h.imp fun h => by simpa using h
theorem srtL_len (l : List Nat) : (srtL l).length = l.length := (srtL_perm l).length_eq
theorem srtL_mem {l : List Nat} {c : Nat} : c ∈ srtL l ↔ c ∈ l := (srtL_perm l).mem_iff
theorem srtL_nodup {l : List Nat} : (srtL l).Nodup ↔ l.Nodup := (srtL_perm l).nodup_iff
theorem srt_eq {a b : List Nat} (p : a.Perm b) (ha : a.Pairwise (· ≤ ·)) : a = srtL b :=
  List.Perm.eq_of_pairwise (le := (· ≤ ·)) (fun x y _ _ h1 h2 => Nat.le_antisymm h1 h2) ha (srtL_le b) (p.trans (srtL_perm b).symm)
theorem srtL_congr {a b : List Nat} : srtL a = srtL b ↔ a.Perm b := by
  constructor
  · intro h
    exact (srtL_perm a).symm.trans (h ▸ srtL_perm b)
  · intro p
    exact srt_eq ((srtL_perm a).trans p) (srtL_le a)
theorem rising_le : ∀ (c : Nat) (l : List Nat), risingS (S [c]) (l.map fun c => S [c]) = true → (c :: l).Pairwise (· ≤ ·)
  | c, [], _ => by simp
  | c, d :: l, h => by
    have h' : (!ltCps (S [d]).cps.toList (S [c]).cps.toList && risingS (S [d]) (l.map fun c => S [c])) = true := h
    obtain ⟨h1, h2⟩ := Bool.and_eq_true_iff.mp h'
    have ih := rising_le d l h2
    have hcd : c ≤ d := by
      rw [ltCps_eq] at h1
      simp [S] at h1
      exact Nat.le_of_not_lt fun z => of_decide_eq_false h1 (List.Lex.rel z)
    rw [List.pairwise_cons]
    refine ⟨fun x hx => ?_, ih⟩
    rcases List.mem_cons.mp hx with rfl | hx
    · exact hcd
    · exact Nat.le_trans hcd ((List.pairwise_cons.mp ih).1 x hx)
theorem sorted_signs {l : List Nat} {ys : List Str} (p : ys.Perm (l.map fun c => S [c])) (h : sortedS ys = true) : ys = (srtL l).map fun c => S [c] := by
  have hq : ∃ zs : List Nat, ys = zs.map fun c => S [c] := by
    refine ⟨ys.map fun z => z.cps.toList.headD 0, ?_⟩
    rw [List.map_map]
    refine (List.map_id ys).symm.trans (List.map_congr_left fun y hy => ?_)
    obtain ⟨c, _, rfl⟩ := List.mem_map.mp (p.mem_iff.mp hy)
    simp [S]
  obtain ⟨zs, rfl⟩ := hq
  have hp : zs.Perm l := by
    have q := p.map fun z : Str => z.cps.toList.headD 0
    rw [List.map_map, List.map_map] at q
    have e : ∀ l : List Nat, l.map ((fun z : Str => z.cps.toList.headD 0) ∘ fun c => S [c]) = l := fun l => (List.map_congr_left fun c _ => by simp [S]).trans (List.map_id l)
    rw [e, e] at q
    exact q
  have hs : zs.Pairwise (· ≤ ·) := by
    cases zs with
    | nil => exact .nil
    | cons c r => exact rising_le c r h
  rw [srt_eq hp hs]
/-! a comprehension over a text -/
theorem lc_text {l : List Nat} {j : Nat} {tt : TT} {te : TE} {vs : List Nat} {σ : L2.St} {H1 : Hp} {D : Addr} {Qd : Hp → Prop} (p : Nat → Bool) (v : Nat → V) (hl : l.length ≤ 4000)
    (hw : ∀ x, wipe ((wipe σ vs).set j (some x)) vs = wipe σ vs)
    (ht : ∀ c ∈ l, ∀ (H2 : Hp) (Q : Bool → Hp → Prop), (∀ b, b ≠ D → H2 b = H1 b) → Q (p c) H2 → tt ((wipe σ vs).set j (some (.str (S [c])))) H2 Q)
    (he : ∀ c ∈ l, p c = true → ∀ (H2 : Hp) (Q : VK), (∀ b, b ≠ D → H2 b = H1 b) → Q (v c) H2 → te ((wipe σ vs).set j (some (.str (S [c])))) H2 Q)
    (hq : Qd (upd H1 D (.lst ((l.filter p).map v)))) :
    ∃ W : Nat → Nat → Hp → Prop, (∃ m, W 0 m (upd H1 D (.lst []))) ∧ ∀ i m H, W i m H →
      ((Its (S l)).stop i H ∧ Qd H) ∨ ((Its (S l)).go i H ∧ ∃ Nx : Hp → Prop, (∀ H', Nx H' → ∃ m', m' < m ∧ W (i + 1) m' H') ∧ ∀ x H', (Its (S l)).yld i H x H' → gName j x (wipe σ vs) H' fun σ2 H2 => wipe σ2 vs = wipe σ vs ∧ tt σ2 H2 fun b H3 =>
        if b = true then te σ2 H3 fun y H4 => ∃ acc, H4 D = some (.lst acc) ∧ acc.length < sizeLine ∧ Nx (upd H4 D (.lst (acc ++ [y]))) else Nx H3) := by
  have hz : (S l).cps.size = l.length := S_size l
  refine lc_it walk_str (fun i H => H = upd H1 D (.lst (((l.take i).filter p).map v))) rfl (fun _ _ _ _ => trivial) ?_ ?_
  · rintro i x H H' hi hP ⟨rfl, c, hc, rfl⟩
    subst hP
    have hc2 : l[i]? = some c := S_get.mp hc
    have hm : c ∈ l := List.mem_of_getElem? hc2
    have off : ∀ b, b ≠ D → (upd H1 D (.lst (((l.take i).filter p).map v))) b = H1 b := fun b hb => upd_ne hb
    have e1 : l.take (i + 1) = l.take i ++ [c] := by
      rw [List.take_add_one, hc2]
      rfl
    refine ⟨hw _, ht c hm _ _ off ?_⟩
    by_cases hp : p c = true
    · rw [if_pos hp]
      refine he c hm hp _ _ off ⟨_, upd_same, ?_, ?_⟩
      · rw [List.length_map, sizeLine_eq]
        have h1 := List.length_filter_le p (l.take i)
        rw [List.length_take] at h1
        omega
      · rw [upd_upd, e1, List.filter_append, List.filter_cons_of_pos hp, List.filter_nil, List.map_append]
        rfl
    · rw [if_neg hp, e1, List.filter_append, List.filter_cons_of_neg hp, List.filter_nil, List.append_nil]
  · rintro H rfl
    rw [hz, List.take_length]
    exact hq
end Vk

set_option Elab.async false
set_option linter.all false
set_option maxRecDepth 100000
set_option maxHeartbeats 2000000
namespace Vk
open PySem PySem.Spec PyProof.Rows L2
def top (i : Nat) : Stmt := PySem.Challenge.pw_talepost_k00_alphabets.main.body.getD i (.Pass ⟨0, 0, 0, 0⟩)
abbrev sDiff : Stmt := top 9
abbrev sBox : Stmt := top 11
abbrev sTake : Stmt := top 12
abbrev sPick : Stmt := top 13
abbrev sChar : Stmt := top 14
/-- the built-in names stand for themselves -/
structure Zs (mg : Str → Option Value) : Prop where
  z_len : mg "len" = none
  z_set : mg "set" = none
  z_all : mg "all" = none
  z_abs : mg "abs" = none
  z_int : mg "int" = none
  z_range : mg "range" = none
  z_sorted : mg "sorted" = none
  z_isinstance : mg "isinstance" = none
  z_str : mg "str" = none
  z_bool : mg "bool" = none
  z_VE : mg "ValueError" = none
structure TxA (K : PySem.W.Frag) (mg : Str → Option Value) (aDiff aBox aTake aPick aChar : Addr) : Prop extends Zs mg where
  gDiff : mg "differ_within" = some (.ref aDiff)
  gBox : mg "_law_box" = some (.ref aBox)
  gTake : mg "_law_take" = some (.ref aTake)
  gPick : mg "_law_pick" = some (.ref aPick)
  gChar : mg "_law_char" = some (.ref aChar)
theorem sz4 {n : Nat} (h : n ≤ 4000) : n ≤ sizeLine := by rw [sizeLine_eq]; omega
section
variable {P : Program} {w : World} {K : PySem.W.Frag} {mg : Str → Option Value} {base : Heap} {aDiff aBox aTake aPick aChar : Addr}
/-! differ_within -/
def Differ (t a : List Nat) : Prop := t.Nodup ∧ ∀ c ∈ t, c ∈ a
instance (t a : List Nat) : Decidable (Differ t a) := inferInstanceAs (Decidable (_ ∧ _))
def spDiff : Sp := fun vs H Q _ => ∃ t a : List Nat, vs = [.str (S t), .str (S a)] ∧ t.length ≤ 4000 ∧ ∀ H', Same H H' → Q (.bl (decide (Differ t a))) H'
theorem scDiff : FnScope ["text", "allowed", "letter"] ["text", "allowed"] (defScope sDiff) := ⟨rfl, rfl, rfl, by decide +kernel, rfl, by decide +kernel, by decide +kernel⟩
theorem ok_diff {f : Addr} {fd : FuncData} (F : Fun K "differ_within" "differ_within" sDiff f fd) (T : TxA K mg aDiff aBox aTake aPick aChar) : FnOk P w K mg base CX0 1 f fd ["text", "allowed"] spDiff := by
  refine F.ok scDiff (fun vs H Q E h => ?_) (fun cdv A outer s H vs Q E hr h => ?_)
  · obtain ⟨t, a, rfl, _⟩ := h
    rfl
  · obtain ⟨t, a, rfl, hl, k⟩ := h
    refine ⟨_, (pss_one (ps_ret (pe_and (pe_cmpR op_eq (pe_lenSetT (by rfl) T.z_len (by rfl) T.z_set (pv 0)) (pe_callB call_len_str (by rfl) T.z_len (by decide +kernel) (pa_cons (pv 0) pa_nil)) (nomark _)) (pe_one (pe_callB (cr_all rfl) (by rfl) T.z_all (by decide +kernel) (pa_cons (pe_lc (own := [("letter", 2)]) (g := gName 2) (by rfl) scDiff.nd (pi_str (pv 0)) (blkOk_by (own := [("letter", 2)]) (N := ["text", "allowed", "letter"]) (sc := defScope sDiff) (by decide +kernel)) (fun _ _ _ _ _ => pg_name (i := 2) scDiff.nd rfl (Or.inl rfl)) (fun _ _ _ _ _ => pts_nil) (fun _ _ _ _ _ => (pe_cmpR op_in_sign (pv 2) (pv 1) rfl))) pa_nil)))))), ?_⟩
    have e1 : ((metAt (S t).cps.toList (S t).cps.toList.length).length = t.length) ↔ t.Nodup := by
      rw [S_cps]
      exact metAt_end t
    refine ⟨_, rfl, _, rfl, by rw [S_len]; exact hl, _, rfl, _, rfl, sz4 (by rw [S_len]; exact hl), rfl, _, rfl, ?_⟩
    have e2 : ((V.int ((metAt (S t).cps.toList (S t).cps.toList.length).length : Nat)) = V.int ((S t).length : Nat)) ↔ t.Nodup := by
      rw [S_len, ← e1]
      constructor
      · intro h
        have h2 := V.int.inj h
        omega
      · intro h
        rw [h]
    refine ite2 (fun hn => ?_) (fun hn => ?_)
    · have hnd : t.Nodup := e2.mp (of_decide_eq_true hn)
      refine ⟨_, rfl, _, rfl, fun D hD => lc_text (fun _ => true) (fun c => V.bl (decide (c ∈ a))) hl (fun _ => rfl) (fun _ _ _ _ _ q => q) (fun c hc _ H2 Q2 _ q => ⟨_, rfl, _, rfl, c, S a, rfl, rfl, by rw [S_cps]; exact q⟩) ?_⟩
      refine ⟨D, t.map (fun c => decide (c ∈ a)), rfl, ?_, ?_⟩
      · rw [List.map_map]
        refine SqL.of ?_
        rw [upd_same, List.filter_eq_self.mpr (fun _ _ => rfl)]
        rfl
      · have e3 : (t.map fun c => decide (c ∈ a)).all id = decide (Differ t a) := by
          rw [Bool.eq_iff_iff]
          simp [Differ, hnd]
        rw [e3]
        exact k _ fun b o e => by rw [upd_ne (ne_of_none e hD)]; exact e
    · have hnd : ¬ t.Nodup := fun z => hn (decide_eq_true (e2.mpr z))
      have e3 : decide (Differ t a) = false := decide_eq_false fun z => hnd z.1
      have q := k H (Same.refl H)
      rw [e3] at q
      exact q
/-! the draws -/
def BoxOk (x m : Int) : Prop := 0 ≤ x ∧ (m = 0 ∨ (1 ≤ m ∧ x < 10 ^ 18))
def Box (H : Hp) (b : Addr) : Prop := ∃ x m, H b = some (.lst [.int x, .int m]) ∧ BoxOk x m
def Kp (b : Addr) (H H' : Hp) : Prop := ∀ c o, c ≠ b → H c = some o → H' c = some o
theorem Kp.refl (b : Addr) (H : Hp) : Kp b H H := fun _ _ _ h => h
theorem Kp.trans {b : Addr} {H H1 H2 : Hp} (a : Kp b H H1) (c : Kp b H1 H2) : Kp b H H2 := fun d o h e => c d o h (a d o h e)
theorem Kp.upd (b : Addr) (H : Hp) (o : HO) : Kp b H (upd H b o) := fun c u h e => by rw [upd_ne h]; exact e
def spTake : Sp := fun vs H Q _ => ∃ (b : Addr) (n : Int), vs = [.ref b, .int n] ∧ Box H b ∧ 0 < n ∧ n < 2 ^ 30 ∧
  ∀ (r : Nat) (H' : Hp), (r : Int) < n → Box H' b → Kp b H H' → Q (.int r) H'
theorem scTake : FnScope ["_law_box_here", "_law_size", "_law_digit", "_law_mixed"] ["_law_box_here", "_law_size"] (defScope sTake) := ⟨rfl, rfl, rfl, by decide +kernel, rfl, by decide +kernel, by decide +kernel⟩
theorem ok_take {f : Addr} {fd : FuncData} (F : Fun K "_law_take" "_law_take" sTake f fd) (T : TxA K mg aDiff aBox aTake aPick aChar) : FnOk P w K mg base CX0 1 f fd ["_law_box_here", "_law_size"] spTake := by
  refine F.ok scTake (fun vs H Q E h => ?_) (fun cdv A outer s H vs Q E hr h => ?_)
  · obtain ⟨b, n, rfl, _⟩ := h
    rfl
  · obtain ⟨b, n, rfl, ⟨x, m, hb, hx, hm⟩, h0, h30, k⟩ := h
    refine ⟨_, (pss_cons (ps_if (pt_cmpR op_eq (pe_ix ix_list (pv 0) pe_int (fun _ _ => rfl)) pe_int (nomark _)) (pss_cons (ps_set (i := 2) scTake.nd rfl (Or.inl rfl) (pe_op op_mod (pe_callTy call_int1 (by rfl) T.z_int (by decide +kernel) (pa_cons (pe_ix ix_list (pv 0) pe_int (fun _ _ => rfl)) pa_nil)) (pv 1)))
      (pss_cons (ps_asg (pe_op op_fdivN (pe_callTy call_int1 (by rfl) T.z_int (by decide +kernel) (pa_cons (pe_ix ix_list (pv 0) pe_int (fun _ _ => rfl)) pa_nil)) (pv 1)) (pg_sub (pv 0) pe_int set_list))
      (pss_one (ps_ret (pv 2))))) pss_nil)
      (pss_cons (ps_asg (pe_op op_add (pe_ix ix_list (pv 0) pe_int (fun _ _ => rfl)) pe_int) (pg_sub (pv 0) pe_int set_list))
      (pss_cons (ps_set (i := 3) scTake.nd rfl (Or.inl rfl) (pe_op op_mod (pe_callTy call_int1 (by rfl) T.z_int (by decide +kernel) (pa_cons (pe_op op_add (pe_op op_add (pe_op op_mul (pe_ix ix_list (pv 0) pe_int (fun _ _ => rfl)) pe_int) (pe_op op_mul (pe_ix ix_list (pv 0) pe_int (fun _ _ => rfl)) pe_int)) pe_int) pa_nil)) pe_int))
      (pss_cons (ps_set (i := 3) scTake.nd rfl (Or.inl rfl) (pe_op op_mod (pe_callTy call_int1 (by rfl) T.z_int (by decide +kernel) (pa_cons (pe_op op_mul (pv 3) (pe_op op_add (pe_op op_mod (pe_callTy call_int1 (by rfl) T.z_int (by decide +kernel) (pa_cons (pv 3) pa_nil)) pe_int) pe_int)) pa_nil)) pe_int))
      (pss_one (ps_ret (pe_op op_mod (pe_callTy call_int1 (by rfl) T.z_int (by decide +kernel) (pa_cons (pe_op op_add (pe_op op_fdiv (pv 3) pe_int) (pe_op op_fdiv (pv 3) pe_int)) pa_nil)) (pv 1)))))))), ?_⟩
    refine ⟨_, rfl, b, _, 1, _, rfl, rfl, SqL.of hb, rfl, rfl, _, rfl, ?_⟩
    refine ite2 (fun hz => ?_) (fun hz => ?_)
    · refine ⟨_, rfl, b, _, 0, _, rfl, rfl, SqL.of hb, rfl, .inl ⟨_, rfl, _, rfl, _, _, rfl, rfl, h0, ?_⟩⟩
      refine ⟨_, rfl, b, _, 0, _, rfl, rfl, SqL.of hb, rfl, .inl ⟨_, rfl, _, rfl, _, _, rfl, rfl, ⟨by omega, by omega⟩, ?_⟩⟩
      refine ⟨_, rfl, b, _, 0, 0, rfl, rfl, hb, rfl, _, rfl, ?_⟩
      have hm0 : m = 0 := V.int.inj (of_decide_eq_true hz)
      have g0 := Int.emod_nonneg x (Int.ne_of_gt h0)
      have g1 := Int.emod_lt_of_pos x h0
      obtain ⟨r, er⟩ : ∃ r : Nat, x % n = (r : Int) := ⟨(x % n).toNat, by omega⟩
      have gq : 0 ≤ x.fdiv n := by
        rw [Int.fdiv_eq_ediv_of_nonneg _ (Int.le_of_lt h0)]
        exact Int.ediv_nonneg hx (Int.le_of_lt h0)
      show Q (.int (x % n)) _
      rw [er]
      exact k r _ (by omega) ⟨x.fdiv n, m, upd_same, gq, .inl hm0⟩ (Kp.upd _ _ _)
    · refine ⟨_, rfl, b, _, 1, _, rfl, rfl, SqL.of hb, rfl, _, _, rfl, rfl, _, rfl, b, _, 1, 1, rfl, rfl, hb, rfl, ?_⟩
      have hm1 : 1 ≤ m ∧ x < 10 ^ 18 := hm.resolve_left fun z => hz (decide_eq_true (by rw [z]))
      obtain ⟨hm2, hm3⟩ := hm1
      refine ⟨_, rfl, b, _, 0, _, rfl, rfl, SqL.of upd_same, rfl, _, _, rfl, rfl, .inl ⟨by omega, by omega⟩, ?_⟩
      refine ⟨_, rfl, b, _, 1, _, rfl, rfl, SqL.of upd_same, rfl, _, _, rfl, rfl, .inr ⟨by decide, by decide⟩, _, _, rfl, rfl, _, _, rfl, rfl, .inl ⟨_, rfl, _, _, rfl, rfl, by show (0 : Int) < _; decide, ?_⟩⟩
      refine ⟨_, rfl, _, rfl, .inl ⟨_, rfl, _, _, rfl, rfl, by show (0 : Int) < _; decide, _, _, rfl, rfl, _, _, rfl, rfl, .inl ⟨by omega, by omega⟩, .inl ⟨_, rfl, _, _, rfl, rfl, by show (0 : Int) < _; decide, ?_⟩⟩⟩
      refine ⟨_, rfl, _, _, rfl, rfl, ⟨by decide, by decide⟩, _, rfl, _, _, rfl, rfl, ⟨by decide, by decide⟩, _, _, rfl, rfl, .inl ⟨_, rfl, _, rfl, _, _, rfl, rfl, h0, ?_⟩⟩
      have key : ∀ z : Int, Q (.int (z % n)) (upd H b (.lst [.int x, .int (m + 1)])) := fun z => by
        have g0 := Int.emod_nonneg z (Int.ne_of_gt h0)
        have g1 := Int.emod_lt_of_pos z h0
        obtain ⟨r, er⟩ : ∃ r : Nat, z % n = (r : Int) := ⟨(z % n).toNat, by omega⟩
        rw [er]
        exact k r _ (by omega) ⟨x, m + 1, upd_same, hx, .inr ⟨by omega, hm3⟩⟩ (Kp.upd _ _ _)
      exact key _
def spBox (K : PySem.W.Frag) : Sp := fun vs H Q _ => ∃ (a : Addr) (ns : List Int) (k : Nat), vs = [.ref a, .int (k : Int)] ∧ SqL K H a (ns.map V.int) ∧ ns.length ≤ 63 ∧
  ∀ (b : Addr) (H' : Hp), H b = none → Box H' b → Same H H' → Q (.ref b) H'
theorem scBox : FnScope ["_law_script", "_law_k", "_law_cell"] ["_law_script", "_law_k"] (defScope sBox) := ⟨rfl, rfl, rfl, by decide +kernel, rfl, by decide +kernel, by decide +kernel⟩
theorem ok_box {f : Addr} {fd : FuncData} (F : Fun K "_law_box" "_law_box" sBox f fd) (T : TxA K mg aDiff aBox aTake aPick aChar) : FnOk P w K mg base CX0 1 f fd ["_law_script", "_law_k"] (spBox K) := by
  refine F.ok scBox (fun vs H Q E h => ?_) (fun cdv A outer s H vs Q E hr h => ?_)
  · obtain ⟨a, ns, k, rfl, _⟩ := h
    rfl
  · obtain ⟨a, ns, kk, rfl, hS, hl, k⟩ := h
    refine ⟨_, (pss_cons (ps_if (pt_not (pt_truth (pv 0) (by intro _; rfl))) (pss_one (ps_ret (pe_lst (pa_cons pe_int (pa_cons pe_int pa_nil))))) pss_nil)
      (pss_cons (ps_set (i := 2) scBox.nd rfl (Or.inl rfl) (pe_op op_add (pe_callB call_abs (by rfl) T.z_abs (by decide +kernel) (pa_cons (pe_callTy call_int1 (by rfl) T.z_int (by decide +kernel) (pa_cons (pe_ix ix_list (pv 0) (pe_op op_mod (pe_callTy call_int1 (by rfl) T.z_int (by decide +kernel) (pa_cons (pv 1) pa_nil)) (pe_callB call_len_seq (by rfl) T.z_len (by decide +kernel) (pa_cons (pv 0) pa_nil))) (fun _ _ => rfl)) pa_nil)) pa_nil)) (pe_op op_mul pe_int (pe_op op_fdivN (pe_callTy call_int1 (by rfl) T.z_int (by decide +kernel) (pa_cons (pv 1) pa_nil)) (pe_callB call_len_seq (by rfl) T.z_len (by decide +kernel) (pa_cons (pv 0) pa_nil))))))
      (pss_cons (ps_if (pt_cmpR op_lt (pv 2) (pe_op op_pow pe_int pe_int) (nomark _)) (pss_one (ps_ret (pe_lst (pa_cons (pv 2) (pa_cons pe_int pa_nil))))) pss_nil)
      (pss_one (ps_ret (pe_lst (pa_cons (pv 2) (pa_cons pe_int pa_nil)))))))), ?_⟩
    have fin : ∀ (x m : Int), BoxOk x m → ∀ p, H p = none → Q (.ref p) (upd H p (.lst [.int x, .int m])) := fun x m hx p hp =>
      k p _ hp ⟨x, m, upd_same, hx⟩ fun b o e => by rw [upd_ne (ne_of_none e hp)]; exact e
    refine ⟨_, rfl, _, .inl ⟨_, hS, rfl⟩, ?_⟩
    cases ns with
    | nil => exact iteT ⟨by show 2 ≤ sizeLine; decide, fun p hp => fin 0 0 ⟨by decide, .inl rfl⟩ p hp⟩
    | cons n0 rest =>
      refine iteF ?_
      have hL : 0 < (((n0 :: rest).map V.int).length : Int) := by simp
      have hL2 : (((n0 :: rest).map V.int).length : Int) < 1000 := by rw [List.length_map]; omega
      generalize hn : ((n0 :: rest).map V.int).length = n at hL hL2
      have g0 := Int.emod_nonneg (kk : Int) (Int.ne_of_gt hL)
      have g1 := Int.emod_lt_of_pos (kk : Int) hL
      obtain ⟨j, ej⟩ : ∃ j : Nat, (kk : Int) % n = (j : Int) := ⟨((kk : Int) % n).toNat, by omega⟩
      obtain ⟨z, hz⟩ : ∃ z, (n0 :: rest)[j]? = some z := by
        rw [List.length_map] at hn
        exact ⟨_, List.getElem?_eq_getElem (by omega)⟩
      have hv : ((n0 :: rest).map V.int)[j]? = some (.int z) := by rw [List.getElem?_map, hz]; rfl
      refine ⟨_, rfl, _, rfl, .inl ⟨_, rfl, _, rfl, a, _, rfl, .inl hS, _, _, rfl, rfl, (by rw [hn]; exact hL), ?_⟩⟩
      refine ⟨a, _, _, _, rfl, rfl, hS, (by rw [hn, ej]; exact atI_nat hv), .inl ⟨_, rfl, _, rfl, ?_⟩⟩
      refine ⟨_, rfl, .inl ⟨_, rfl, _, rfl, a, _, rfl, .inl hS, _, _, rfl, rfl, (by rw [hn]; exact ⟨by omega, by omega⟩), ?_⟩⟩
      have hq : 0 ≤ (kk : Int).fdiv (n : Int) := by
        rw [Int.fdiv_eq_ediv_of_nonneg _ (Int.le_of_lt hL)]
        exact Int.ediv_nonneg (by omega) (Int.le_of_lt hL)
      refine ⟨_, _, rfl, rfl, .inl ⟨by decide, by decide⟩, _, _, rfl, rfl, ?_⟩
      have hx0 : 0 ≤ (if z < 0 then -z else z) + 1009 * (kk : Int).fdiv ((((n0 :: rest).map V.int).length : Nat) : Int) := by
        rw [hn]
        split <;> omega
      refine ⟨_, rfl, _, _, rfl, rfl, ⟨by decide, by decide, by decide⟩, _, _, rfl, rfl, _, rfl, ?_⟩
      refine ite2 (fun hc => ?_) (fun hc => ?_)
      · exact ⟨_, rfl, by show 2 ≤ sizeLine; decide, fun p hp => fin _ 1 ⟨hx0, .inr ⟨by decide, of_decide_eq_true hc⟩⟩ p hp⟩
      · exact ⟨_, rfl, by show 2 ≤ sizeLine; decide, fun p hp => fin _ 0 ⟨hx0, .inl rfl⟩ p hp⟩
def spPick : Sp := fun vs H Q _ => ∃ (b : Addr) (t : List Nat) (m : Nat), vs = [.ref b, .str (S t), .int (m : Int)] ∧ Box H b ∧ m ≤ t.length ∧ t.length ≤ 1000 ∧
  ∀ (p : List Nat) (H' : Hp), p.length = m → (∃ q, (p ++ q).Perm t) → Box H' b → Kp b H H' → Q (.str (S p)) H'
theorem scPick : FnScope ["_law_box_here", "_law_string", "_law_many", "_law_picked", "_law_turn", "_law_at"] ["_law_box_here", "_law_string", "_law_many"] (defScope sPick) := ⟨rfl, rfl, rfl, by decide +kernel, rfl, by decide +kernel, by decide +kernel⟩
theorem cut_perm {q : List Nat} {r c : Nat} (h : q[r]? = some c) : (c :: (q.take r ++ q.drop (r + 1))).Perm q := by
  have hr : r < q.length := (List.getElem?_eq_some_iff.mp h).1
  have hc : q[r] = c := (List.getElem?_eq_some_iff.mp h).2
  have e : q.take r ++ c :: q.drop (r + 1) = q := by
    rw [← hc, ← List.drop_eq_getElem_cons hr, List.take_append_drop]
  exact List.perm_middle.symm.trans (List.Perm.of_eq e)
theorem ok_pick {f : Addr} {fd fdT : FuncData} (F : Fun K "_law_pick" "_law_pick" sPick f fd) (T : TxA K mg aDiff aBox aTake aPick aChar) (FTake : Fun K "_law_take" "_law_take" sTake aTake fdT) (bTake : Binds K fdT ["_law_box_here", "_law_size"] []) :
    FnOk P w K mg base CX0 2 f fd ["_law_box_here", "_law_string", "_law_many"] spPick := by
  have GTake : FnOk P w K mg base CX0 1 aTake fdT ["_law_box_here", "_law_size"] spTake := ok_take FTake T
  refine F.ok scPick (fun vs H Q E h => ?_) (fun cdv A outer s H vs Q E hr h => ?_)
  · obtain ⟨b, t, m, rfl, _⟩ := h
    rfl
  · obtain ⟨b, t, m, rfl, hB, hm, ht, k⟩ := h
    refine ⟨_, (pss_cons (ps_set (i := 3) scPick.nd rfl (Or.inl rfl) pe_str)
      (pss_cons (ps_for PassesOwn.never rfl (pi_range1 (by rfl) T.z_range (pa_cons (pv 2) pa_nil)) (pg_name (i := 4) scPick.nd rfl (Or.inl rfl)) (pss_cons (ps_set (i := 5) scPick.nd rfl (Or.inl rfl) (pe_call GTake (hr.mono (by decide)) (by rfl) T.gTake FTake.kp bTake .nil pass0 (pa_cons (pv 0) (pa_cons (pe_callB call_len_str (by rfl) T.z_len (by decide +kernel) (pa_cons (pv 1) pa_nil)) pa_nil))))
      (pss_cons (ps_set (i := 3) scPick.nd rfl (Or.inl rfl) (pe_op op_add_str (pv 3) (pe_ix ix_str (pv 1) (pv 5) (fun _ _ => rfl))))
      (pss_one (ps_set (i := 1) scPick.nd rfl (Or.inl rfl) (pe_op op_add_str (pe_slice sl_str (pv 1) po_none (po_some (pv 5))) (pe_slice sl_str (pv 1) (po_some (pe_op op_add (pv 5) pe_int)) po_none)))))))
      (pss_one (ps_ret (pv 3))))), ?_⟩
    refine ⟨_, rfl, _, rfl, by omega, by omega, for_range (lo := 0) (n := m) (fun i σ H' => ∃ (p q : List Nat) (v4 v5 : Option V), σ = [some (.ref b), some (.str (S q)), some (.int (m : Int)), some (.str (S p)), v4, v5] ∧ p.length = i ∧ (p ++ q).Perm t ∧ Box H' b ∧ Kp b H H')
      ⟨[], t, none, none, rfl, rfl, List.Perm.refl _, hB, Kp.refl _ _⟩ ?_ ?_⟩
    · rintro i σ H1 hi ⟨p, q, v4, v5, rfl, hp, hpq, hB1, hk1⟩
      have hlen : p.length + q.length = t.length := by rw [← List.length_append]; exact hpq.length_eq
      refine ⟨_, rfl, _, rfl, _, rfl, sz4 (by rw [S_len]; omega), b, _, rfl, hB1, by rw [S_len]; omega, by rw [S_len]; omega, fun r H2 hrn hB2 hk2 => ?_⟩
      rw [S_len] at hrn
      have hr2 : r < q.length := by omega
      have hc : q[r]? = some q[r] := List.getElem?_eq_getElem hr2
      refine ⟨_, rfl, _, rfl, _, rfl, S q, _, _, rfl, rfl, sz4 (by rw [S_len]; omega), (by rw [S_cps]; exact atI_nat hc), _, _, rfl, rfl, sz4 (by rw [S_len]; show _ + 1 ≤ _; omega), ?_⟩
      have e1 : cutS (S q) none (some (r : Int)) = S (q.take r) := S_to q r
      have e2 : cutS (S q) (some ((r : Int) + 1)) none = S (q.drop (r + 1)) := S_from q (r + 1)
      have e3 : q.take r ++ q.drop (r + 1) = q.take r ++ q.drop (r + 1) := rfl
      refine ⟨_, rfl, _, rfl, _, rfl, _, rfl, sz4 (by rw [S_len]; omega), _, rfl, _, rfl, _, _, rfl, rfl, _, rfl, _, rfl, sz4 (by rw [S_len]; omega), _, _, rfl, rfl, ?_, ?_⟩
      · show (cutS (S q) none (some (r : Int))).length + (cutS (S q) (some ((r : Int) + 1)) none).length ≤ _
        rw [e1, e2, S_len, S_len, List.length_take, List.length_drop]
        exact sz4 (by omega)
      · refine ⟨p ++ [q[r]], q.take r ++ q.drop (r + 1), _, _, (by rw [← S_app, ← S_app, ← e1, ← e2]; rfl), by rw [List.length_append, hp]; rfl, ?_, hB2, hk1.trans hk2⟩
        rw [List.append_assoc]
        exact ((cut_perm hc).append_left p).trans hpq
    · rintro σ H1 ⟨p, q, v4, v5, rfl, hp, hpq, hB1, hk1⟩
      exact ⟨_, rfl, k p H1 hp ⟨q, hpq⟩ hB1 hk1⟩
def spChar : Sp := fun vs H Q _ => ∃ b : Addr, vs = [.ref b] ∧ Box H b ∧ ∀ (c : Nat) (H' : Hp), Box H' b → Kp b H H' → Q (.str (S [c])) H'
theorem scChar : FnScope ["_law_box_here", "_law_chars"] ["_law_box_here"] (defScope sChar) := ⟨rfl, rfl, rfl, by decide +kernel, rfl, by decide +kernel, by decide +kernel⟩
theorem ok_char {f : Addr} {fd fdT : FuncData} (F : Fun K "_law_char" "_law_char" sChar f fd) (T : TxA K mg aDiff aBox aTake aPick aChar) (FTake : Fun K "_law_take" "_law_take" sTake aTake fdT) (bTake : Binds K fdT ["_law_box_here", "_law_size"] []) :
    FnOk P w K mg base CX0 2 f fd ["_law_box_here"] spChar := by
  have GTake : FnOk P w K mg base CX0 1 aTake fdT ["_law_box_here", "_law_size"] spTake := ok_take FTake T
  refine F.ok scChar (fun vs H Q E h => ?_) (fun cdv A outer s H vs Q E hr h => ?_)
  · obtain ⟨b, rfl, _⟩ := h
    rfl
  · obtain ⟨b, rfl, hB, k⟩ := h
    refine ⟨_, (pss_cons (ps_set (i := 1) scChar.nd rfl (Or.inl rfl) pe_str)
      (pss_cons (ps_set (i := 1) scChar.nd rfl (Or.inl rfl) (pe_op op_add_str (pv 1) pe_str))
      (pss_one (ps_ret (pe_ix ix_str (pv 1) (pe_call GTake (hr.mono (by decide)) (by rfl) T.gTake FTake.kp bTake .nil pass0 (pa_cons (pv 0) (pa_cons pe_int pa_nil))) (fun _ _ => rfl)))))), ?_⟩
    refine ⟨_, rfl, _, _, rfl, rfl, (by decide +kernel), _, rfl, _, rfl, b, _, rfl, hB, by decide, by decide, fun r H2 hr2 hB2 hk2 => ?_⟩
    exact ⟨_, _, _, rfl, rfl, (by decide +kernel), atI_nat (List.getElem?_eq_getElem (Nat.lt_of_lt_of_eq (show r < 96 by omega) (by decide +kernel))), k _ H2 hB2 hk2⟩
end
end Vk

set_option Elab.async false
set_option linter.all false
set_option maxRecDepth 100000
set_option maxHeartbeats 4000000
namespace Vk
open PySem PySem.Spec PyProof.Rows L2
abbrev sBent : Stmt := top 16
abbrev sDue : Stmt := top 17
theorem app_len (a b : Str) : (a ++ b).length = a.length + b.length := by
  rw [S_of a, S_of b, S_app, S_len, S_len, S_len, List.length_append]
theorem cut_len (z : Str) (lo hi : Option Int) : (cutS z lo hi).length ≤ z.length := by
  rw [S_of z, S_cut, S_len, S_len, List.length_take, List.length_drop]
  omega
theorem one_len (c : Nat) : (S [c]).length = 1 := S_len [c]
def bl : Nat → Nat
  | 0 => 100
  | 1 => 305
  | _ => 920
theorem bl_step {i n : Nat} (hi : i < 2) (h : n ≤ 3 * bl i + 5) : n ≤ bl (i + 1) := by
  match i, hi with
  | 0, _ => exact h
  | 1, _ => exact Nat.le_trans h (by decide)
theorem bl_le (i : Nat) : bl i ≤ 920 := by
  match i with
  | 0 => decide
  | 1 => decide
  | _ + 2 => exact Nat.le_refl _
section
variable {P : Program} {w : World} {K : PySem.W.Frag} {mg : Str → Option Value} {base : Heap} {aDiff aBox aTake aPick aChar : Addr}
def spBent : Sp := fun vs H Q _ => ∃ (b : Addr) (t : List Nat), vs = [.ref b, .str (S t)] ∧ Box H b ∧ t.length ≤ 100 ∧
  ∀ (q : List Nat) (H' : Hp), q.length ≤ 920 → Box H' b → Kp b H H' → Q (.str (S q)) H'
theorem scBent : FnScope ["_law_box_here", "_law_string", "_law_turn", "_law_way", "_law_at"] ["_law_box_here", "_law_string"] (defScope sBent) := ⟨rfl, rfl, rfl, by decide +kernel, rfl, by decide +kernel, by decide +kernel⟩
theorem ok_bent {f : Addr} {fd fdT fdC : FuncData} (F : Fun K "_law_bent" "_law_bent" sBent f fd) (T : TxA K mg aDiff aBox aTake aPick aChar) (FTake : Fun K "_law_take" "_law_take" sTake aTake fdT) (bTake : Binds K fdT ["_law_box_here", "_law_size"] [])
    (FChar : Fun K "_law_char" "_law_char" sChar aChar fdC) (bChar : Binds K fdC ["_law_box_here"] []) :
    FnOk P w K mg base CX0 3 f fd ["_law_box_here", "_law_string"] spBent := by
  have GTake : FnOk P w K mg base CX0 1 aTake fdT ["_law_box_here", "_law_size"] spTake := ok_take FTake T
  have GChar : FnOk P w K mg base CX0 2 aChar fdC ["_law_box_here"] spChar := ok_char FChar T FTake bTake
  refine F.ok scBent (fun vs H Q E h => ?_) (fun cdv A outer s H vs Q E hr h => ?_)
  · obtain ⟨b, t, rfl, _⟩ := h
    rfl
  · obtain ⟨b, t, rfl, hB, ht, k⟩ := h
    refine ⟨_, (pss_cons (ps_for PassesOwn.never rfl (pi_range1 (by rfl) T.z_range (pa_cons (pe_call GTake (hr.mono (by decide)) (by rfl) T.gTake FTake.kp bTake .nil pass0 (pa_cons (pv 0) (pa_cons pe_int pa_nil))) pa_nil)) (pg_name (i := 2) scBent.nd rfl (Or.inl rfl)) (pss_cons (ps_set (i := 3) scBent.nd rfl (Or.inl rfl) (pe_call GTake (hr.mono (by decide)) (by rfl) T.gTake FTake.kp bTake .nil pass0 (pa_cons (pv 0) (pa_cons pe_int pa_nil))))
      (pss_cons (ps_set (i := 4) scBent.nd rfl (Or.inl rfl) (pe_call GTake (hr.mono (by decide)) (by rfl) T.gTake FTake.kp bTake .nil pass0 (pa_cons (pv 0) (pa_cons (pe_op op_add (pe_callB call_len_str (by rfl) T.z_len (by decide +kernel) (pa_cons (pv 1) pa_nil)) pe_int) pa_nil))))
      (pss_cons (ps_if (PW.pt (pw_or (pt_cmpR op_eq (pv 3) pe_int (nomark _)) (pw_or1 (pt_cmpR op_eq (pv 3) pe_int (nomark _))))) (pss_one (ps_set (i := 1) scBent.nd rfl (Or.inl rfl) (pe_op op_add_str (pe_op op_add_str (pe_slice sl_str (pv 1) po_none (po_some (pv 4))) (pe_call GChar (hr.mono (by decide)) (by rfl) T.gChar FChar.kp bChar .nil pass0 (pa_cons (pv 0) pa_nil))) (pe_slice sl_str (pv 1) (po_some (pv 4)) po_none)))) pss_nil)
      (pss_cons (ps_if (pt_cmpR op_eq (pv 3) pe_int (nomark _)) (pss_one (ps_set (i := 1) scBent.nd rfl (Or.inl rfl) (pe_op op_add_str (pe_op op_add_str (pe_slice sl_str (pv 1) po_none (po_some (pv 4))) (pe_call GChar (hr.mono (by decide)) (by rfl) T.gChar FChar.kp bChar .nil pass0 (pa_cons (pv 0) pa_nil))) (pe_slice sl_str (pv 1) (po_some (pe_op op_add (pv 4) pe_int)) po_none)))) pss_nil)
      (pss_cons (ps_if (pt_cmpR op_eq (pv 3) pe_int (nomark _)) (pss_one (ps_set (i := 1) scBent.nd rfl (Or.inl rfl) (pe_op op_add_str (pe_op op_add_str (pe_slice sl_str (pv 1) po_none (po_some (pv 4))) (pe_slice sl_str (pe_slice sl_str (pv 1) (po_some (pe_call GTake (hr.mono (by decide)) (by rfl) T.gTake FTake.kp bTake .nil pass0 (pa_cons (pv 0) (pa_cons (pe_op op_add (pe_callB call_len_str (by rfl) T.z_len (by decide +kernel) (pa_cons (pv 1) pa_nil)) pe_int) pa_nil)))) po_none) po_none (po_some pe_int))) (pe_slice sl_str (pv 1) (po_some (pv 4)) po_none)))) pss_nil)
      (pss_cons (ps_if (pt_cmpR op_eq (pv 3) pe_int (nomark _)) (pss_one (ps_set (i := 1) scBent.nd rfl (Or.inl rfl) pe_str)) pss_nil)
      (pss_one (ps_if (pt_cmpR op_eq (pv 3) pe_int (nomark _)) (pss_one (ps_set (i := 1) scBent.nd rfl (Or.inl rfl) (pe_op op_add_str (pv 1) (pe_slice sl_str (pe_slice sl_str pe_str (po_some (pe_call GTake (hr.mono (by decide)) (by rfl) T.gTake FTake.kp bTake .nil pass0 (pa_cons (pv 0) (pa_cons pe_int pa_nil)))) po_none) po_none (po_some (pe_op op_add pe_int (pe_call GTake (hr.mono (by decide)) (by rfl) T.gTake FTake.kp bTake .nil pass0 (pa_cons (pv 0) (pa_cons pe_int pa_nil))))))))) pss_nil)))))))))
      (pss_one (ps_ret (pv 1)))), ?_⟩
    refine ⟨_, rfl, b, _, rfl, hB, by decide, by decide, fun m H0 hm hB0 hk0 => ⟨_, rfl, by omega, by omega, for_range (lo := 0) (n := m) (fun i σ H' => ∃ (q : List Nat) (v2 v3 v4 : Option V), σ = [some (.ref b), some (.str (S q)), v2, v3, v4] ∧ q.length ≤ bl i ∧ Box H' b ∧ Kp b H H')
      ⟨t, none, none, none, rfl, ht, hB0, hk0⟩ ?_ ?_⟩⟩
    · rintro i σ H1 hi ⟨q, v2, v3, v4, rfl, hq, hB1, hk1⟩
      have hi2 : i < 2 := by omega
      have hbl := bl_le i
      refine ⟨_, rfl, b, _, rfl, hB1, by decide, by decide, fun way H2 hw hB2 hk2 => ?_⟩
      refine ⟨_, rfl, _, rfl, _, rfl, sz4 (by rw [S_len]; omega), _, _, rfl, rfl, b, _, rfl, hB2, by rw [S_len]; omega, by rw [S_len]; omega, fun r H3 hr3 hB3 hk3 => ?_⟩
      have hk13 := hk1.trans (hk2.trans hk3)
      have fin : ∀ (z : Str) (H4 : Hp) (v2 v3 v4 : Option V), z.length ≤ 3 * bl i + 5 → Box H4 b → Kp b H3 H4 → ∃ (q : List Nat) (u2 u3 u4 : Option V), [some (V.ref b), some (V.str z), v2, v3, v4] = [some (.ref b), some (.str (S q)), u2, u3, u4] ∧ q.length ≤ bl (i + 1) ∧ Box H4 b ∧ Kp b H H4 :=
        fun z H4 v2 v3 v4 hz hB4 hk4 => ⟨z.cps.toList, v2, v3, v4, (by rw [← S_of z]), bl_step hi2 (by rw [← S_len, ← S_of z]; exact hz), hB4, hk13.trans hk4⟩
      have hc : way = 0 ∨ way = 1 ∨ way = 2 ∨ way = 3 ∨ way = 4 ∨ way = 5 := by omega
      rcases hc with rfl | rfl | rfl | rfl | rfl | rfl
      · refine ⟨_, rfl, rfl, _, rfl, iteT (iteT ?_)⟩
        refine ⟨_, rfl, _, rfl, _, rfl, S q, rfl, sz4 (by rw [S_len]; omega), _, rfl, b, rfl, hB3, fun c H4 hB4 hk4 => ⟨_, _, rfl, rfl, ?_, _, rfl, _, rfl, _, rfl, _, rfl, sz4 (by rw [S_len]; omega), _, _, rfl, rfl, ?_, ?_⟩⟩
        · have h1 := cut_len (S q) none (some (r : Int))
          rw [S_len] at h1
          rw [one_len]
          exact sz4 (by omega)
        · have h1 := cut_len (S q) none (some (r : Int))
          have h2 := cut_len (S q) (some (r : Int)) none
          rw [S_len] at h1 h2
          rw [app_len, one_len]
          exact sz4 (by omega)
        · iterate 4 refine ⟨_, rfl, rfl, _, rfl, iteF ?_⟩
          refine fin _ _ _ _ _ ?_ hB4 hk4
          have h1 := cut_len (S q) none (some (r : Int))
          have h2 := cut_len (S q) (some (r : Int)) none
          rw [S_len] at h1 h2
          rw [app_len, app_len, one_len]
          omega
      · refine ⟨_, rfl, rfl, _, rfl, iteF ⟨_, rfl, rfl, _, rfl, iteT ?_⟩⟩
        refine ⟨_, rfl, _, rfl, _, rfl, S q, rfl, sz4 (by rw [S_len]; omega), _, rfl, b, rfl, hB3, fun c H4 hB4 hk4 => ⟨_, _, rfl, rfl, ?_, _, rfl, _, rfl, _, rfl, _, rfl, sz4 (by rw [S_len]; omega), _, _, rfl, rfl, ?_, ?_⟩⟩
        · have h1 := cut_len (S q) none (some (r : Int))
          rw [S_len] at h1
          rw [one_len]
          exact sz4 (by omega)
        · have h1 := cut_len (S q) none (some (r : Int))
          have h2 := cut_len (S q) (some (r : Int)) none
          rw [S_len] at h1 h2
          rw [app_len, one_len]
          exact sz4 (by omega)
        · iterate 4 refine ⟨_, rfl, rfl, _, rfl, iteF ?_⟩
          refine fin _ _ _ _ _ ?_ hB4 hk4
          have h1 := cut_len (S q) none (some (r : Int))
          have h2 := cut_len (S q) (some (r : Int)) none
          rw [S_len] at h1 h2
          rw [app_len, app_len, one_len]
          omega
      · refine ⟨_, rfl, rfl, _, rfl, iteF ⟨_, rfl, rfl, _, rfl, iteF ⟨_, rfl, rfl, _, rfl, iteT ?_⟩⟩⟩
        refine ⟨_, rfl, _, rfl, _, rfl, S q, rfl, sz4 (by rw [S_len]; omega), _, rfl, b, rfl, hB3, fun c H4 hB4 hk4 => ⟨_, _, rfl, rfl, ?_, _, rfl, _, rfl, _, _, rfl, rfl, _, rfl, _, rfl, sz4 (by rw [S_len]; omega), _, _, rfl, rfl, ?_, ?_⟩⟩
        · have h1 := cut_len (S q) none (some (r : Int))
          rw [S_len] at h1
          rw [one_len]
          exact sz4 (by omega)
        · have h1 := cut_len (S q) none (some (r : Int))
          have h2 := cut_len (S q) (some ((r : Int) + 1)) none
          rw [S_len] at h1 h2
          rw [app_len, one_len]
          exact sz4 (by omega)
        · iterate 3 refine ⟨_, rfl, rfl, _, rfl, iteF ?_⟩
          refine fin _ _ _ _ _ ?_ hB4 hk4
          have h1 := cut_len (S q) none (some (r : Int))
          have h2 := cut_len (S q) (some ((r : Int) + 1)) none
          rw [S_len] at h1 h2
          rw [app_len, app_len, one_len]
          omega
      · refine ⟨_, rfl, rfl, _, rfl, iteF ⟨_, rfl, rfl, _, rfl, iteF ⟨_, rfl, rfl, _, rfl, iteF ⟨_, rfl, rfl, _, rfl, iteT ?_⟩⟩⟩⟩
        refine ⟨_, rfl, _, rfl, _, rfl, S q, rfl, sz4 (by rw [S_len]; omega), _, rfl, _, rfl, _, rfl, _, rfl, sz4 (by rw [S_len]; omega), _, _, rfl, rfl, b, _, rfl, hB3, by rw [S_len]; omega, by rw [S_len]; omega, fun c H4 hc4 hB4 hk4 => ⟨_, rfl, S q, rfl, sz4 (by rw [S_len]; omega), _, rfl, _, rfl, ?_, _, _, rfl, rfl, ?_, _, rfl, _, rfl, _, rfl, _, rfl, sz4 (by rw [S_len]; omega), _, _, rfl, rfl, ?_, ?_⟩⟩
        · have h1 := cut_len (S q) (some (c : Int)) none
          rw [S_len] at h1
          exact sz4 (by omega)
        · have h1 := cut_len (S q) none (some (r : Int))
          have h2 := cut_len (S q) (some (c : Int)) none
          have h3 := cut_len (cutS (S q) (some (c : Int)) none) none (some 1)
          rw [S_len] at h1 h2
          exact sz4 (by omega)
        · have h1 := cut_len (S q) none (some (r : Int))
          have h2 := cut_len (S q) (some (c : Int)) none
          have h3 := cut_len (cutS (S q) (some (c : Int)) none) none (some 1)
          have h4 := cut_len (S q) (some (r : Int)) none
          rw [S_len] at h1 h2 h4
          rw [app_len]
          exact sz4 (by omega)
        · iterate 2 refine ⟨_, rfl, rfl, _, rfl, iteF ?_⟩
          refine fin _ _ _ _ _ ?_ hB4 hk4
          have h1 := cut_len (S q) none (some (r : Int))
          have h2 := cut_len (S q) (some (c : Int)) none
          have h3 := cut_len (cutS (S q) (some (c : Int)) none) none (some 1)
          have h4 := cut_len (S q) (some (r : Int)) none
          rw [S_len] at h1 h2 h4
          rw [app_len, app_len]
          omega
      · refine ⟨_, rfl, rfl, _, rfl, iteF ⟨_, rfl, rfl, _, rfl, iteF ⟨_, rfl, rfl, _, rfl, iteF ⟨_, rfl, rfl, _, rfl, iteF ⟨_, rfl, rfl, _, rfl, iteT ?_⟩⟩⟩⟩⟩
        refine ⟨_, rfl, rfl, _, rfl, iteF ?_⟩
        exact fin _ _ _ _ _ (Nat.zero_le _) hB3 (Kp.refl _ _)
      · refine ⟨_, rfl, rfl, _, rfl, iteF ⟨_, rfl, rfl, _, rfl, iteF ⟨_, rfl, rfl, _, rfl, iteF ⟨_, rfl, rfl, _, rfl, iteF ⟨_, rfl, rfl, _, rfl, iteF ⟨_, rfl, rfl, _, rfl, iteT ?_⟩⟩⟩⟩⟩⟩
        refine ⟨_, rfl, _, rfl, b, _, rfl, hB3, by decide, by decide, fun c H4 hc4 hB4 hk4 => ⟨_, rfl, _, rfl, by decide +kernel, _, rfl, b, _, rfl, hB4, by decide, by decide, fun d H5 hd5 hB5 hk5 => ⟨_, _, rfl, rfl, _, rfl, _, rfl, ?_, _, _, rfl, rfl, ?_, ?_⟩⟩⟩
        · exact Nat.le_trans (cut_len _ _ _) (by decide +kernel)
        · have h1 := cut_len (PySem.Str.ofString "zqkae") (some (c : Int)) none
          have h2 := cut_len (cutS (PySem.Str.ofString "zqkae") (some (c : Int)) none) none (some (1 + (d : Int)))
          have h3 : (PySem.Str.ofString "zqkae").length = 5 := by decide +kernel
          rw [S_len]
          exact sz4 (by omega)
        · refine fin _ _ _ _ _ ?_ hB5 (hk4.trans hk5)
          have h1 := cut_len (PySem.Str.ofString "zqkae") (some (c : Int)) none
          have h2 := cut_len (cutS (PySem.Str.ofString "zqkae") (some (c : Int)) none) none (some (1 + (d : Int)))
          have h3 : (PySem.Str.ofString "zqkae").length = 5 := by decide +kernel
          rw [app_len, S_len]
          omega
    · rintro σ H1 ⟨q, v2, v3, v4, rfl, hq, hB1, hk1⟩
      exact ⟨_, rfl, k q H1 (Nat.le_trans hq (bl_le _)) hB1 hk1⟩
end
end Vk

set_option Elab.async false
set_option linter.all false
set_option maxRecDepth 100000
set_option maxHeartbeats 4000000
namespace Vk
open PySem PySem.Spec PyProof.Rows L2
def azL : List Nat := (PySem.Str.ofString "abcdefghijklmnopqrstuvwxyz").cps.toList
theorem az_S : PySem.Str.ofString "abcdefghijklmnopqrstuvwxyz" = S azL := S_of _
theorem az_len : azL.length = 26 := by decide +kernel
theorem az_nodup : azL.Nodup := by decide +kernel
theorem Differ.take {l a : List Nat} (h : Differ l a) (i : Nat) : Differ (l.take i) a := ⟨h.1.sublist (List.take_sublist i l), fun c hc => h.2 c (List.mem_of_mem_take hc)⟩
theorem differ_step {l a : List Nat} {i c : Nat} (hc : l[i]? = some c) : Differ (l.take (i + 1)) a ↔ (Differ (l.take i) a ∧ c ∈ a ∧ c ∉ l.take i) := by
  have hi : i < l.length := (List.getElem?_eq_some_iff.mp hc).1
  have e : l.take (i + 1) = l.take i ++ [c] := by
    rw [List.take_succ, hc]
    rfl
  unfold Differ
  rw [e, List.nodup_append]
  constructor
  · rintro ⟨⟨h1, _, h3⟩, h2⟩
    refine ⟨⟨h1, fun d hd => h2 d (List.mem_append_left _ hd)⟩, h2 c (List.mem_append_right _ (List.mem_singleton.mpr rfl)), fun z => h3 c z c (List.mem_singleton.mpr rfl) rfl⟩
  · rintro ⟨⟨h1, h2⟩, h3, h4⟩
    refine ⟨⟨h1, by simp, fun x hx y hy exy => ?_⟩, fun d hd => ?_⟩
    · rw [List.mem_singleton] at hy
      subst hy exy
      exact h4 hx
    · rcases List.mem_append.mp hd with h | h
      · exact h2 d h
      · rw [List.mem_singleton] at h
        subst h
        exact h3
def dueT (l v : List Nat) : Str := if l.length < 1 ∨ 4 < l.length ∨ ¬ Differ l azL then "letters" else if ¬ Differ v l then "vowels" else ""
section
variable {P : Program} {w : World} {K : PySem.W.Frag} {mg : Str → Option Value} {base : Heap} {aDiff aBox aTake aPick aChar : Addr}
def spDue : Sp := fun vs H Q _ => ∃ l v : List Nat, vs = [.str (S l), .str (S v)] ∧ l.length ≤ 1000 ∧ v.length ≤ 1000 ∧ Q (.str (dueT l v)) H
theorem scDue : FnScope ["_law_letters", "_law_vowels", "_law_k"] ["_law_letters", "_law_vowels"] (defScope sDue) := ⟨rfl, rfl, rfl, by decide +kernel, rfl, by decide +kernel, by decide +kernel⟩
theorem ok_due {f : Addr} {fd : FuncData} (F : Fun K "_law_due" "_law_due" sDue f fd) (T : TxA K mg aDiff aBox aTake aPick aChar) : FnOk P w K mg base CX0 1 f fd ["_law_letters", "_law_vowels"] spDue := by
  refine F.ok scDue (fun vs H Q E h => ?_) (fun cdv A outer s H vs Q E hr h => ?_)
  · obtain ⟨l, v, rfl, _⟩ := h
    rfl
  · obtain ⟨l, v, rfl, hl, hv, k⟩ := h
    refine ⟨_, (pss_cons (ps_if (PW.pt (pw_or (pt_cmpR op_lt (pe_callB call_len_str (by rfl) T.z_len (by decide +kernel) (pa_cons (pv 0) pa_nil)) pe_int (nomark _)) (pw_or1 (pt_cmpR op_gt (pe_callB call_len_str (by rfl) T.z_len (by decide +kernel) (pa_cons (pv 0) pa_nil)) pe_int (nomark _))))) (pss_one (ps_ret pe_str)) pss_nil)
      (pss_cons (ps_for PassesOwn.never rfl (pi_range1 (by rfl) T.z_range (pa_cons (pe_callB call_len_str (by rfl) T.z_len (by decide +kernel) (pa_cons (pv 0) pa_nil)) pa_nil)) (pg_name (i := 2) scDue.nd rfl (Or.inl rfl)) (pss_one (ps_if (PW.pt (pw_or (pt_cmpR op_notIn_sign (pe_ix ix_str (pv 0) (pv 2) (fun _ _ => rfl)) pe_str rfl) (pw_or1 (pt_cmpR op_in_sign (pe_ix ix_str (pv 0) (pv 2) (fun _ _ => rfl)) (pe_slice sl_str (pv 0) po_none (po_some (pv 2))) rfl)))) (pss_one (ps_ret pe_str)) pss_nil)))
      (pss_cons (ps_for PassesOwn.never rfl (pi_range1 (by rfl) T.z_range (pa_cons (pe_callB call_len_str (by rfl) T.z_len (by decide +kernel) (pa_cons (pv 1) pa_nil)) pa_nil)) (pg_name (i := 2) scDue.nd rfl (Or.inl rfl)) (pss_one (ps_if (PW.pt (pw_or (pt_cmpR op_notIn_sign (pe_ix ix_str (pv 1) (pv 2) (fun _ _ => rfl)) (pv 0) rfl) (pw_or1 (pt_cmpR op_in_sign (pe_ix ix_str (pv 1) (pv 2) (fun _ _ => rfl)) (pe_slice sl_str (pv 1) po_none (po_some (pv 2))) rfl)))) (pss_one (ps_ret pe_str)) pss_nil)))
      (pss_one (ps_ret pe_str))))), ?_⟩
    have hll : (S l).length ≤ sizeLine := sz4 (by rw [S_len]; omega)
    have hvl : (S v).length ≤ sizeLine := sz4 (by rw [S_len]; omega)
    have bad : (l.length < 1 ∨ 4 < l.length ∨ ¬ Differ l azL) → Q (.str "letters") H := fun h => by
      have q := k
      unfold dueT at q
      rw [if_pos h] at q
      exact q
    refine ⟨_, rfl, _, rfl, hll, _, _, rfl, rfl, _, rfl, ?_⟩
    refine ite2 (fun h1 => iteT (bad (.inl ?_))) (fun h1 => ⟨_, rfl, _, rfl, hll, _, _, rfl, rfl, _, rfl, ite2 (fun h2 => bad (.inr (.inl ?_))) (fun h2 => ?_)⟩)
    · have := of_decide_eq_true h1
      rw [S_len] at this
      omega
    · have := of_decide_eq_true h2
      rw [S_len] at this
      omega
    have g1 : ¬ l.length < 1 := fun z => h1 (decide_eq_true (by rw [S_len]; omega))
    have g2 : ¬ 4 < l.length := fun z => h2 (decide_eq_true (by rw [S_len]; omega))
    refine ⟨_, rfl, _, rfl, hll, _, rfl, by rw [S_len]; omega, by rw [S_len]; omega, for_range (lo := 0) (n := (S l).length) (fun i σ H' => H' = H ∧ Differ (l.take i) azL ∧ ∃ x, σ = [some (.str (S l)), some (.str (S v)), x]) ⟨rfl, ⟨by simp, by simp⟩, none, rfl⟩ ?_ ?_⟩
    · rintro i σ H1 hi ⟨rfl, hd, x, rfl⟩
      have hi2 : i < l.length := by rw [← S_len]; exact hi
      obtain ⟨c, hc⟩ : ∃ c, l[i]? = some c := ⟨_, List.getElem?_eq_getElem hi2⟩
      have ha : atI (S l).cps.toList (0 + (i : Int)) = some c := by rw [S_cps, Int.zero_add]; exact atI_nat hc
      refine ⟨_, rfl, _, rfl, S l, _, c, rfl, rfl, hll, ha, c, _, rfl, rfl, _, rfl, ?_⟩
      have ex := differ_step (a := azL) hc
      refine ite2 (fun h3 => iteT (bad (.inr (.inr fun z => ?_)))) (fun h3 => ⟨_, rfl, _, rfl, S l, _, c, rfl, rfl, hll, ha, _, rfl, _, rfl, _, rfl, S l, rfl, hll, c, _, rfl, rfl, _, rfl, ite2 (fun h4 => bad (.inr (.inr fun z => ?_))) (fun h4 => ⟨rfl, ex.mpr ⟨hd, ?_, ?_⟩, _, rfl⟩)⟩)
      · have := z.2 c (List.mem_of_getElem? hc)
        have h5 : decide (c ∈ azL) = true := decide_eq_true this
        exact absurd (show (!decide (c ∈ azL)) = true from h3) (by rw [h5]; decide)
      · have h5 := (differ_step (a := azL) hc).mp (z.take (i + 1))
        have h6 := of_decide_eq_true h4
        rw [Int.zero_add, S_to, S_cps] at h6
        exact h5.2.2 h6
      · refine Classical.byContradiction fun z => h3 ?_
        show (!decide (c ∈ azL)) = true
        rw [decide_eq_false z]
        rfl
      · intro z
        refine h4 (decide_eq_true ?_)
        rw [Int.zero_add, S_to, S_cps]
        exact z
    · rintro σ H1 ⟨rfl, hd, x, rfl⟩
      have hD : Differ l azL := by
        rw [S_len, List.take_length] at hd
        exact hd
      have hN : ¬ (l.length < 1 ∨ 4 < l.length ∨ ¬ Differ l azL) := fun z => z.elim g1 fun z => z.elim g2 fun z => z hD
      have badv : ¬ Differ v l → Q (.str "vowels") H1 := fun h => by
        have q := k
        unfold dueT at q
        rw [if_neg hN, if_pos h] at q
        exact q
      refine ⟨_, rfl, _, rfl, hvl, _, rfl, by rw [S_len]; omega, by rw [S_len]; omega, for_range (lo := 0) (n := (S v).length) (fun i σ H' => H' = H1 ∧ Differ (v.take i) l ∧ ∃ x, σ = [some (.str (S l)), some (.str (S v)), x]) ⟨rfl, ⟨by simp, by simp⟩, x, rfl⟩ ?_ ?_⟩
      · rintro i σ H2 hi ⟨rfl, hd, x, rfl⟩
        have hi2 : i < v.length := by rw [← S_len]; exact hi
        obtain ⟨c, hc⟩ : ∃ c, v[i]? = some c := ⟨_, List.getElem?_eq_getElem hi2⟩
        have ha : atI (S v).cps.toList (0 + (i : Int)) = some c := by rw [S_cps, Int.zero_add]; exact atI_nat hc
        refine ⟨_, rfl, _, rfl, S v, _, c, rfl, rfl, hvl, ha, _, rfl, c, _, rfl, rfl, _, rfl, ?_⟩
        have ex := differ_step (a := l) hc
        refine ite2 (fun h3 => iteT (badv fun z => ?_)) (fun h3 => ⟨_, rfl, _, rfl, S v, _, c, rfl, rfl, hvl, ha, _, rfl, _, rfl, _, rfl, S v, rfl, hvl, c, _, rfl, rfl, _, rfl, ite2 (fun h4 => badv fun z => ?_) (fun h4 => ⟨rfl, ex.mpr ⟨hd, ?_, ?_⟩, _, rfl⟩)⟩)
        · have := z.2 c (List.mem_of_getElem? hc)
          have h5 : decide (c ∈ (S l).cps.toList) = true := decide_eq_true (by rw [S_cps]; exact this)
          exact absurd (show (!decide (c ∈ (S l).cps.toList)) = true from h3) (by rw [h5]; decide)
        · have h5 := (differ_step (a := l) hc).mp (z.take (i + 1))
          have h6 := of_decide_eq_true h4
          rw [Int.zero_add, S_to, S_cps] at h6
          exact h5.2.2 h6
        · refine Classical.byContradiction fun z => h3 ?_
          show (!decide (c ∈ (S l).cps.toList)) = true
          rw [decide_eq_false (by rw [S_cps]; exact z)]
          rfl
        · intro z
          refine h4 (decide_eq_true ?_)
          rw [Int.zero_add, S_to, S_cps]
          exact z
      · rintro σ H2 ⟨rfl, hd, x, rfl⟩
        have hE : Differ v l := by
          rw [S_len, List.take_length] at hd
          exact hd
        have q := k
        unfold dueT at q
        rw [if_neg hN, if_neg (fun z => z hE)] at q
        exact q
end
end Vk

set_option Elab.async false
set_option linter.all false
set_option maxRecDepth 100000
set_option maxHeartbeats 4000000
namespace Vk
open PySem PySem.Spec PyProof.Rows L2
abbrev sShows : Stmt := top 19
abbrev sAlike : Stmt := top 20
abbrev sAlph : Stmt := top 8
abbrev sEq : Stmt := inClass (top 8) 3
def consL (l v : List Nat) : List Nat := (srtL l).filter fun c => !decide (c ∈ v)
/-- what an alphabet shows: letters, vowels, consonants, signs -/
def four (l v : List Nat) : List Str := [S (srtL l), S (srtL v), S (consL l v), S (45 :: srtL l)]
def alF (l v : List Nat) : List (Str × V) := [("letters", .str (S (srtL l))), ("vowels", .str (S (srtL v))), ("consonants", .str (S (consL l v))), ("signs", .str (S (45 :: srtL l)))]
def IsAl (C : Addr) (H : Hp) (a : Addr) (l v : List Nat) : Prop := ∃ dx, H a = some (.ins C dx (alF l v))
theorem IsAl.same {C a : Addr} {H H' : Hp} {l v : List Nat} (h : IsAl C H a l v) (s : Same H H') : IsAl C H' a l v := by
  obtain ⟨dx, e⟩ := h
  exact ⟨dx, s _ _ e⟩
structure AlF (K : PySem.W.Frag) (C : Addr) : Prop where
  cl : Cls K C
  nL : NoAttr K C "letters"
  nV : NoAttr K C "vowels"
  nC : NoAttr K C "consonants"
  nS : NoAttr K C "signs"
  ic : PySem.W.findIn K (.ref C) "__class__" = some (some (.builtin "object.__class__"))
  ig : PySem.W.specialIn K (.builtin "object.__class__") "__get__" = some (some (.builtin "getset_descriptor.__get__"))
  it : PySem.W.takesIn K (.builtin "object.__class__") = some true
  im : PySem.W.mroIn K C (.type "object") = some true
theorem joined {l : List Nat} {ys : List Str} (hl : l.length < 64) (hp : ys.Perm (signsOf (S l))) (hs : sortedS ys = true) :
    ((ys.map (·.length)).sum + ys.length * (PySem.Str.ofString "").length ≤ 16777216) ∧ Txt.join (PySem.Str.ofString "") ys = S (srtL l) := by
  rw [signs_S] at hp
  have e := sorted_signs hp hs
  subst e
  have e0 : PySem.Str.ofString "" = S [] := by decide +kernel
  rw [e0]
  refine ⟨?_, join_signs _⟩
  rw [S_len, List.length_nil, Nat.mul_zero, Nat.add_zero, List.map_map]
  have e1 : (srtL l).map ((fun x : Str => x.length) ∘ fun c => S [c]) = (srtL l).map fun _ => 1 := List.map_congr_left fun c _ => S_len [c]
  rw [e1]
  have e2 : ((srtL l).map fun _ => 1).sum = (srtL l).length := by
    induction srtL l with
    | nil => rfl
    | cons x xs ih => rw [List.map_cons, List.sum_cons, ih, List.length_cons, Nat.add_comm]
  rw [e2, srtL_len]
  omega
theorem joinedL {l : List Nat} (hl : l.length < 1000) : (((l.map fun c => S [c]).map (·.length)).sum + (l.map fun c => S [c]).length * (PySem.Str.ofString "").length ≤ 16777216) ∧ Txt.join (PySem.Str.ofString "") (l.map fun c => S [c]) = S l := by
  have e0 : PySem.Str.ofString "" = S [] := by decide +kernel
  rw [e0]
  refine ⟨?_, join_signs _⟩
  rw [S_len, List.length_nil, Nat.mul_zero, Nat.add_zero, List.map_map]
  have e1 : l.map ((fun x : Str => x.length) ∘ fun c => S [c]) = l.map fun _ => 1 := List.map_congr_left fun c _ => S_len [c]
  rw [e1]
  have e2 : (l.map fun _ => 1).sum = l.length := by
    clear hl e1
    induction l with
    | nil => rfl
    | cons x xs ih => rw [List.map_cons, List.sum_cons, ih, List.length_cons, Nat.add_comm]
  rw [e2]
  omega
theorem upd_laid {H : Hp} {p : Addr} {o : HO} (h : H p = none) : Same H (upd H p o) := fun b u e => by rw [upd_ne (ne_of_none e h)]; exact e
theorem Same.trans {A B C : Hp} (h : Same A B) (k : Same B C) : Same A C := fun b u e => k b u (h b u e)
section
variable {P : Program} {w : World} {K : PySem.W.Frag} {mg : Str → Option Value} {base : Heap} {aDiff aBox aTake aPick aChar : Addr}
def spShows (C : Addr) : Sp := fun vs H Q _ => ∃ (a : Addr) (l v : List Nat), vs = [.ref a, .str (S l), .str (S v)] ∧ IsAl C H a l v ∧ l.length < 64 ∧ v.length < 64 ∧ ∀ H', Same H H' → Q (.bl true) H'
theorem scShows : FnScope ["_law_alphabet", "_law_letters", "_law_vowels", "_law_ordered", "_law_due_here", "_law_char_here", "_law_told", "_law_k"] ["_law_alphabet", "_law_letters", "_law_vowels"] (defScope sShows) := ⟨rfl, rfl, rfl, by decide +kernel, rfl, by decide +kernel, by decide +kernel⟩
theorem ok_shows {f C : Addr} {fd : FuncData} (F : Fun K "_law_shows" "_law_shows" sShows f fd) (T : TxA K mg aDiff aBox aTake aPick aChar) (A : AlF K C) : FnOk P w K mg base CX0 1 f fd ["_law_alphabet", "_law_letters", "_law_vowels"] (spShows C) := by
  refine F.ok scShows (fun vs H Q E h => ?_) (fun cdv A0 outer s H vs Q E hr h => ?_)
  · obtain ⟨a, l, v, rfl, _⟩ := h
    rfl
  · obtain ⟨a, l, v, rfl, ha, hl, hv, k⟩ := h
    refine ⟨_, (pss_cons (ps_set (i := 3) scShows.nd rfl (Or.inl rfl) (pe_join pe_str (pe_callB (cr_sortT rfl) (by rfl) T.z_sorted (by decide +kernel) (pa_cons (pv 1) pa_nil))))
      (pss_cons (ps_set (i := 4) scShows.nd rfl (Or.inl rfl) (pe_lst (pa_cons (pv 3) (pa_cons (pe_join pe_str (pe_callB (cr_sortT rfl) (by rfl) T.z_sorted (by decide +kernel) (pa_cons (pv 2) pa_nil))) (pa_cons (pe_join pe_str (pe_lc (own := [("_law_char_here", 5)]) (g := gName 5) (by rfl) scShows.nd (pi_str (pv 3)) (blkOk_by (own := [("_law_char_here", 5)]) (N := ["_law_alphabet", "_law_letters", "_law_vowels", "_law_ordered", "_law_due_here", "_law_char_here", "_law_told", "_law_k"]) (sc := defScope sShows) (by decide +kernel)) (fun _ _ _ _ _ => pg_name (i := 5) scShows.nd rfl (Or.inl rfl)) (fun _ _ _ _ _ => (pts_one (pt_cmpR op_notIn_sign (pv 5) (pv 2) rfl))) (fun _ _ _ _ _ => (pv 5)))) (pa_cons (pe_op op_add_str pe_str (pv 3)) pa_nil))))))
      (pss_cons (ps_set (i := 6) scShows.nd rfl (Or.inl rfl) (pe_lst (pa_cons (pe_fld (pv 0) rfl) (pa_cons (pe_fld (pv 0) rfl) (pa_cons (pe_fld (pv 0) rfl) (pa_cons (pe_fld (pv 0) rfl) pa_nil))))))
      (pss_cons (ps_for PassesOwn.never rfl (pi_range1 (by rfl) T.z_range (pa_cons pe_int pa_nil)) (pg_name (i := 7) scShows.nd rfl (Or.inl rfl)) (pss_one (ps_if (PW.pt (pw_or (pt_not (pt_val (pe_callB call_isi (by rfl) T.z_isinstance (by decide +kernel) (pa_cons (pe_ix ix_list (pv 6) (pv 7) (fun _ _ => rfl)) (pa_cons (pe_bltn (v := .ty "str") (by rfl) T.z_str (by decide +kernel) rfl) pa_nil))))) (pw_or1 (pt_cmpR op_ne (pe_ix ix_list (pv 6) (pv 7) (fun _ _ => rfl)) (pe_ix ix_list (pv 4) (pv 7) (fun _ _ => rfl)) (nomark _))))) (pss_one (ps_ret pe_bl)) pss_nil)))
      (pss_one (ps_ret pe_bl)))))), ?_⟩
    -- _law_ordered
    refine ⟨⟨_, rfl⟩, _, rfl, S l, rfl, (by rw [S_len]; exact hl), fun ys p1 hp hs n1 => ?_⟩
    obtain ⟨b1, e1⟩ := joined hl hp hs
    refine ⟨_, p1, ys, rfl, rfl, .inl (SqL.of upd_same), b1, ?_⟩
    rw [e1]
    have s1 : Same H (upd H p1 (.lst (ys.map V.str))) := upd_laid n1
    -- _law_due_here
    refine ⟨_, rfl, ⟨_, rfl⟩, _, rfl, S v, rfl, (by rw [S_len]; exact hv), fun zs p2 hp2 hs2 n2 => ?_⟩
    obtain ⟨b2, e2⟩ := joined hv hp2 hs2
    refine ⟨_, p2, zs, rfl, rfl, .inl (SqL.of upd_same), b2, ?_⟩
    rw [e2]
    have s2 := Same.trans s1 (upd_laid (o := .lst (zs.map V.str)) n2)
    generalize hH2 : upd (upd H p1 (.lst (ys.map V.str))) p2 (.lst (zs.map V.str)) = H2 at s2
    have hk4 : (srtL l).length ≤ 4000 := by rw [srtL_len]; omega
    refine ⟨⟨_, rfl⟩, _, rfl, _, rfl, fun D hD => lc_text (fun c => !decide (c ∈ v)) (fun c => V.str (S [c])) hk4 (fun _ => rfl) (fun c hc H3 Q3 _ q => ⟨_, rfl, _, rfl, c, S v, rfl, rfl, _, rfl, by rw [S_cps]; exact q⟩) (fun c hc _ H3 Q3 _ q => ⟨_, rfl, q⟩) ?_⟩
    have s3 := Same.trans s2 (upd_laid (o := .lst (((srtL l).filter fun c => !decide (c ∈ v)).map fun c => V.str (S [c]))) hD)
    have hc64 : (consL l v).length < 1000 := by
      have := List.length_filter_le (fun c => !decide (c ∈ v)) (srtL l)
      rw [srtL_len] at this
      unfold consL
      omega
    obtain ⟨b3, e3⟩ := joinedL hc64
    refine ⟨_, D, (consL l v).map fun c => S [c], rfl, rfl, .inl (SqL.of (by rw [List.map_map]; exact upd_same)), b3, ?_⟩
    rw [e3]
    generalize hH3 : upd H2 D (.lst (((srtL l).filter fun c => !decide (c ∈ v)).map fun c => V.str (S [c]))) = H3 at s3
    refine ⟨_, rfl, _, _, rfl, rfl, ?_, (by show 4 ≤ sizeLine; decide), fun p4 n4 => ?_⟩
    · refine sz4 ?_
      rw [S_len, srtL_len]
      have : (PySem.Str.ofString "-").length = 1 := by decide +kernel
      omega
    have e4 : PySem.Str.ofString "-" ++ S (srtL l) = S (45 :: srtL l) := by
      have : PySem.Str.ofString "-" = S [45] := by decide +kernel
      rw [this, S_app]
      rfl
    rw [e4]
    have s4 := Same.trans s3 (upd_laid (o := .lst [.str (S (srtL l)), .str (S (srtL v)), .str (S (consL l v)), .str (S (45 :: srtL l))]) n4)
    obtain ⟨dx, ha4⟩ := ha.same s4
    refine ⟨_, rfl, a, C, dx, _, _, rfl, ha4, A.cl, A.nL, rfl, _, rfl, a, C, dx, _, _, rfl, ha4, A.cl, A.nV, rfl, _, rfl, a, C, dx, _, _, rfl, ha4, A.cl, A.nC, rfl, _, rfl, a, C, dx, _, _, rfl, ha4, A.cl, A.nS, rfl, (by show 4 ≤ sizeLine; decide), fun p5 n5 => ?_⟩
    have hd5 : (upd (upd H3 p4 (.lst [.str (S (srtL l)), .str (S (srtL v)), .str (S (consL l v)), .str (S (45 :: srtL l))])) p5 (.lst [.str (S (srtL l)), .str (S (srtL v)), .str (S (consL l v)), .str (S (45 :: srtL l))])) p4 = some (.lst [.str (S (srtL l)), .str (S (srtL v)), .str (S (consL l v)), .str (S (45 :: srtL l))]) := by
      rw [upd_ne (ne_of_none upd_same n5), upd_same]
    have s5 := Same.trans s4 (upd_laid (o := .lst [.str (S (srtL l)), .str (S (srtL v)), .str (S (consL l v)), .str (S (45 :: srtL l))]) n5)
    have hd6 := @upd_same (upd H3 p4 (.lst [.str (S (srtL l)), .str (S (srtL v)), .str (S (consL l v)), .str (S (45 :: srtL l))])) p5 (.lst [.str (S (srtL l)), .str (S (srtL v)), .str (S (consL l v)), .str (S (45 :: srtL l))])
    generalize hH5 : upd (upd H3 p4 (.lst [.str (S (srtL l)), .str (S (srtL v)), .str (S (consL l v)), .str (S (45 :: srtL l))])) p5 (.lst [.str (S (srtL l)), .str (S (srtL v)), .str (S (consL l v)), .str (S (45 :: srtL l))]) = H5 at hd5 hd6 s5
    have at4 : ∀ i, i < 4 → ∃ z : Str, ([V.str (S (srtL l)), .str (S (srtL v)), .str (S (consL l v)), .str (S (45 :: srtL l))] : List V)[i]? = some (.str z) := by
      intro i hi
      match i, hi with
      | 0, _ => exact ⟨_, rfl⟩
      | 1, _ => exact ⟨_, rfl⟩
      | 2, _ => exact ⟨_, rfl⟩
      | 3, _ => exact ⟨_, rfl⟩
    refine ⟨_, rfl, by decide, by decide, for_range (lo := 0) (n := 4) (fun i σ H' => H' = H5 ∧ ∃ v3 v5 v7, σ = [some (.ref a), some (.str (S l)), some (.str (S v)), v3, some (.ref p4), v5, some (.ref p5), v7]) ⟨rfl, _, _, _, rfl⟩ ?_ ?_⟩
    · rintro i σ H6 hi ⟨rfl, v3, v5, v7, rfl⟩
      obtain ⟨z, hz⟩ := at4 i hi
      have hz2 := atI_nat hz
      rw [← Int.zero_add (i : Int)] at hz2
      refine ⟨_, rfl, _, rfl, p5, _, _, _, rfl, rfl, SqL.of hd6, hz2, _, _, _, _, true, rfl, .ty "str", .base (.str z), rfl, _, rfl, ?_⟩
      refine iteF ⟨_, rfl, _, rfl, p5, _, _, _, rfl, rfl, SqL.of hd6, hz2, _, rfl, _, rfl, p4, _, _, _, rfl, rfl, SqL.of hd5, hz2, rfl, _, rfl, ?_⟩
      have e : (!decide (V.str z = V.str z)) = false := by rw [decide_eq_true rfl]; rfl
      first
        | (rw [e]; exact iteF ⟨rfl, _, _, _, rfl⟩)
        | (refine ite2 (fun h => absurd h (by simp)) (fun _ => ⟨rfl, _, _, _, rfl⟩))
    · rintro σ H6 ⟨rfl, v3, v5, v7, rfl⟩
      exact k _ s5
end
end Vk

set_option Elab.async false
set_option linter.all false
set_option maxRecDepth 100000
set_option maxHeartbeats 4000000
namespace Vk
open PySem PySem.Spec PyProof.Rows L2
theorem S_eq_iff {a b : List Nat} : decide ((V.str (S a)) = V.str (S b)) = decide (a = b) := by
  have e : ((V.str (S a)) = V.str (S b)) ↔ a = b := ⟨fun h => S_inj.mp (V.str.inj h), fun h => by rw [h]⟩
  rw [Bool.eq_iff_iff, decide_eq_true_iff, decide_eq_true_iff]
  exact e
def AlEq (l v l2 v2 : List Nat) : Bool := decide (srtL l = srtL l2) && decide (srtL v = srtL v2)
section
variable {P : Program} {w : World} {K : PySem.W.Frag} {mg : Str → Option Value} {base : Heap} {aDiff aBox aTake aPick aChar : Addr}
def spEq (C : Addr) : Sp := fun vs H Q _ => ∃ (a b : Addr) (l v l2 v2 : List Nat), vs = [.ref a, .ref b] ∧ IsAl C H a l v ∧ IsAl C H b l2 v2 ∧ Q (.bl (AlEq l v l2 v2)) H
theorem scEq : FnScope ["self", "other"] ["self", "other"] (defScope sEq) := ⟨rfl, rfl, rfl, by decide +kernel, rfl, by decide +kernel, by decide +kernel⟩
theorem ok_eq {f C : Addr} {fd : FuncData} (F : Fun K "__eq__" "Alphabet.__eq__" sEq f fd) (T : TxA K mg aDiff aBox aTake aPick aChar) (A : AlF K C) (hC : mg "Alphabet" = some (.ref C)) : FnOk P w K mg base CX0 1 f fd ["self", "other"] (spEq C) := by
  refine F.ok scEq (fun vs H Q E h => ?_) (fun cdv A0 outer s H vs Q E hr h => ?_)
  · obtain ⟨a, b, l, v, l2, v2, rfl, _⟩ := h
    rfl
  · obtain ⟨a, b, l, v, l2, v2, rfl, ⟨dx, ha⟩, ⟨dy, hb⟩, k⟩ := h
    refine ⟨_, pss_one (ps_ret (pe_and (pe_callB call_isi (by rfl) T.z_isinstance (by decide +kernel) (pa_cons (pv 1) (pa_cons (pe_glob (v := .ref C) (by rfl) hC rfl) pa_nil)))
      (pe_and (pe_cmpR op_eq (pe_fld (pv 0) rfl) (pe_fld (pv 1) rfl) (nomark _)) (pe_one (pe_cmpR op_eq (pe_fld (pv 0) rfl) (pe_fld (pv 1) rfl) (nomark _)))))), ?_⟩
    refine ⟨_, rfl, _, _, _, _, true, rfl, .own C, .base (.ins hb A.cl A.ic A.ig A.it A.im), ?_, true, rfl, iteT ?_⟩
    · show PySem.W.kitOne K (.ref C) (.ref C) = some true
      unfold PySem.W.kitOne
      rw [if_pos (beq_iff_eq.mpr rfl)]
    refine ⟨_, rfl, a, C, dx, _, _, rfl, ha, A.cl, A.nL, rfl, _, rfl, b, C, dy, _, _, rfl, hb, A.cl, A.nL, rfl, rfl, _, rfl, ?_⟩
    have q := k
    unfold AlEq at q
    rw [← S_eq_iff, ← S_eq_iff] at q
    refine ite2 (fun h => ?_) (fun h => ?_)
    · refine ⟨_, rfl, a, C, dx, _, _, rfl, ha, A.cl, A.nV, rfl, _, rfl, b, C, dy, _, _, rfl, hb, A.cl, A.nV, rfl, rfl, ?_⟩
      rw [h, Bool.true_and] at q
      exact q
    · rw [Bool.eq_false_iff.mpr h, Bool.false_and] at q
      exact q
def spAlike (C : Addr) : Sp := fun vs H Q _ => ∃ (a b : Addr) (l v l2 v2 : List Nat), vs = [.ref a, .ref b, .bl (AlEq l v l2 v2)] ∧ IsAl C H a l v ∧ IsAl C H b l2 v2 ∧ Q (.bl true) H
theorem scAlike : FnScope ["_law_one", "_law_two", "_law_due_here", "_law_told"] ["_law_one", "_law_two", "_law_due_here"] (defScope sAlike) := ⟨rfl, rfl, rfl, by decide +kernel, rfl, by decide +kernel, by decide +kernel⟩
theorem ok_alike {f C g : Addr} {fd fdE : FuncData} (F : Fun K "_law_alike" "_law_alike" sAlike f fd) (T : TxA K mg aDiff aBox aTake aPick aChar) (A : AlF K C) (hC : mg "Alphabet" = some (.ref C))
    (FE : Fun K "__eq__" "Alphabet.__eq__" sEq g fdE) (bE : Binds K fdE ["self", "other"] []) (hs : PySem.W.findIn K (.ref C) "__eq__" = some (some (.ref g))) (hf : PySem.W.isFn K (.ref g) = true) (hn : PySem.W.notFirst K C (.ref C) = true) : FnOk P w K mg base CX0 2 f fd ["_law_one", "_law_two", "_law_due_here"] (spAlike C) := by
  have GE : FnOk P w K mg base CX0 1 g fdE ["self", "other"] (spEq C) := ok_eq FE T A hC
  refine F.ok scAlike (fun vs H Q E h => ?_) (fun cdv A0 outer s H vs Q E hr h => ?_)
  · obtain ⟨a, b, l, v, l2, v2, rfl, _⟩ := h
    rfl
  · obtain ⟨a, b, l, v, l2, v2, rfl, ⟨dx, ha⟩, ⟨dy, hb⟩, k⟩ := h
    refine ⟨_, pss_cons (ps_set (i := 3) scAlike.nd rfl (Or.inl rfl) (pe_cmpR (op_ownI (fun _ _ => rfl) hs hf GE (hr.mono (by decide)) bE pass0) (pv 0) (pv 1) (nomark _)))
      (pss_one (ps_ret (pe_and (pe_callB call_isi (by rfl) T.z_isinstance (by decide +kernel) (pa_cons (pv 3) (pa_cons (pe_bltn (v := .ty "bool") (by rfl) T.z_bool (by decide +kernel) rfl) pa_nil))) (pe_one (pe_cmpR op_eq (pv 3) (pv 2) (nomark _)))))), ?_⟩
    refine ⟨_, rfl, _, rfl, a, dx, _, b, C, dy, _, rfl, rfl, ha, hb, hn, a, b, l, v, l2, v2, rfl, ⟨dx, ha⟩, ⟨dy, hb⟩, ?_⟩
    refine ⟨_, rfl, _, _, _, _, true, rfl, .ty "bool", .base (.bl _), rfl, true, rfl, iteT ⟨_, rfl, _, rfl, rfl, ?_⟩⟩
    have e : decide (V.bl (AlEq l v l2 v2) = V.bl (AlEq l v l2 v2)) = true := decide_eq_true rfl
    show Q (.bl (decide (V.bl (AlEq l v l2 v2) = V.bl (AlEq l v l2 v2)))) H
    rw [e]
    exact k
end
end Vk

set_option Elab.async false
set_option linter.all false
set_option maxRecDepth 100000
set_option maxHeartbeats 4000000
namespace Vk
open PySem PySem.Spec PyProof.Rows L2
abbrev sBA : Stmt := inClass (top 3) 0
def spBA (C : Addr) : Sp := fun vs H Q _ => ∃ (a : Addr) (z : Str), vs = [.ref a, .str z] ∧ z.length ≤ 100 ∧ H a = some (exo a C none) ∧
  ∀ dx, H dx = none → dx ≠ a → Q .non (upd (upd H dx (exd dx [("part", .str z)])) a (exo a C (some dx)))
theorem scBA : SScope ["self", "part"] (defScope sBA) := ⟨rfl, rfl, rfl, by decide +kernel, by decide +kernel, by decide +kernel, fun x h => (show ∀ y ∈ (defScope sBA).names, y.2 = .free → y.1 = "__class__" by decide +kernel) _ (PySem.mem_of_lookup h) rfl, by decide +kernel, by decide +kernel⟩
section
variable {P : Program} {w : World} {K : PySem.W.Frag} {mg : Str → Option Value} {base : Heap}
theorem ok_ba {f C cc cda : Addr} {dV kV doc pm ct oc : Value} {an od : Option Addr} {osl : Array (Option Value)} (T : SupC P K mg C cc cda) (hp : PySem.W.findIn K (.ref C) "part" = some none)
    (lk : K.lookup f = some ⟨oc, od, .func (PySem.W.ksFn "__init__" "BadAlphabet.__init__" (defArgs sBA) (defBody sBA) (defScope sBA) dV kV doc pm an (.ref cda) ct cc), osl⟩) (hcd : PySem.W.codeIn K (.ref cda) "BadAlphabet.__init__" = true) :
    FnOk P w K mg base CX0 1 f (PySem.W.ksFn "__init__" "BadAlphabet.__init__" (defArgs sBA) (defBody sBA) (defScope sBA) dV kV doc pm an (.ref cda) ct cc) ["self", "part"] (spBA C) := by
  refine fn_super (self := "self") (N' := ["part"]) T lk hcd scBA rfl rfl rfl rfl (fun _ => rfl) (fun _ => rfl) (fun vs H Q E h => ?_) (fun A outer s H vs Q E hr h => ?_)
  · obtain ⟨a, z, rfl, _⟩ := h
    rfl
  · obtain ⟨a, z, rfl, hz, ha, k⟩ := h
    refine ⟨_, _, pe_joined (.cons pe_str (.cons (pe_fmt (pv 1)) (.cons pe_str .nil))), pss_one (ps_ost (pv 0) (pv 1)), ⟨a, rfl, ha⟩, ?_⟩
    have e1 : (PySem.Str.ofString "not the ").length = 8 := by decide +kernel
    have e2 : (PySem.Str.ofString " of an alphabet").length = 15 := by decide +kernel
    have e3 : Str.empty.length = 0 := by decide +kernel
    have sl : ∀ {n : Nat}, n ≤ 1000 → n ≤ sizeLine := fun h => by rw [sizeLine_eq]; omega
    have al : ∀ a b : Str, (a ++ b).length = a.length + b.length := fun a b => by
      show (a.cps ++ b.cps).size = _
      rw [Array.size_append]
      rfl
    refine ⟨_, rfl, sl ?_, _, rfl, .inl ⟨z, rfl, sl (by omega), _, rfl, sl ?_, _, rfl, sl ?_, ⟨a, rfl, ha⟩, ?_⟩⟩
    · rw [al, e1, e3]
      decide
    · rw [al, al, e1, e3]
      omega
    · rw [al, al, al, e1, e2, e3]
      omega
    · exact ⟨_, rfl, _, rfl, a, C, rfl, T.oex, hp, .inl ⟨ha, fun dx hd hn => k dx hd hn⟩⟩
end
end Vk

set_option Elab.async false
set_option linter.all false
set_option maxRecDepth 100000
set_option maxHeartbeats 4000000
namespace Vk
open PySem PySem.Spec PyProof.Rows L2
abbrev sAI : Stmt := inClass (top 8) 2
/-- BadAlphabet as the written part holds it -/
structure BaF (P : Program) (K : PySem.W.Frag) (mg : Str → Option Value) (B fB : Addr) : Prop where
  ox : OexC K B
  iC : PySem.W.findIn K (.ref B) "__init__" = some (some (.ref fB))
  tI : PySem.W.typeIn K (.ref fB) = some (.type "function")
  gB : mg "BadAlphabet" = some (.ref B)
/-- what else stands of Alphabet: its class values -/
structure AlV (K : PySem.W.Frag) (mg : Str → Option Value) (C : Addr) (mc : Value) (tm tj tl : Tok) : Prop where
  gC : mg "Alphabet" = some (.ref C)
  gL : mg "SMALL_LETTERS" = some (.str (S azL) tl)
  rd : ClX.CRead K C mc
  most : ClX.CVal K C mc "MOST" (.int 4) (.int 4 tm)
  joint : ClX.CVal K C mc "JOINT" (.str "-") (.str "-" tj)
def spAl (C B : Addr) : Sp := fun vs H Q E => ∃ (a dx : Addr) (l v : List Nat), vs = [.ref a, .str (S l), .str (S v)] ∧ H a = some (.ins C dx []) ∧ l.length ≤ 1000 ∧ v.length ≤ 1000 ∧
  (dueT l v = "" → ∀ H', IsAl C H' a l v → Kp a H H' → Q .non H') ∧
  (dueT l v ≠ "" → ∀ d H', H d = none → H' d = some (.xd [("part", .str (dueT l v))]) → Kp a H H' → E (.ref B) (some d) H')
theorem kp_exc {H : Hp} {b dx : Addr} {o : HO} {e0 e1 e2 : HO} (ha : H b = none) (hd : (upd H b e0) dx = none) (hn : dx ≠ b) : Same H (upd (del (upd (upd (upd H b e0) dx e1) b e2) b) dx o) := fun c u e => by
  have h1 : c ≠ b := ne_of_none e ha
  have h2 : c ≠ dx := fun z => by
    subst z
    rw [upd_ne h1, e] at hd
    cases hd
  rw [upd_ne h2, del_ne h1, upd_ne h1, upd_ne h2, upd_ne h1]
  exact e
theorem Same.kp {H H' : Hp} (h : Same H H') (a : Addr) : Kp a H H' := fun c o _ e => h c o e
theorem len_of_sub : ∀ {v l : List Nat}, v.Nodup → (∀ c ∈ v, c ∈ l) → v.length ≤ l.length
  | [], l, _, _ => Nat.zero_le _
  | c :: v, l, hn, hs => by
    obtain ⟨h1, h2⟩ := List.nodup_cons.mp hn
    have hc : c ∈ l := hs c List.mem_cons_self
    have ih := len_of_sub (v := v) (l := l.erase c) h2 fun d hd => (List.mem_erase_of_ne (fun (z : d = c) => h1 (z ▸ hd))).mpr (hs d (List.mem_cons_of_mem _ hd))
    rw [List.length_erase_of_mem hc] at ih
    have := List.length_pos_of_mem hc
    rw [List.length_cons]
    omega
theorem differ_len {v l : List Nat} (h : Differ v l) : v.length ≤ l.length := len_of_sub h.1 h.2
theorem put2 (x y : V) : putF "vowels" y [("letters", x)] = ([("letters", x), ("vowels", y)] : List (Str × V)) := by
  show (if ("letters" : Str) = "vowels" then _ else (("letters" : Str), x) :: putF "vowels" y []) = _
  rw [if_neg (by decide +kernel)]
  rfl
theorem put3 (x y z : V) : putF "consonants" z [("letters", x), ("vowels", y)] = ([("letters", x), ("vowels", y), ("consonants", z)] : List (Str × V)) := by
  show (if ("letters" : Str) = "consonants" then _ else (("letters" : Str), x) :: (if ("vowels" : Str) = "consonants" then _ else (("vowels" : Str), y) :: putF "consonants" z [])) = _
  rw [if_neg (by decide +kernel), if_neg (by decide +kernel)]
  rfl
theorem put4 (x y z t : V) : putF "signs" t [("letters", x), ("vowels", y), ("consonants", z)] = ([("letters", x), ("vowels", y), ("consonants", z), ("signs", t)] : List (Str × V)) := by
  show (if ("letters" : Str) = "signs" then _ else (("letters" : Str), x) :: (if ("vowels" : Str) = "signs" then _ else (("vowels" : Str), y) :: (if ("consonants" : Str) = "signs" then _ else (("consonants" : Str), z) :: putF "signs" t []))) = _
  rw [if_neg (by decide +kernel), if_neg (by decide +kernel), if_neg (by decide +kernel)]
  rfl
theorem scAI : FnScope ["self", "letters", "vowels", "letter"] ["self", "letters", "vowels"] (defScope sAI) := ⟨rfl, rfl, rfl, by decide +kernel, rfl, by decide +kernel, by decide +kernel⟩
section
variable {P : Program} {w : World} {K : PySem.W.Frag} {mg : Str → Option Value} {base : Heap} {aDiff aBox aTake aPick aChar : Addr}
theorem ok_alph {f C B fB : Addr} {mc : Value} {tm tj tl : Tok} {fd fdD fdB : FuncData} (F : FunD K "__init__" "Alphabet.__init__" (defArgs sAI) (defBody sAI) (defScope sAI) [.str ""] [] f fd) (T : TxA K mg aDiff aBox aTake aPick aChar) (A : AlF K C) (AV : AlV K mg C mc tm tj tl) (BA : BaF P K mg B fB)
    (FDiff : Fun K "differ_within" "differ_within" sDiff aDiff fdD) (bDiff : Binds K fdD ["text", "allowed"] []) (GB : FnOk P w K mg base CX0 1 fB fdB ["self", "part"] (spBA B)) (bB : Binds K fdB ["self", "part"] []) :
    FnOk P w K mg base (L2.CX P w) 3 f fd ["self", "letters", "vowels"] (spAl C B) := by
  have GDiff : FnOk P w K mg base CX0 1 aDiff fdD ["text", "allowed"] spDiff := ok_diff FDiff T
  refine F.ok scAI (fun vs H Q E h => ?_) (fun cdv A0 outer s H vs Q E hr h => ?_)
  · obtain ⟨a, dx, l, v, rfl, _⟩ := h
    rfl
  · obtain ⟨a, dx, l, v, rfl, ha, hl, hv, kq, ke⟩ := h
    refine ⟨_, (pss_cons (ps_if (PW.pt (pw_or (pt_not (pt_chain op_le op_le pe_int (pe_callB call_len_str (by rfl) T.z_len (by decide +kernel) (pa_cons (pv 1) pa_nil)) (ClX.pe_cval (pe_glob (v := .ref C) (by rfl) AV.gC rfl)))) (pw_or1 (pt_not (pt_val (pe_call GDiff (hr.mono (by decide)) (by rfl) T.gDiff FDiff.kp bDiff .nil pass0 (pa_cons (pv 1) (pa_cons (pe_glob (v := .str (S azL)) (by rfl) AV.gL ⟨_, rfl⟩) pa_nil)))))))) (pss_one (ps_raise rfl (takes_of rfl rfl rfl rfl) (pmk_oex BA.ox BA.iC BA.tI GB (hr.mono (by decide)) bB .nil pass0 (by rfl) BA.gB (pa_cons pe_str pa_nil)))) pss_nil)
      (pss_cons (ps_if (pt_not (pt_val (pe_call GDiff (hr.mono (by decide)) (by rfl) T.gDiff FDiff.kp bDiff .nil pass0 (pa_cons (pv 2) (pa_cons (pv 1) pa_nil))))) (pss_one (ps_raise rfl (takes_of rfl rfl rfl rfl) (pmk_oex BA.ox BA.iC BA.tI GB (hr.mono (by decide)) bB .nil pass0 (by rfl) BA.gB (pa_cons pe_str pa_nil)))) pss_nil)
      (pss_cons (ps_fld (pv 0) (pe_join pe_str (pe_callB (cr_sortT rfl) (by rfl) T.z_sorted (by decide +kernel) (pa_cons (pv 1) pa_nil))) rfl)
      (pss_cons (ps_fld (pv 0) (pe_join pe_str (pe_callB (cr_sortT rfl) (by rfl) T.z_sorted (by decide +kernel) (pa_cons (pv 2) pa_nil))) rfl)
      (pss_cons (ps_fld (pv 0) (pe_join pe_str (pe_lc (own := [("letter", 3)]) (g := gName 3) (by rfl) scAI.nd (pi_str (pe_fld (pv 0) rfl)) (blkOk_by (own := [("letter", 3)]) (N := ["self", "letters", "vowels", "letter"]) (sc := defScope sAI) (by decide +kernel)) (fun _ _ _ _ _ => pg_name (i := 3) scAI.nd rfl (Or.inl rfl)) (fun _ _ _ _ _ => (pts_one (pt_cmpR op_notIn_sign (pv 3) (pv 2) rfl))) (fun _ _ _ _ _ => (pv 3)))) rfl)
      (pss_one (ps_fld (pv 0) (pe_op op_add_str (ClX.pe_cval (pe_glob (v := .ref C) (by rfl) AV.gC rfl)) (pe_fld (pv 0) rfl)) rfl))))))), ?_⟩
    have hll : (S l).length ≤ sizeLine := sz4 (by rw [S_len]; omega)
    -- what a raise leaves
    have rz : ∀ (z : Str) (H1 : Hp), z.length ≤ 100 → z ≠ "" → dueT l v = z → Same H H1 → ∀ b, H1 b = none → spBA B [.ref b, .str z] (upd H1 b (exo b B none)) (fun v H2 => v = .non ∧ ∃ (d : Addr) (fs : List (Str × V)), H2 b = some (exo b B (some d)) ∧ H2 d = some (exd d fs) ∧ H1 d = none ∧ E (.ref B) (some d) (upd (del H2 b) d (.xd fs))) (fun _ _ _ => False) := by
      intro z H1 hz hne hdue hs b hb
      refine ⟨b, z, rfl, hz, upd_same, fun d hd hn => ⟨rfl, d, [("part", .str z)], upd_same, ?_, ?_, ?_⟩⟩
      · rw [upd_ne hn, upd_same]
      · rw [upd_ne hn] at hd
        exact hd
      · have h0 : H d = none := by
          cases e : H d with
          | none => rfl
          | some u =>
            have q := hs _ _ e
            rw [upd_ne hn, q] at hd
            cases hd
        refine ke (by rw [hdue]; exact hne) d _ h0 ?_ (Same.kp (Same.trans hs (kp_exc hb hd hn)) a)
        rw [hdue]
        exact upd_same
    have rl : dueT l v = "letters" → ∀ H1, Same H H1 → ([V.str "letters"] : List V).length ≤ 1000 ∧ ∀ b, H1 b = none → spBA B [.ref b, .str "letters"] (upd H1 b (exo b B none)) (fun v H2 => v = .non ∧ ∃ (d : Addr) (fs : List (Str × V)), H2 b = some (exo b B (some d)) ∧ H2 d = some (exd d fs) ∧ H1 d = none ∧ E (.ref B) (some d) (upd (del H2 b) d (.xd fs))) (fun _ _ _ => False) :=
      fun hd H1 hs => ⟨by show 1 ≤ 1000; decide, rz "letters" H1 (by decide +kernel) (by decide +kernel) hd hs⟩
    have rv : dueT l v = "vowels" → ∀ H1, Same H H1 → ([V.str "vowels"] : List V).length ≤ 1000 ∧ ∀ b, H1 b = none → spBA B [.ref b, .str "vowels"] (upd H1 b (exo b B none)) (fun v H2 => v = .non ∧ ∃ (d : Addr) (fs : List (Str × V)), H2 b = some (exo b B (some d)) ∧ H2 d = some (exd d fs) ∧ H1 d = none ∧ E (.ref B) (some d) (upd (del H2 b) d (.xd fs))) (fun _ _ _ => False) :=
      fun hd H1 hs => ⟨by show 1 ≤ 1000; decide, rz "vowels" H1 (by decide +kernel) (by decide +kernel) hd hs⟩
    have dl : (l.length < 1 ∨ 4 < l.length ∨ ¬ Differ l azL) → dueT l v = "letters" := fun h => if_pos h
    refine ⟨_, rfl, _, rfl, hll, _, _, rfl, rfl, _, rfl, ite2 (fun h1 => ⟨C, mc, _, _, rfl, AV.rd, AV.most, _, _, rfl, rfl, _, rfl, ?_⟩) (fun h1 => ⟨_, rfl, iteT (iteT (rl (dl (.inl ?_)) H (Same.refl H)))⟩)⟩
    rotate_left
    · have : ¬ (1 : Int) ≤ ((S l).length : Int) := fun z => h1 (decide_eq_true z)
      rw [S_len] at this
      omega
    refine ite2 (fun h2 => iteT (rl (dl (.inr (.inl ?_))) H (Same.refl H))) (fun h2 => ?_)
    · have h3 : decide (((S l).length : Int) ≤ 4) = false := by
        cases e : decide (((S l).length : Int) ≤ 4) with
        | false => rfl
        | true =>
          have h2' : (!decide (((S l).length : Int) ≤ 4)) = true := h2
          rw [e] at h2'
          cases h2'
      have := of_decide_eq_false h3
      rw [S_len] at this
      omega
    have g1 : 1 ≤ l.length := by
      have := of_decide_eq_true h1
      rw [S_len] at this
      omega
    have g2 : l.length ≤ 4 := by
      have h3 : decide (((S l).length : Int) ≤ 4) = true := by
        cases e : decide (((S l).length : Int) ≤ 4) with
        | true => rfl
        | false => exact absurd (show (!decide (((S l).length : Int) ≤ 4)) = true by rw [e]; rfl) h2
      have := of_decide_eq_true h3
      rw [S_len] at this
      omega
    refine ⟨_, rfl, l, azL, rfl, by omega, fun H1 s1 => ⟨_, rfl, ite2 (fun h3 => rl (dl (.inr (.inr ?_))) H1 s1) (fun h3 => ?_)⟩⟩
    · intro z
      rw [decide_eq_true z] at h3
      cases h3
    have hDl : Differ l azL := Classical.byContradiction fun z => h3 (by rw [decide_eq_false z]; rfl)
    have hnl : ¬ (l.length < 1 ∨ 4 < l.length ∨ ¬ Differ l azL) := fun z => z.elim (fun z => by omega) fun z => z.elim (fun z => by omega) fun z => z hDl
    refine ⟨_, rfl, _, rfl, v, l, rfl, by omega, fun H2 s2' => ⟨_, rfl, ite2 (fun h4 => rv ?_ H2 (Same.trans s1 s2')) (fun h4 => ?_)⟩⟩
    · unfold dueT
      rw [if_neg hnl, if_pos ?_]
      intro z
      rw [decide_eq_true z] at h4
      cases h4
    have hDv : Differ v l := Classical.byContradiction fun z => h4 (by rw [decide_eq_false z]; rfl)
    have hdue : dueT l v = "" := by
      unfold dueT
      rw [if_neg hnl, if_neg (fun z => z hDv)]
    have hvl := differ_len hDv
    have s2 := Same.trans s1 s2'
    have ha2 := s2 _ _ ha
    -- letters
    refine ⟨⟨_, rfl⟩, _, rfl, S l, rfl, (by rw [S_len]; omega), fun ys p1 hp hs n1 => ?_⟩
    obtain ⟨b1, e1⟩ := joined (by omega) hp hs
    refine ⟨_, p1, ys, rfl, rfl, .inl (SqL.of upd_same), b1, ?_⟩
    rw [e1]
    have k3 := Same.kp (Same.trans s2 (upd_laid (o := .lst (ys.map V.str)) n1)) a
    have ha3 : (upd H2 p1 (.lst (ys.map V.str))) a = some (.ins C dx []) := upd_laid n1 _ _ ha2
    generalize upd H2 p1 (.lst (ys.map V.str)) = H3 at k3 ha3
    refine ⟨_, rfl, a, C, dx, [], rfl, ha3, A.cl, A.nL, (by show 0 < 1000; decide), ?_⟩
    have k4 := k3.trans (Kp.upd a H3 (.ins C dx (putF "letters" (.str (S (srtL l))) [])))
    have ha4 : (upd H3 a (.ins C dx (putF "letters" (.str (S (srtL l))) []))) a = some (.ins C dx [("letters", .str (S (srtL l)))]) := upd_same
    generalize upd H3 a (.ins C dx (putF "letters" (.str (S (srtL l))) [])) = H4 at k4 ha4
    -- vowels
    refine ⟨⟨_, rfl⟩, _, rfl, S v, rfl, (by rw [S_len]; omega), fun zs p2 hp2 hs2 n2 => ?_⟩
    obtain ⟨b2, e2⟩ := joined (by omega) hp2 hs2
    refine ⟨_, p2, zs, rfl, rfl, .inl (SqL.of upd_same), b2, ?_⟩
    rw [e2]
    have k5 := k4.trans (Same.kp (upd_laid (o := .lst (zs.map V.str)) n2) a)
    have ha5 : (upd H4 p2 (.lst (zs.map V.str))) a = some (.ins C dx [("letters", .str (S (srtL l)))]) := upd_laid n2 _ _ ha4
    generalize upd H4 p2 (.lst (zs.map V.str)) = H5 at k5 ha5
    refine ⟨_, rfl, a, C, dx, _, rfl, ha5, A.cl, A.nV, (by show 1 < 1000; decide), ?_⟩
    rw [put2]
    have k6 := k5.trans (Kp.upd a H5 (.ins C dx [("letters", .str (S (srtL l))), ("vowels", .str (S (srtL v)))]))
    have ha6 : (upd H5 a (.ins C dx [("letters", .str (S (srtL l))), ("vowels", .str (S (srtL v)))])) a = some (.ins C dx [("letters", .str (S (srtL l))), ("vowels", .str (S (srtL v)))]) := upd_same
    generalize upd H5 a (.ins C dx [("letters", .str (S (srtL l))), ("vowels", .str (S (srtL v)))]) = H6 at k6 ha6
    -- consonants
    have hk4 : (srtL l).length ≤ 4000 := by rw [srtL_len]; omega
    refine ⟨⟨_, rfl⟩, _, rfl, a, C, dx, _, _, rfl, ha6, A.cl, A.nL, rfl, _, rfl, fun D hD => lc_text (fun c => !decide (c ∈ v)) (fun c => V.str (S [c])) hk4 (fun _ => rfl) (fun c hc H3 Q3 _ q => ⟨_, rfl, _, rfl, c, S v, rfl, rfl, _, rfl, by rw [S_cps]; exact q⟩) (fun c hc _ H3 Q3 _ q => ⟨_, rfl, q⟩) ?_⟩
    have hc64 : (consL l v).length < 1000 := by
      have := List.length_filter_le (fun c => !decide (c ∈ v)) (srtL l)
      rw [srtL_len] at this
      unfold consL
      omega
    obtain ⟨b3, e3⟩ := joinedL hc64
    refine ⟨_, D, (consL l v).map fun c => S [c], rfl, rfl, .inl (SqL.of (by rw [List.map_map]; exact upd_same)), b3, ?_⟩
    rw [e3]
    have k7 := k6.trans (Same.kp (upd_laid (o := .lst (((srtL l).filter fun c => !decide (c ∈ v)).map fun c => V.str (S [c]))) hD) a)
    have ha7 := upd_laid (o := .lst (((srtL l).filter fun c => !decide (c ∈ v)).map fun c => V.str (S [c]))) hD _ _ ha6
    generalize upd H6 D (.lst (((srtL l).filter fun c => !decide (c ∈ v)).map fun c => V.str (S [c]))) = H7 at k7 ha7
    refine ⟨_, rfl, a, C, dx, _, rfl, ha7, A.cl, A.nC, (by show 2 < 1000; decide), ?_⟩
    rw [put3]
    have k8 := k7.trans (Kp.upd a H7 (.ins C dx [("letters", .str (S (srtL l))), ("vowels", .str (S (srtL v))), ("consonants", .str (S (consL l v)))]))
    have ha8 : (upd H7 a (.ins C dx [("letters", .str (S (srtL l))), ("vowels", .str (S (srtL v))), ("consonants", .str (S (consL l v)))])) a = some (.ins C dx [("letters", .str (S (srtL l))), ("vowels", .str (S (srtL v))), ("consonants", .str (S (consL l v)))]) := upd_same
    generalize upd H7 a (.ins C dx [("letters", .str (S (srtL l))), ("vowels", .str (S (srtL v))), ("consonants", .str (S (consL l v)))]) = H8 at k8 ha8
    -- signs
    refine ⟨C, mc, _, _, rfl, AV.rd, AV.joint, _, rfl, a, C, dx, _, _, rfl, ha8, A.cl, A.nL, rfl, _, _, rfl, rfl, ?_, _, rfl, a, C, dx, _, rfl, ha8, A.cl, A.nS, (by show 3 < 1000; decide), ?_⟩
    · refine sz4 ?_
      rw [S_len, srtL_len]
      have : (PySem.Str.ofString "-").length = 1 := by decide +kernel
      omega
    have e4 : PySem.Str.ofString "-" ++ S (srtL l) = S (45 :: srtL l) := by
      have : PySem.Str.ofString "-" = S [45] := by decide +kernel
      rw [this, S_app]
      rfl
    rw [e4, put4]
    exact kq hdue _ ⟨dx, upd_same⟩ (k8.trans (Kp.upd a H8 _))
end
end Vk

set_option Elab.async false
set_option linter.all false
set_option maxRecDepth 100000
set_option maxHeartbeats 4000000
namespace Vk
open PySem PySem.Spec PyProof.Rows L2
abbrev sRef : Stmt := top 18
/-- the errors as _law_refused asks of them -/
structure RfF (K : PySem.W.Frag) (mg : Str → Option Value) (B TE BT BS : Addr) : Prop where
  xf : XfC K B
  np : PySem.W.findIn K (.ref B) "part" = some none
  ec : ExcC K B
  e1 : PySem.W.exmOne K (.ref B) (.ref TE) = some true
  k2 : PySem.W.kitOne K (.ref B) (.type "ValueError") = some true
  k3 : PySem.W.kitAny K (.ref B) [.ref BT, .ref BS] = some false
  gTE : mg "TaleError" = some (.ref TE)
  gBT : mg "BadText" = some (.ref BT)
  gBS : mg "BadSet" = some (.ref BS)
theorem kit_self {K : PySem.W.Frag} {C : Addr} : PySem.W.kitOne K (.ref C) (.ref C) = some true := by
  unfold PySem.W.kitOne
  rw [if_pos (beq_iff_eq.mpr rfl)]
def spRef : Sp := fun vs H Q _ => ∃ (l v : List Nat), vs = [.str (S l), .str (S v)] ∧ l.length ≤ 1000 ∧ v.length ≤ 1000 ∧
  ∀ p H', H p = none → H' p = some (.tup [.bl (decide (dueT l v ≠ "")), .str (dueT l v)]) → Same H H' → Q (.ref p) H'
theorem scRef : FnScope ["_law_letters", "_law_vowels", "e"] ["_law_letters", "_law_vowels"] (defScope sRef) := ⟨rfl, rfl, rfl, by decide +kernel, rfl, by decide +kernel, by decide +kernel⟩
theorem kp_new {H H' : Hp} {x dx C : Addr} {o : HO} (hx : H x = none) (hd : H dx = none) (k : Kp x (upd (upd H dx o) x (.ins C dx [])) H') : Same H H' := fun c u e => by
  have h1 : c ≠ x := ne_of_none e hx
  have h2 : c ≠ dx := ne_of_none e hd
  exact k c u h1 (by rw [upd_ne h1, upd_ne h2]; exact e)
section
variable {P : Program} {w : World} {K : PySem.W.Frag} {mg : Str → Option Value} {base : Heap}
theorem ok_ref {f C B fA fB TE BT BS : Addr} {mc : Value} {tm tj tl : Tok} {fd fdA : FuncData} (F : Fun K "_law_refused" "_law_refused" sRef f fd) (Z : Zs mg) (AV : AlV K mg C mc tm tj tl) (BA : BaF P K mg B fB) (R : RfF K mg B TE BT BS) (M : Mk K C fA)
    (GA : FnOk P w K mg base (L2.CX P w) 3 fA fdA ["self", "letters", "vowels"] (spAl C B)) (bA : Binds K fdA ["self", "letters", "vowels"] []) : FnOk P w K mg base CX0 5 f fd ["_law_letters", "_law_vowels"] spRef := by
  refine F.ok scRef (fun vs H Q E h => ?_) (fun cdv A0 outer s H vs Q E hr h => ?_)
  · obtain ⟨l, v, rfl, _⟩ := h
    rfl
  · obtain ⟨l, v, rfl, hl, hv, kq⟩ := h
    refine ⟨_, pss_cons (ps_try_as (i := 2) (tb := fun W => tDrop (tMakeS C (spAl C B) [] (WE W) (tCons (tVar 0) (tCons (tVar 1) tNil)))) (ts := _) (Wout := fun _ _ _ _ => False) rfl rfl scRef.nd rfl rfl ⟨rfl, by decide, Or.inl R.gTE⟩ takes0
      (fun W pn xe tk _ => pss_one (ps_expr (pe_makeS M GA (hr.mono (by decide)) (by rfl) AV.gC bA .nil (fun σ => passAt tk σ) (pa_cons (pv 0) (pa_cons (pv 1) pa_nil)))))
      (fun a oe cls d pn hz hf => pss_cons (ps_if (PW.pt (pw_and (pt_val (pe_callB (call_isX hz hf) (by rfl) Z.z_isinstance (by decide +kernel) (pa_cons (pv 2) (pa_cons (pe_glob (v := .ref B) (by rfl) BA.gB rfl) pa_nil))))
          (pw_and (pt_val (pe_callB (call_isX hz hf) (by rfl) Z.z_isinstance (by decide +kernel) (pa_cons (pv 2) (pa_cons (pe_bltn (v := .ty "ValueError") (by rfl) Z.z_VE (by decide +kernel) rfl) pa_nil))))
          (pw_and1 (pt_not (pt_val (pe_callB (call_isX hz hf) (by rfl) Z.z_isinstance (by decide +kernel) (pa_cons (pv 2) (pa_cons (pe_tup (pa_cons (pe_glob (v := .ref BT) (by rfl) R.gBT rfl) (pa_cons (pe_glob (v := .ref BS) (by rfl) R.gBS rfl) pa_nil))) pa_nil)))))))))
          (pss_one (ps_ret (pe_tup (pa_cons pe_bl (pa_cons (pe_xf R.xf R.np hz hf (pv 2)) pa_nil))))) pss_nil)
        (pss_one (ps_ret (pe_tup (pa_cons pe_bl (pa_cons pe_str pa_nil)))))))
      (pss_one (ps_ret (pe_tup (pa_cons pe_bl (pa_cons pe_str pa_nil))))), ?_⟩
    refine ⟨_, rfl, _, rfl, fun x dx hx hdx hne => ⟨x, dx, l, v, rfl, upd_same, hl, hv, fun hdue H' hA hk => ⟨rfl, ?_⟩, fun hdue d H' hd hxd hk => ?_⟩⟩
    · refine ⟨(by show 2 ≤ sizeLine; decide), fun p hp => ?_⟩
      have s := kp_new hx hdx hk
      refine kq p _ ?_ ?_ (Same.trans s (upd_laid hp))
      · exact s.free hp
      · rw [hdue]
        exact upd_same
    · refine ⟨true, R.e1, fun _ a ha => ?_, fun q => Bool.noConfusion q⟩
      have s := kp_new hx hdx hk
      refine ⟨_, rfl, B, d, _, rfl, rfl, R.ec, hxd, .inl ⟨_, _, true, rfl, .own B, kit_self, _, rfl, iteT ?_⟩⟩
      refine ⟨_, rfl, B, d, _, rfl, rfl, R.ec, hxd, .inl ⟨_, _, true, rfl, .ty "ValueError", R.k2, _, rfl, iteT ?_⟩⟩
      refine ⟨_, rfl, (by show 2 ≤ sizeLine; decide), fun tp htp => ?_⟩
      have hd' : d ≠ tp := ne_of_none hxd htp
      have hxd' : ∀ o, (upd H' tp o) d = some (.xd [("part", .str (dueT l v))]) := fun o => by rw [upd_ne hd']; exact hxd
      refine ⟨B, d, _, rfl, rfl, R.ec, hxd' _, .inr ⟨tp, _, _, false, rfl, upd_same, .cons (.own BT) (.cons (.own BS) .nil), R.k3, _, rfl, iteT ?_⟩⟩
      refine ⟨_, rfl, rfl, rfl, d, _, _, rfl, hxd' _, rfl, (by show 2 ≤ sizeLine; decide), fun p hp => ?_⟩
      have s2 := Same.trans s (upd_laid (o := .tup [.ref BT, .ref BS]) htp)
      refine kq p _ (s2.free hp) ?_ (Same.trans s2 (upd_laid hp))
      have e : decide (dueT l v ≠ "") = true := decide_eq_true hdue
      rw [e]
      exact upd_same
end
end Vk

set_option Elab.async false
set_option linter.all false
set_option maxRecDepth 100000
set_option maxHeartbeats 4000000
namespace Vk
open PySem PySem.Spec PyProof.Rows L2
theorem ns_fun {h : Heap} {a : Addr} {m m' : Str → Option Value} (x : h.Ns a m) (y : h.Ns a m') (n : Str) : m n = m' n := by
  obtain ⟨o, es, ep, ho, hd, _, f⟩ := x
  obtain ⟨o', es', ep', ho', hd', _, f'⟩ := y
  rw [ho] at ho'
  cases ho'
  rw [hd] at hd'
  cases hd'
  rw [← f, f']
/-- the local y holds this very value -/
def RawAt (X : Cx) (s : Shared) (y : Str) (u : Value) : Prop := ∃ m, s.heap.Ns X.env.locals m ∧ m y = some u
section
variable {X : Cx} {pins : List (Addr × Obj)} {σ : L2.St} {H : Hp} {s : Shared}
theorem set_raw {M : Model} {A : Around} {E : Value → Shared → Prop} {i : Nat} {x : Str} {v : V} {u : Value} {Q : Unit → Shared → Prop} (I : Inv X pins σ H s) (hN : X.N.Nodup) (hi : X.N[i]? = some x) (hk : X.env.kindOf x = some .local) (r : RelV v u)
    (h : ∀ s', Inv X pins (σ.set i (some v)) H s' → RawAt X s' x u → (∀ y w, y ≠ x → RawAt X s y w → RawAt X s' y w) → s'.toks = s.toks + 1 → Q () s') : wpAny M A (storeName X.env x u) Q E s := by
  obtain ⟨m, hn, hl⟩ := id I.loc
  have hcls : (X.env.scope.kind == .class || (X.env.scope.kind == .module && X.env.locals != X.env.globals)) = false := by rw [I.ok.kind]; rfl
  have hiσ : i < σ.length := by rw [I.len]; exact (List.getElem?_eq_some_iff.mp hi).1
  refine wpAny_storeName_local hk hn (fun h' hn' hs => ?_) hcls
  obtain ⟨oL, _, _, hoL, _⟩ := id hn
  have old : ∀ b o, X.s_0.heap.get? b = some o → b ≠ X.env.locals := fun b o e => Nat.ne_of_lt (Nat.lt_of_lt_of_le (Heap.lt_size e) I.ok.above)
  refine h _ ⟨I.ok, I.os, I.bare, ⟨fun b o e n hb hx => (hs.2 b (old b o e)).trans (I.base.keep b o e n hb hx), fun b o e n hb hx => ?_, I.base.free, fun b o e hx => ?_, I.base.tups, I.base.frzs, I.base.tbls⟩, ⟨_, hn', fun j y v' e1 e2 e3 => ?_⟩, fun y c e => ?_, I.free, I.freeC, fun p hp => ?_, fun b ob e => ?_, by simpa using I.len⟩
    ⟨_, hn', if_pos rfl⟩ (fun y w hne ⟨m2, hn2, e2⟩ => ⟨_, hn', by rw [if_neg hne, ns_fun hn hn2 y, e2]⟩) rfl
  · obtain ⟨sl, e1⟩ := I.base.slot b o e n hb hx
    exact ⟨sl, (hs.2 b (old b o e)).trans e1⟩
  · obtain ⟨o', e1⟩ := I.base.there b o e hx
    exact ⟨o', (hs.2 b (old b o e)).trans e1⟩
  · by_cases hj : j = i
    · subst hj
      rw [hi] at e1
      cases e1
      rw [List.getElem?_set_self hiσ] at e2
      cases e2
      exact ⟨u, r, .inl ⟨hk, if_pos rfl⟩⟩
    · rw [List.getElem?_set_ne (Ne.symm hj)] at e2
      obtain ⟨u', r', q⟩ := hl j y v' e1 e2 e3
      refine ⟨u', r', ?_⟩
      rcases q with ⟨k, e⟩ | ⟨k, c, e, z⟩
      · have ny : y ≠ x := fun e => hj (nodup_ix hN e1 (e ▸ hi))
        exact .inl ⟨k, (if_neg ny).trans e⟩
      · exact .inr ⟨k, c, e, z.sameBut hs (I.cne y c e)⟩
  · obtain ⟨w', z⟩ := I.cell y c e
    exact ⟨w', z.sameBut hs (I.cne y c e)⟩
  · obtain ⟨e, n, ne, nf, d⟩ := I.pin p hp
    exact ⟨(hs.2 p.1 ne).trans e, n, ne, nf, d⟩
  · refine (I.hok b ob e).stay (fun c w' hc q => (hs.2 c ?_).trans q) (fun _ q => q) fun _ _ q => q
    intro z
    subst z
    rcases hc with hc | hc
    · rw [← hc, I.free] at e
      cases e
    · rw [I.free] at hc
      cases hc
theorem raw_after {Q : VK} {u : Value} {s' : Shared} (I : Inv X pins σ H s) (h : CE X.stack X.prog X.w H s Q u s') {y : Str} {w : Value} (r : RawAt X s y w) : RawAt X s' y w := by
  obtain ⟨v, H', os, bare, un, _⟩ := h
  obtain ⟨m, ⟨o, es, ep, ho, rr⟩, e⟩ := r
  obtain ⟨sl, hL⟩ := un.any ho I.free (by simp)
  exact ⟨m, ⟨_, es, ep, hL, rr⟩, e⟩
theorem raw_var {M : Model} {A : Around} {y : Str} {u : Value} {pos : Pos} {Q E : Value → Shared → Prop} (I : Inv X pins σ H s) (r : RawAt X s y u) (hk : X.env.kindOf y = some .local) (h : Q u s) (hd : (y == ("__debug__" : Str)) = false := by decide) : wpAny M A (eval (.Name y pos) X.env) Q E s := by
  obtain ⟨m, hn, hm⟩ := r
  exact wpAny_Name (wpAny_loadName_local I.ok.kind hk hn hm h) hd
/-- text[take(box, len(text))]: a sign of it, its token told -/
theorem raw_item {i : Nat} {x : Str} {l : List Nat} {b aT : Addr} {fdT : FuncData} {p1 p2 p3 p4 p5 p6 p7 p8 : Pos} {Q : Value → Shared → Prop} (GT : FnOk X.prog X.w X.K X.mg X.base CX0 1 aT fdT ["_law_box_here", "_law_size"] spTake) (hr : Room 1 X.A)
    (hgT : Gl X "_law_take") (hmT : X.mg "_law_take" = some (.ref aT)) (hkT : PySem.W.keepIn X.K (.ref aT) = true) (bT : Binds X.K fdT ["_law_box_here", "_law_size"] []) (hgL : Gl X "len") (hmL : X.mg "len" = none)
    (hN : X.N[i]? = some x) (hv : Vis X.env.scope x) (hNb : X.N[0]? = some ("_law_box_here" : Str)) (hvb : Vis X.env.scope "_law_box_here") (dx : (x == ("__debug__" : Str)) = false) (cx : (x == ("__classdict__" : Str)) = false)
    (I : Inv X pins σ H s) (hσ : σ[i]? = some (some (.str (S l)))) (hb0 : σ[0]? = some (some (.ref b))) (hB : Box H b) (h0 : 0 < l.length) (h1 : l.length ≤ 1000)
    (k : ∀ (c : Nat) (H' : Hp) (s' : Shared), c ∈ l → Box H' b → Kp b H H' → Inv X pins σ H' { s' with toks := s'.toks + 1 } → 1 ≤ s'.toks → s.toks ≤ s'.toks → (∀ y w, RawAt X s y w → RawAt X { s' with toks := s'.toks + 1 } y w) → Q (.str ⟨#[c]⟩ s'.toks) { s' with toks := s'.toks + 1 }) :
    wpAny (model X.prog X.w) X.A (eval (.Subscript (.Name x p1) (.Call (.Name "_law_take" p2) [.Name "_law_box_here" p3, .Call (.Name "len" p4) [.Name x p5] [] p6] [] p7) p8) X.env) Q X.xe s := by
  refine Subscript_ (raw_name hN hv I hσ (fun u0 r0 => ?_) dx cx)
  obtain ⟨tz, rfl⟩ := r0
  refine wpAny_Call_Name_kw (ld_glob I hgT hmT ?_)
  refine PySem.W.callWith_K (h₀ := X.base) I.ok.mod.kin hkT ?_ rfl rfl
  show wpAny _ _ (spliced ((false, eval (.Name "_law_box_here" p3) X.env) :: (false, eval (.Call (.Name "len" p4) [.Name x p5] [] p6) X.env) :: [])) _ _ _
  refine Calls.spliced_cons (raw_name hNb hvb I hb0 (fun u1 r1 => ?_))
  obtain rfl : u1 = Value.ref b := r1
  refine Calls.spliced_cons (wpAny_Call_Name_kw (ld_blt I hgL hmL (u := .builtin "len") (by decide +kernel) ?_ (by decide) (by decide)))
  refine PyProof.Rows.callWith_builtin1 ?_ rfl rfl
  show wpAny _ _ (spliced ((false, eval (.Name x p5) X.env) :: [])) _ _ _
  refine Calls.spliced_cons (raw_name hN hv I hσ (fun u2 r2 => Calls.spliced_nil ?_) dx cx)
  obtain ⟨t2, rfl⟩ := r2
  have hl := S_len l
  have hn63 := line63
  refine len_str (by rw [hl]; omega) (Calls.spliced_nil ⟨(I.tok _).kIn, ?_⟩)
  have I1 := I.tok (s.toks + 1 + 1)
  have rv : Vals [V.ref b, .int (l.length : Nat)] [Value.ref b, .int ((S l).length : Nat) (s.toks + 1)] := .cons rfl (.cons ⟨_, by rw [hl]⟩ .nil)
  have run := GT.run X.A X.stack { s with toks := s.toks + 1 + 1 } H ⟨[.ref b, .int ((S l).length : Nat) (s.toks + 1)], []⟩ [.ref b, .int ((S l).length : Nat) (s.toks + 1)] [V.ref b, .int (l.length : Nat)]
    (fun v H' => ∃ r : Nat, v = .int r ∧ r < l.length ∧ Box H' b ∧ Kp b H H') (fun _ _ _ => False) hr I1.env0 (bT _ _ I1.kIn rfl) rv
    ⟨b, _, rfl, hB, by omega, by omega, fun r H' h2 h3 h4 => ⟨r, rfl, by omega, h3, h4⟩⟩
  refine wpAny_mono (PySem.wpAny_toks (wpAny_call (Q := fun u s' => CE X.stack X.prog X.w H { s with toks := s.toks + 1 + 1 } (fun v H' => ∃ r : Nat, v = .int r ∧ r < l.length ∧ Box H' b ∧ Kp b H H') u s') (E := X.xe) (codeAny_mono run fun r s' hq => ?_))) (fun u s3 hu => ?_) fun _ _ z => z.2
  · cases r with
    | error e => exact hq.elim
    | ok fl =>
      cases fl with
      | ret u => exact hq
      | next => exact False.elim hq
      | brk => exact False.elim hq
      | cont => exact False.elim hq
  · obtain ⟨ht, hce⟩ := hu
    have hraw : ∀ y w, RawAt X s y w → RawAt X s3 y w := fun y w z => raw_after I1 hce (y := y) (w := w) z
    obtain ⟨v, H3, I3, r3, r, rfl, hlt, hB3, hk3⟩ := I1.after hce
    obtain ⟨t3, rfl⟩ := r3
    have ht2 : s.toks + 1 + 1 ≤ s3.toks := ht
    obtain ⟨c, hc⟩ : ∃ c, l[r]? = some c := ⟨_, List.getElem?_eq_getElem hlt⟩
    have e1 : decide ((r : Int) < -(2 ^ 63 : Int)) = false := decide_eq_false (by omega)
    have e2 : decide ((r : Int) ≥ 2 ^ 63) = false := decide_eq_false (by omega)
    refine tail_any (typeIs_str s3 (S l) tz) slot_str_getitem.lookup (getItem_str (c := c) (by rw [e1, e2]; rfl) ?_ (k c H3 s3 (List.mem_of_getElem? hc) hB3 hk3 (I3.tok _) (by omega) (by omega) hraw)) rfl
    obtain ⟨j, q1, q2, _⟩ := atI_get (atI_nat hc)
    rw [hl, q1]
    exact S_get.mpr q2
/-- text.replace(old, new), their tokens told -/
theorem raw_repl {i : Nat} {x z : Str} {c d : Nat} {t u : Tok} {p1 p2 p3 p4 p5 : Pos} {Q : Value → Shared → Prop} (hN : X.N[i]? = some x) (hv : Vis X.env.scope x) (dx : (x == ("__debug__" : Str)) = false) (cx : (x == ("__classdict__" : Str)) = false) (I : Inv X pins σ H s)
    (hσ : σ[i]? = some (some (.str z))) (ro : RawAt X s "_law_old" (.str ⟨#[c]⟩ t)) (rn : RawAt X s "_law_new" (.str ⟨#[d]⟩ u)) (ht : t ≠ 0) (hu : u ≠ 0) (htu : t ≠ u) (hcd : c ≠ d) (hz : z.length ≤ 1000)
    (ko : X.env.kindOf "_law_old" = some .local) (kn : X.env.kindOf "_law_new" = some .local) (hline : (p2.endLine == p5.line) = true) (k : ∀ t' tk, Q (.str (Txt.replace z ⟨#[c]⟩ ⟨#[d]⟩) t') { s with toks := tk }) :
    wpAny (model X.prog X.w) X.A (eval (.Call (.Attribute (.Name x p1) "replace" p2) [.Name "_law_old" p3, .Name "_law_new" p4] [] p5) X.env) Q X.xe s := by
  refine PySem.Call_method2 rfl rfl hline (raw_name hN hv I hσ (fun v r => ?_) dx cx)
  obtain ⟨tx, rfl⟩ := r
  refine ⟨"str", _, F.plainAttrs_str, F.slot_str_replace, F.type_str_replace, typeIs_str _ _ _, (fun _ e => nomatch e), Calls.callWith_builtin rfl (Calls.evalArgs_plain (Calls.spliced_cons ?_))⟩
  refine raw_var I ro ko (Calls.spliced_cons (raw_var I rn kn (Calls.spliced_nil ?_)))
  have h1 : (⟨#[d]⟩ : Str).length = 1 := S_len [d]
  refine PySem.SC.replace ht hu htu ?_ (by rw [h1]; omega) fun t' k' => k t' k'
  refine beq_eq_false_iff_ne.mpr fun e => hcd ?_
  have e2 : [c] = [d] := S_inj.mp e
  exact List.head_eq_of_cons_eq e2
def tSwap : TS := fun D σ H => ∃ (b : Addr) (l v r : List Nat), σ[0]? = some (some (.ref b)) ∧ σ[1]? = some (some (.str (S l))) ∧ σ[2]? = some (some (.str (S v))) ∧ σ[4]? = some (some (.str (S r))) ∧ Box H b ∧ 0 < l.length ∧ l.length ≤ 1000 ∧ v.length ≤ 1000 ∧ 0 < r.length ∧ r.length ≤ 1000 ∧
  (∀ c ∈ l, c ∉ r) ∧ ∀ c ∈ l, ∀ d ∈ r, ∀ H', Box H' b → Kp b H H' → ∀ p, H' p = none → D.rt (.ref p) (upd H' p (.tup [.str (Txt.replace (S l) (S [c]) (S [d])), .str (Txt.replace (S v) (S [c]) (S [d]))]))
theorem pss_swap {aT : Addr} {fdT : FuncData} {a1 a2 a3 a4 a5 a6 a7 a8 a9 a10 b1 b2 b3 b4 b5 b6 b7 b8 b9 b10 c1 c2 c3 c4 c5 d1 d2 d3 d4 d5 e1 e2 : Pos} {kt : _} (GT : FnOk X.prog X.w X.K X.mg X.base CX0 1 aT fdT ["_law_box_here", "_law_size"] spTake) (hr : Room 1 X.A)
    (hgT : Gl X "_law_take") (hmT : X.mg "_law_take" = some (.ref aT)) (hkT : PySem.W.keepIn X.K (.ref aT) = true) (bT : Binds X.K fdT ["_law_box_here", "_law_size"] []) (hgL : Gl X "len") (hmL : X.mg "len" = none)
    (hN : X.N = (["_law_box_here", "_law_letters", "_law_vowels", "_law_way", "_law_rest", "_law_char_here", "_law_old", "_law_new"] : List Str)) (hv0 : Vis X.env.scope "_law_box_here") (hv1 : Vis X.env.scope "_law_letters") (hv2 : Vis X.env.scope "_law_vowels") (hv4 : Vis X.env.scope "_law_rest")
    (ko : X.env.kindOf "_law_old" = some .local) (kn : X.env.kindOf "_law_new" = some .local) (hl1 : (c2.endLine == c5.line) = true) (hl2 : (d2.endLine == d5.line) = true) :
    PSs X [.Assign [.Name "_law_old" a1] (.Subscript (.Name "_law_letters" a3) (.Call (.Name "_law_take" a4) [.Name "_law_box_here" a5, .Call (.Name "len" a6) [.Name "_law_letters" a7] [] a8] [] a9) a10) a2,
      .Assign [.Name "_law_new" b1] (.Subscript (.Name "_law_rest" b3) (.Call (.Name "_law_take" b4) [.Name "_law_box_here" b5, .Call (.Name "len" b6) [.Name "_law_rest" b7] [] b8] [] b9) b10) b2,
      .Return (some (.Tuple [.Call (.Attribute (.Name "_law_letters" c1) "replace" c2) [.Name "_law_old" c3, .Name "_law_new" c4] [] c5, .Call (.Attribute (.Name "_law_vowels" d1) "replace" d2) [.Name "_law_old" d3, .Name "_law_new" d4] [] d5] kt e1)) e2] tSwap := by
  refine ⟨fun pins s σ H D I h => ?_⟩
  obtain ⟨b, l, v, r, h0, h1, h2, h4, hB, l0, l1, v1, r0, r1, hne, k⟩ := h
  have hnd : X.N.Nodup := by rw [hN]; decide +kernel
  refine wpAny_execs_cons (wpAny_Assign_Name (raw_item (i := 1) GT hr hgT hmT hkT bT hgL hmL (by rw [hN]; rfl) hv1 (by rw [hN]; rfl) hv0 (by decide) (by decide) I h1 h0 hB l0 l1 (fun c H1 s1 hc hB1 hk1 I1 t1 _ _ => ?_)) rfl)
  refine set_raw (i := 6) (v := .str (S [c])) I1 hnd (by rw [hN]; rfl) ko ⟨_, rfl⟩ (fun s2 I2 ra _ ht => ?_)
  have ht' : s2.toks = s1.toks + 1 + 1 := ht
  refine wpAny_execs_cons (wpAny_Assign_Name (raw_item (i := 4) GT hr hgT hmT hkT bT hgL hmL (by rw [hN]; rfl) hv4 (by rw [hN]; rfl) hv0 (by decide) (by decide) I2 (by rw [List.getElem?_set_ne (by decide)]; exact h4) (by rw [List.getElem?_set_ne (by decide)]; exact h0) hB1 r0 r1 (fun d H2 s3 hd hB2 hk2 I3 t3 t3' rk => ?_)) rfl)
  refine set_raw (i := 7) (v := .str (S [d])) I3 hnd (by rw [hN]; rfl) kn ⟨_, rfl⟩ (fun s4 I4 rb ro ht4 => ?_)
  have ra4 : RawAt X s4 "_law_old" (.str ⟨#[c]⟩ s1.toks) := ro _ _ (by decide) (rk _ _ ra)
  have hcd : c ≠ d := fun z => hne c hc (z ▸ hd)
  have z1 : s1.toks ≠ 0 := by omega
  have z3 : s3.toks ≠ 0 := by omega
  have z13 : s1.toks ≠ s3.toks := by
    have q : s2.toks ≤ s3.toks := t3'
    omega
  have e1 : (((σ.set 6 (some (.str (S [c])))).set 7 (some (.str (S [d]))))[1]? : Option (Option V)) = some (some (.str (S l))) := by rw [List.getElem?_set_ne (by decide), List.getElem?_set_ne (by decide)]; exact h1
  have e2 : (((σ.set 6 (some (.str (S [c])))).set 7 (some (.str (S [d]))))[2]? : Option (Option V)) = some (some (.str (S v))) := by rw [List.getElem?_set_ne (by decide), List.getElem?_set_ne (by decide)]; exact h2
  refine wpAny_execs_cons (wpAny_Return_some (wpAny_Tuple_spliced ?_))
  show wpAny _ _ (spliced ((false, eval (.Call (.Attribute (.Name "_law_letters" c1) "replace" c2) [.Name "_law_old" c3, .Name "_law_new" c4] [] c5) X.env) :: (false, eval (.Call (.Attribute (.Name "_law_vowels" d1) "replace" d2) [.Name "_law_old" d3, .Name "_law_new" d4] [] d5) X.env) :: [])) _ _ s4
  refine Calls.spliced_cons (raw_repl (i := 1) (by rw [hN]; rfl) hv1 (by decide) (by decide) I4 e1 ra4 rb z1 z3 z13 hcd (by rw [S_len]; exact l1) ko kn hl1 (fun ta tk => ?_))
  refine Calls.spliced_cons (raw_repl (i := 2) (by rw [hN]; rfl) hv2 (by decide) (by decide) (I4.tok tk) e2 ra4 rb z1 z3 z13 hcd (by rw [S_len]; exact v1) ko kn hl2 (fun tb tk2 => Calls.spliced_nil ⟨(by show 2 ≤ sizeLine; decide), ?_⟩))
  have I5 := I4.tok tk2
  have hf : H2 s4.heap.objs.size = none := I5.hok.fresh (Nat.le_refl _)
  refine ⟨.ref s4.heap.objs.size, _, upd H2 s4.heap.objs.size (.tup [.str (Txt.replace (S l) (S [c]) (S [d])), .str (Txt.replace (S v) (S [c]) (S [d]))]), I5.laid (t' := tk2) (fun b u e => Heap.get?_push_of_some _ e) (Nat.le_refl _) ?_, rfl, k c hc d hd H2 hB2 (hk1.trans hk2) _ hf⟩
  refine ⟨(by show 2 ≤ sizeLine; decide), [.str (Txt.replace (S l) (S [c]) (S [d])) ta, .str (Txt.replace (S v) (S [c]) (S [d])) tb], .cons ⟨_, rfl⟩ (.cons ⟨_, rfl⟩ .nil), ⟨_, Heap.get?_push_size _ rfl, rfl, _, rfl⟩⟩
end
end Vk

set_option Elab.async false
set_option linter.all false
set_option maxRecDepth 100000
set_option maxHeartbeats 4000000
namespace Vk
open PySem PySem.Spec PyProof.Rows L2
abbrev sSecond : Stmt := top 15
def swapL (c d : Nat) (l : List Nat) : List Nat := l.map fun x => if x = c then d else x
theorem repl_swap {c d : Nat} : ∀ l : List Nat, StrLaws.replL [c] [d] l = swapL c d l
  | [] => StrLaws.replL_nil
  | x :: r => by
    by_cases h : x = c
    · subst h
      rw [StrLaws.replL_hit (by simp) (by simp)]
      show [d] ++ StrLaws.replL [x] [d] r = _
      rw [repl_swap r]
      unfold swapL
      rw [List.map_cons, if_pos rfl]
      rfl
    · rw [StrLaws.replL_miss (by simpa using h), repl_swap r]
      unfold swapL
      rw [List.map_cons, if_neg h]
theorem replace_S {c d : Nat} (l : List Nat) : Txt.replace (S l) (S [c]) (S [d]) = S (swapL c d l) := by
  have h := StrLaws.replace_list (x := S l) (y := S [c]) (z := S [d]) (by rw [S_len]; exact Nat.le_refl 1)
  rw [S_cps, S_cps, S_cps, repl_swap] at h
  rw [S_of (Txt.replace (S l) (S [c]) (S [d])), h]
structure Good (l v : List Nat) : Prop where
  lo : 1 ≤ l.length
  hi : l.length ≤ 4
  dl : Differ l azL
  dv : Differ v l
theorem Good.len {l v : List Nat} (g : Good l v) : v.length ≤ 4 := by
  have h : v.length ≤ l.length := by
    have key : ∀ {v l : List Nat}, v.Nodup → (∀ c ∈ v, c ∈ l) → v.length ≤ l.length := by
      intro v
      induction v with
      | nil => intro l _ _; exact Nat.zero_le _
      | cons c v ih =>
        intro l hn hs
        obtain ⟨h1, h2⟩ := List.nodup_cons.mp hn
        have hc : c ∈ l := hs c List.mem_cons_self
        have ih := ih (l := l.erase c) h2 fun d hd => (List.mem_erase_of_ne (fun (z : d = c) => h1 (z ▸ hd))).mpr (hs d (List.mem_cons_of_mem _ hd))
        rw [List.length_erase_of_mem hc] at ih
        have := List.length_pos_of_mem hc
        rw [List.length_cons]
        omega
    exact key g.dv.1 g.dv.2
  have := g.hi
  omega
theorem Good.due {l v : List Nat} (g : Good l v) : dueT l v = "" := by
  unfold dueT
  rw [if_neg (fun z => z.elim (fun z => by have := g.lo; omega) fun z => z.elim (fun z => by have := g.hi; omega) fun z => z g.dl), if_neg (fun z => z g.dv)]
theorem good_of {l v : List Nat} (h : dueT l v = "") : Good l v := by
  unfold dueT at h
  by_cases h1 : l.length < 1 ∨ 4 < l.length ∨ ¬ Differ l azL
  · rw [if_pos h1] at h
    exact absurd h (by decide +kernel)
  · rw [if_neg h1] at h
    by_cases h2 : Differ v l
    · exact ⟨by omega, by omega, Classical.byContradiction fun z => h1 (.inr (.inr z)), h2⟩
    · rw [if_pos h2] at h
      exact absurd h (by decide +kernel)
theorem pick_sub {p t : List Nat} (h : ∃ q, (p ++ q).Perm t) (hn : t.Nodup) : Differ p t := by
  obtain ⟨q, h⟩ := h
  have h1 := h.nodup_iff.mpr hn
  exact ⟨(List.nodup_append.mp h1).1, fun c hc => h.mem_iff.mp (List.mem_append_left _ hc)⟩
theorem pick_all {p t : List Nat} (h : ∃ q, (p ++ q).Perm t) (hl : p.length = t.length) : p.Perm t := by
  obtain ⟨q, h⟩ := h
  have h1 := h.length_eq
  rw [List.length_append] at h1
  have h2 : q = [] := List.length_eq_zero_iff.mp (by omega)
  rw [h2, List.append_nil] at h
  exact h
theorem Differ.trans {a b c : List Nat} (h : Differ a b) (k : ∀ x ∈ b, x ∈ c) : Differ a c := ⟨h.1, fun x hx => k x (h.2 x hx)⟩
def restL (l : List Nat) : List Nat := azL.filter fun c => !decide (c ∈ l)
theorem mem_rest {l : List Nat} {c : Nat} : c ∈ restL l ↔ c ∈ azL ∧ c ∉ l := by
  unfold restL
  rw [List.mem_filter]
  simp
theorem rest_pos {l : List Nat} (h : l.length ≤ 4) : 0 < (restL l).length := by
  refine Nat.pos_of_ne_zero fun z => ?_
  have hz : restL l = [] := List.length_eq_zero_iff.mp z
  have hs : ∀ c ∈ azL, c ∈ l := fun c hc => Classical.byContradiction fun n => by
    have : c ∈ restL l := mem_rest.mpr ⟨hc, n⟩
    rw [hz] at this
    cases this
  have h1 : azL.length ≤ l.length := by
    have key : ∀ {v l : List Nat}, v.Nodup → (∀ c ∈ v, c ∈ l) → v.length ≤ l.length := by
      intro v
      induction v with
      | nil => intro l _ _; exact Nat.zero_le _
      | cons c v ih =>
        intro l hn hs
        obtain ⟨h1, h2⟩ := List.nodup_cons.mp hn
        have hc : c ∈ l := hs c List.mem_cons_self
        have ih := ih (l := l.erase c) h2 fun d hd => (List.mem_erase_of_ne (fun (z : d = c) => h1 (z ▸ hd))).mpr (hs d (List.mem_cons_of_mem _ hd))
        rw [List.length_erase_of_mem hc] at ih
        have := List.length_pos_of_mem hc
        rw [List.length_cons]
        omega
    exact key az_nodup hs
  rw [az_len] at h1
  omega
theorem rest_len (l : List Nat) : (restL l).length ≤ 26 := by
  have := List.length_filter_le (fun c => !decide (c ∈ l)) azL
  rw [az_len] at this
  exact this
theorem swap_mem {c d x : Nat} {l : List Nat} (h : x ∈ l) : (if x = c then d else x) ∈ swapL c d l := List.mem_map.mpr ⟨x, h, rfl⟩
theorem swap_nodup {c d : Nat} {l m : List Nat} (hd : d ∉ m) (hs : ∀ x ∈ l, x ∈ m) (hn : l.Nodup) : (swapL c d l).Nodup := by
  unfold swapL
  refine List.pairwise_map.mpr (List.Pairwise.imp_of_mem (R := (· ≠ ·)) (fun {a b} ha hb hab => ?_) hn)
  intro e
  by_cases h1 : a = c
  · by_cases h2 : b = c
    · exact hab (h1.trans h2.symm)
    · rw [if_pos h1, if_neg h2] at e
      exact hd (e ▸ hs b hb)
  · by_cases h2 : b = c
    · rw [if_neg h1, if_pos h2] at e
      exact hd (e ▸ hs a ha)
    · rw [if_neg h1, if_neg h2] at e
      exact hab e
theorem good_swap {l v : List Nat} {c d : Nat} (g : Good l v) (hc : c ∈ l) (hd : d ∈ restL l) : Good (swapL c d l) (swapL c d v) := by
  obtain ⟨h1, h2⟩ := mem_rest.mp hd
  have hl : (swapL c d l).length = l.length := List.length_map _
  refine ⟨by rw [hl]; exact g.lo, by rw [hl]; exact g.hi, ⟨swap_nodup h2 (fun _ h => h) g.dl.1, fun x hx => ?_⟩, ⟨swap_nodup h2 g.dv.2 g.dv.1, fun x hx => ?_⟩⟩
  · obtain ⟨y, hy, rfl⟩ := List.mem_map.mp hx
    split
    · exact h1
    · exact g.dl.2 y hy
  · obtain ⟨y, hy, rfl⟩ := List.mem_map.mp hx
    exact swap_mem (g.dv.2 y hy)
theorem kpS {H H' : Hp} (h : Same H H') (a : Addr) : Kp a H H' := fun c o _ e => h c o e
section
variable {P : Program} {w : World} {K : PySem.W.Frag} {mg : Str → Option Value} {base : Heap} {aDiff aBox aTake aPick aChar : Addr}
def spSecond : Sp := fun vs H Q _ => ∃ (b : Addr) (l v : List Nat), vs = [.ref b, .str (S l), .str (S v)] ∧ Box H b ∧ Good l v ∧
  ∀ (p : Addr) (H' : Hp) (l2 v2 : List Nat), Good l2 v2 → H p = none → H' p = some (.tup [.str (S l2), .str (S v2)]) → Kp b H H' → Q (.ref p) H'
theorem scSecond : FnScope ["_law_box_here", "_law_letters", "_law_vowels", "_law_way", "_law_rest", "_law_char_here", "_law_old", "_law_new"] ["_law_box_here", "_law_letters", "_law_vowels"] (defScope sSecond) := ⟨rfl, rfl, rfl, by decide +kernel, rfl, by decide +kernel, by decide +kernel⟩
theorem ok_second {f : Addr} {fd fdT fdP : FuncData} (F : Fun K "_law_second" "_law_second" sSecond f fd) (T : TxA K mg aDiff aBox aTake aPick aChar) (FTake : Fun K "_law_take" "_law_take" sTake aTake fdT) (bTake : Binds K fdT ["_law_box_here", "_law_size"] [])
    (FPick : Fun K "_law_pick" "_law_pick" sPick aPick fdP) (bPick : Binds K fdP ["_law_box_here", "_law_string", "_law_many"] []) :
    FnOk P w K mg base CX0 3 f fd ["_law_box_here", "_law_letters", "_law_vowels"] spSecond := by
  have GTake : FnOk P w K mg base CX0 1 aTake fdT ["_law_box_here", "_law_size"] spTake := ok_take FTake T
  have GPick : FnOk P w K mg base CX0 2 aPick fdP ["_law_box_here", "_law_string", "_law_many"] spPick := ok_pick FPick T FTake bTake
  refine F.ok scSecond (fun vs H Q E h => ?_) (fun cdv A outer s H vs Q E hr h => ?_)
  · obtain ⟨b, l, v, rfl, _⟩ := h
    rfl
  · obtain ⟨b, l, v, rfl, hB, g, k⟩ := h
    refine ⟨_, (pss_cons (ps_set (i := 3) scSecond.nd rfl (Or.inl rfl) (pe_call GTake (hr.mono (by decide)) (by rfl) T.gTake FTake.kp bTake .nil pass0 (pa_cons (pv 0) (pa_cons pe_int pa_nil))))
      (pss_cons (ps_set (i := 4) scSecond.nd rfl (Or.inl rfl) (pe_join pe_str (pe_lc (own := [("_law_char_here", 5)]) (g := gName 5) (by rfl) scSecond.nd (pi_str pe_str) (blkOk_by (own := [("_law_char_here", 5)]) (N := ["_law_box_here", "_law_letters", "_law_vowels", "_law_way", "_law_rest", "_law_char_here", "_law_old", "_law_new"]) (sc := defScope sSecond) (by decide +kernel)) (fun _ _ _ _ _ => pg_name (i := 5) scSecond.nd rfl (Or.inl rfl)) (fun _ _ _ _ _ => (pts_one (pt_cmpR op_notIn_sign (pv 5) (pv 1) rfl))) (fun _ _ _ _ _ => (pv 5)))))
      (pss_cons (ps_if (pt_cmpR op_eq (pv 3) pe_int (nomark _)) (pss_one (ps_ret (pe_tup (pa_cons (pe_call GPick (hr.mono (by decide)) (by rfl) T.gPick FPick.kp bPick .nil pass0 (pa_cons (pv 0) (pa_cons (pv 1) (pa_cons (pe_callB call_len_str (by rfl) T.z_len (by decide +kernel) (pa_cons (pv 1) pa_nil)) pa_nil)))) (pa_cons (pe_call GPick (hr.mono (by decide)) (by rfl) T.gPick FPick.kp bPick .nil pass0 (pa_cons (pv 0) (pa_cons (pv 2) (pa_cons (pe_callB call_len_str (by rfl) T.z_len (by decide +kernel) (pa_cons (pv 2) pa_nil)) pa_nil)))) pa_nil))))) pss_nil)
      (pss_cons (ps_if (pt_cmpR op_eq (pv 3) pe_int (nomark _)) (pss_one (ps_ret (pe_tup (pa_cons (pv 1) (pa_cons (pe_call GPick (hr.mono (by decide)) (by rfl) T.gPick FPick.kp bPick .nil pass0 (pa_cons (pv 0) (pa_cons (pv 1) (pa_cons (pe_call GTake (hr.mono (by decide)) (by rfl) T.gTake FTake.kp bTake .nil pass0 (pa_cons (pv 0) (pa_cons (pe_op op_add (pe_callB call_len_str (by rfl) T.z_len (by decide +kernel) (pa_cons (pv 1) pa_nil)) pe_int) pa_nil))) pa_nil)))) pa_nil))))) pss_nil)
      (pss_cons (ps_if (pt_cmpR op_eq (pv 3) pe_int (nomark _)) (pss_swap (kt := _) GTake (hr.mono (by decide)) (by rfl) T.gTake FTake.kp bTake (by rfl) T.z_len rfl (Or.inl rfl) (Or.inr (Or.inl rfl)) (Or.inl rfl) (Or.inl rfl) rfl rfl rfl rfl) pss_nil)
      (pss_cons (ps_if (PW.pt (pw_and (pt_cmpR op_eq (pv 3) pe_int (nomark _)) (pw_and1 (pt_cmpR op_lt (pe_callB call_len_str (by rfl) T.z_len (by decide +kernel) (pa_cons (pv 1) pa_nil)) pe_int (nomark _))))) (pss_one (ps_ret (pe_tup (pa_cons (pe_op op_add_str (pe_ix ix_str (pv 4) (pe_call GTake (hr.mono (by decide)) (by rfl) T.gTake FTake.kp bTake .nil pass0 (pa_cons (pv 0) (pa_cons (pe_callB call_len_str (by rfl) T.z_len (by decide +kernel) (pa_cons (pv 4) pa_nil)) pa_nil))) (fun _ _ => rfl)) (pv 1)) (pa_cons (pv 2) pa_nil))))) pss_nil)
      (pss_cons (ps_set (i := 1) scSecond.nd rfl (Or.inr rfl) (pe_call GPick (hr.mono (by decide)) (by rfl) T.gPick FPick.kp bPick .nil pass0 (pa_cons (pv 0) (pa_cons pe_str (pa_cons (pe_op op_add pe_int (pe_call GTake (hr.mono (by decide)) (by rfl) T.gTake FTake.kp bTake .nil pass0 (pa_cons (pv 0) (pa_cons pe_int pa_nil)))) pa_nil)))))
      (pss_one (ps_ret (pe_tup (pa_cons (pv 1) (pa_cons (pe_call GPick (hr.mono (by decide)) (by rfl) T.gPick FPick.kp bPick .nil pass0 (pa_cons (pv 0) (pa_cons (pv 1) (pa_cons (pe_call GTake (hr.mono (by decide)) (by rfl) T.gTake FTake.kp bTake .nil pass0 (pa_cons (pv 0) (pa_cons (pe_op op_add (pe_callB call_len_str (by rfl) T.z_len (by decide +kernel) (pa_cons (pv 1) pa_nil)) pe_int) pa_nil))) pa_nil)))) pa_nil)))))))))))), ?_⟩
    have hl4 := g.hi
    have hl1 := g.lo
    have hv4 := g.len
    have hll : (S l).length ≤ sizeLine := sz4 (by rw [S_len]; omega)
    have hvl : (S v).length ≤ sizeLine := sz4 (by rw [S_len]; omega)
    have fin : ∀ (H1 : Hp) (l2 v2 : List Nat), Kp b H H1 → Box H1 b → Good l2 v2 → ∀ p, H1 p = none → Q (.ref p) (upd H1 p (.tup [.str (S l2), .str (S v2)])) := fun H1 l2 v2 hk hb1 hg p hp => by
      have hpb : p ≠ b := fun z => by
        obtain ⟨x, m, hx, _⟩ := hb1
        rw [z, hx] at hp
        cases hp
      have nb : H p = none := by
        cases e : H p with
        | none => rfl
        | some u =>
          rw [hk _ _ hpb e] at hp
          cases hp
      exact k p _ l2 v2 hg nb upd_same (hk.trans (kpS (upd_laid hp) b))
    refine ⟨_, rfl, b, _, rfl, hB, by decide, by decide, fun way H1 hw hB1 hk1 => ?_⟩
    refine ⟨⟨_, rfl⟩, S azL, congrArg V.str az_S, fun D hD => lc_text (fun c => !decide (c ∈ l)) (fun c => V.str (S [c])) (by rw [az_len]; omega) (fun _ => rfl) (fun c hc H3 Q3 _ q => ⟨_, rfl, _, rfl, c, S l, rfl, rfl, _, rfl, by rw [S_cps]; exact q⟩) (fun c hc _ H3 Q3 _ q => ⟨_, rfl, q⟩) ?_⟩
    have hr26 := rest_len l
    have hr0 := rest_pos (l := l) hl4
    obtain ⟨b3, e3⟩ := joinedL (l := restL l) (by omega)
    refine ⟨_, D, (restL l).map fun c => S [c], rfl, rfl, .inl (SqL.of (by rw [List.map_map]; exact upd_same)), b3, ?_⟩
    rw [e3]
    have hk2 := hk1.trans (kpS (upd_laid (o := .lst ((azL.filter fun c => !decide (c ∈ l)).map fun c => V.str (S [c]))) hD) b)
    have hB2 : Box (upd H1 D (.lst ((azL.filter fun c => !decide (c ∈ l)).map fun c => V.str (S [c])))) b := by
      obtain ⟨x, m, hx, hy⟩ := hB1
      exact ⟨x, m, upd_laid hD _ _ hx, hy⟩
    generalize upd H1 D (.lst ((azL.filter fun c => !decide (c ∈ l)).map fun c => V.str (S [c]))) = H2 at hk2 hB2
    have hc : way = 0 ∨ way = 1 ∨ way = 2 ∨ way = 3 ∨ way = 4 := by omega
    have hrl : (S (restL l)).length ≤ sizeLine := sz4 (by rw [S_len]; omega)
    have two : ∀ {x y : V}, ([x, y] : List V).length ≤ sizeLine := by
      intro x y
      show 2 ≤ sizeLine
      decide
    have gA : ∀ {p p2 : List Nat}, (∃ q, (p ++ q).Perm l) → p.length = l.length → (∃ q, (p2 ++ q).Perm v) → Good p p2 := fun {p p2} h1 h2 h3 => by
      have e1 := pick_all h1 h2
      have e2 := pick_sub h1 g.dl.1
      have e3 := pick_sub h3 g.dv.1
      exact ⟨by omega, by omega, e2.trans g.dl.2, e3.1, fun c hc => e1.mem_iff.mpr (g.dv.2 c (e3.2 c hc))⟩
    have gB : ∀ {p : List Nat}, (∃ q, (p ++ q).Perm l) → Good l p := fun h => ⟨hl1, hl4, g.dl, pick_sub h g.dl.1⟩
    have gC : ∀ {p p2 : List Nat}, (∃ q, (p ++ q).Perm azL) → 1 ≤ p.length → p.length ≤ 4 → (∃ q, (p2 ++ q).Perm p) → Good p p2 := fun {p p2} h1 h2 h3 h4 => by
      have e2 := pick_sub h1 az_nodup
      exact ⟨h2, h3, e2, pick_sub h4 e2.1⟩
    have e26 := az_len
    rcases hc with rfl | rfl | rfl | rfl | rfl
    · refine ⟨_, rfl, rfl, _, rfl, iteT ?_⟩
      refine ⟨_, rfl, _, rfl, _, rfl, _, rfl, hll, b, l, l.length, (by rw [S_len]; rfl), hB2, Nat.le_refl _, by omega, fun p H3 hp hper hB3 hk3 => ?_⟩
      refine ⟨_, rfl, _, rfl, _, rfl, _, rfl, hvl, b, v, v.length, (by rw [S_len]; rfl), hB3, Nat.le_refl _, by omega, fun p2 H4 hp2 hper2 hB4 hk4 => ⟨two, fin H4 p p2 (hk2.trans (hk3.trans hk4)) hB4 (gA hper hp hper2)⟩⟩
    · refine ⟨_, rfl, rfl, _, rfl, iteF ⟨_, rfl, rfl, _, rfl, iteT ?_⟩⟩
      refine ⟨_, rfl, _, rfl, _, rfl, _, rfl, _, rfl, _, rfl, hll, _, _, rfl, rfl, b, _, rfl, hB2, by rw [S_len]; omega, by rw [S_len]; omega, fun r H3 hr3 hB3 hk3 => ?_⟩
      rw [S_len] at hr3
      exact ⟨b, l, r, rfl, hB3, by omega, by omega, fun p H4 hp hper hB4 hk4 => ⟨two, fin H4 l p (hk2.trans (hk3.trans hk4)) hB4 (gB hper)⟩⟩
    · refine ⟨_, rfl, rfl, _, rfl, iteF ⟨_, rfl, rfl, _, rfl, iteF ⟨_, rfl, rfl, _, rfl, iteT ?_⟩⟩⟩
      refine ⟨b, l, v, restL l, rfl, rfl, rfl, rfl, hB2, by omega, by omega, by omega, hr0, by omega, fun c hc z => (mem_rest.mp z).2 hc, fun c hc d hd H3 hB3 hk3 p hp => ?_⟩
      rw [replace_S, replace_S]
      exact fin H3 _ _ (hk2.trans hk3) hB3 (good_swap g hc hd) p hp
    · refine ⟨_, rfl, rfl, _, rfl, iteF ⟨_, rfl, rfl, _, rfl, iteF ⟨_, rfl, rfl, _, rfl, iteF ⟨_, rfl, rfl, _, rfl, iteT ⟨_, rfl, _, rfl, hll, _, _, rfl, rfl, _, rfl, ite2 (fun h => ?_) (fun h => ?_)⟩⟩⟩⟩⟩
      · have h3 := of_decide_eq_true h
        rw [S_len] at h3
        refine ⟨_, rfl, _, rfl, _, rfl, _, rfl, hrl, b, _, rfl, hB2, by rw [S_len]; omega, by rw [S_len]; omega, fun r H3 hr3 hB3 hk3 => ?_⟩
        rw [S_len] at hr3
        obtain ⟨c, hc⟩ : ∃ c, (restL l)[r]? = some c := ⟨_, List.getElem?_eq_getElem (by omega)⟩
        have hm := mem_rest.mp (List.mem_of_getElem? hc)
        refine ⟨S (restL l), r, c, rfl, rfl, hrl, by rw [S_cps]; exact atI_nat hc, _, rfl, _, _, rfl, rfl, ?_, _, rfl, two, fun p hp => ?_⟩
        · refine sz4 ?_
          show (S [c]).length + (S l).length ≤ 4000
          rw [S_len, S_len]
          show 1 + l.length ≤ 4000
          omega
        · have e : (⟨#[c]⟩ : Str) ++ S l = S (c :: l) := S_app [c] l
          have q := fin H3 (c :: l) v (hk2.trans hk3) hB3 ⟨by rw [List.length_cons]; omega, by rw [List.length_cons]; omega, ⟨List.nodup_cons.mpr ⟨hm.2, g.dl.1⟩, fun x hx => ?_⟩, g.dv.1, fun x hx => List.mem_cons_of_mem _ (g.dv.2 x hx)⟩ p hp
          · rw [← e] at q
            exact q
          · rcases List.mem_cons.mp hx with rfl | hx
            · exact hm.1
            · exact g.dl.2 x hx
      · refine ⟨_, rfl, _, rfl, b, _, rfl, hB2, by decide, by decide, fun r H3 hr3 hB3 hk3 => ⟨_, _, rfl, rfl, b, azL, 1 + r, by rw [← az_S, Int.natCast_add]; rfl, hB3, by omega, by omega, fun p H4 hp hper hB4 hk4 => ?_⟩⟩
        refine ⟨_, rfl, _, rfl, _, rfl, _, rfl, _, rfl, _, rfl, sz4 (by rw [S_len]; omega), _, _, rfl, rfl, b, _, rfl, hB4, by rw [S_len]; omega, by rw [S_len]; omega, fun r2 H5 hr5 hB5 hk5 => ?_⟩
        rw [S_len] at hr5
        exact ⟨b, p, r2, rfl, hB5, by omega, by omega, fun p2 H6 hp2 hper2 hB6 hk6 => ⟨two, fin H6 p p2 (hk2.trans (hk3.trans (hk4.trans (hk5.trans hk6)))) hB6 (gC hper (by omega) (by omega) hper2)⟩⟩
    · refine ⟨_, rfl, rfl, _, rfl, iteF ⟨_, rfl, rfl, _, rfl, iteF ⟨_, rfl, rfl, _, rfl, iteF ⟨_, rfl, rfl, _, rfl, iteF ?_⟩⟩⟩⟩
      refine ⟨_, rfl, _, rfl, b, _, rfl, hB2, by decide, by decide, fun r H3 hr3 hB3 hk3 => ⟨_, _, rfl, rfl, b, azL, 1 + r, by rw [← az_S, Int.natCast_add]; rfl, hB3, by omega, by omega, fun p H4 hp hper hB4 hk4 => ?_⟩⟩
      refine ⟨_, rfl, _, rfl, _, rfl, _, rfl, _, rfl, _, rfl, sz4 (by rw [S_len]; omega), _, _, rfl, rfl, b, _, rfl, hB4, by rw [S_len]; omega, by rw [S_len]; omega, fun r2 H5 hr5 hB5 hk5 => ?_⟩
      rw [S_len] at hr5
      exact ⟨b, p, r2, rfl, hB5, by omega, by omega, fun p2 H6 hp2 hper2 hB6 hk6 => ⟨two, fin H6 p p2 (hk2.trans (hk3.trans (hk4.trans (hk5.trans hk6)))) hB6 (gC hper (by omega) (by omega) hper2)⟩⟩
end
end Vk

set_option Elab.async false
set_option linter.all false
set_option maxRecDepth 100000
set_option maxHeartbeats 8000000
namespace Vk
open PySem PySem.Spec PyProof.Rows L2
abbrev sLaw : Stmt := top 21
theorem passE {X : Cx} {P : Program} {w : World} : Passes (L2.CX P w) X (fun _ _ _ => False) := fun _ _ _ _ _ _ _ h => by
  obtain ⟨_, _, _, _, _, _, _, _, _, _, _, _, h⟩ := h
  exact h.elim
theorem kp_same {H H1 H2 : Hp} {b : Addr} (s : Same H H1) (hb : H b = none) (k : Kp b H1 H2) : Same H H2 := fun c u e => k c u (ne_of_none e hb) (s _ _ e)
theorem dp_all {K : PySem.W.Frag} {H : Hp} : ∀ ys : List Str, DpAll K H (ys.map V.str) (ys.map PyData.str)
  | [] => .nil
  | y :: ys => .cons (.str y) (dp_all ys)
theorem dp_strs {K : PySem.W.Frag} {H : Hp} {a : Addr} {ys : List Str} (h : SqL K H a (ys.map V.str)) : Dp K H (.ref a) (.list (ys.map PyData.str)) := .lst h (dp_all ys)
theorem can_strs : ∀ ys : List Str, (∀ y ∈ ys, PyData.strOk y = true) → PyData.canLayAll0 (ys.map PyData.str) = true
  | [], _ => by simp [PyData.canLayAll0]
  | y :: r, h => by
    have h1 := h y List.mem_cons_self
    have h2 := can_strs r fun z hz => h z (List.mem_cons_of_mem _ hz)
    simp [PyData.canLayAll0, PyData.canLay0, h1, h2]
theorem dep_strs : ∀ ys : List Str, PyData.depthAll (ys.map PyData.str) = 0
  | [] => by simp [PyData.depthAll]
  | _ :: r => by simp [PyData.depthAll, PyData.depth, dep_strs r]
theorem shaped_strs {ys : List Str} (h : ∀ y ∈ ys, PyData.strOk y = true) : SeqAt.shaped (.list (ys.map PyData.str)) = true := by
  simp [SeqAt.shaped, PyData.canLay0, PyData.depth, can_strs ys h, dep_strs]
theorem ok_signs {l : List Nat} {ys : List Str} (hd : ∀ c ∈ l, c ∈ azL) (hp : ys.Perm (signsOf (S l))) : ∀ y ∈ ys, PyData.strOk y = true := fun y hy => by
  have hm := hp.mem_iff.mp hy
  rw [signs_S] at hm
  obtain ⟨c, hc, rfl⟩ := List.mem_map.mp hm
  have hz : ∀ c ∈ azL, c < 0x110000 := by decide +kernel
  show [c].toArray.all (fun c => decide (c < 0x110000)) = true
  simp
  exact hz c (hd c hc)
theorem due_ok (l v : List Nat) : PyData.strOk (dueT l v) = true := by
  unfold dueT
  split
  · decide +kernel
  · split
    · decide +kernel
    · decide +kernel
theorem eqv_strs (ys zs : List Str) : PyData.eqv (.list (ys.map PyData.str)) (.list (zs.map PyData.str)) = decide (ys = zs) := PySem.W.Datum.eqv (α := List Str) ys zs
theorem shaped_bs {b : Bool} {z : Str} (h : PyData.strOk z = true) : SeqAt.shaped (.tuple [.bool b, .str z]) = true := by
  simp [SeqAt.shaped, PyData.canLay0, PyData.canLayAll0, PyData.depth, PyData.depthAll, h]
theorem eqv_bs (b : Bool) (z : Str) : PyData.eqv (.tuple [.bool b, .str z]) (.tuple [.bool b, .str z]) = true := by
  simp [PyData.eqv, PyData.eqvAll]
theorem srt_dec {l m : List Nat} {ys zs : List Str} (h1 : ys.Perm (signsOf (S l))) (h2 : sortedS ys = true) (h3 : zs.Perm (signsOf (S m))) (h4 : sortedS zs = true) : decide (ys = zs) = decide (srtL l = srtL m) := by
  rw [signs_S] at h1 h3
  rw [sorted_signs h1 h2, sorted_signs h3 h4]
  refine decide_eq_decide.mpr ⟨fun e => ?_, fun e => by rw [e]⟩
  have := congrArg (List.map fun z : Str => z.cps.toList.headD 0) e
  rw [List.map_map, List.map_map] at this
  have e1 : ∀ q : List Nat, q.map ((fun z : Str => z.cps.toList.headD 0) ∘ fun c => S [c]) = q := fun q => by
    refine (List.map_congr_left fun c _ => ?_).trans (List.map_id q)
    show (S [c]).cps.toList.headD 0 = c
    rw [S_cps]
    rfl
  rw [e1, e1] at this
  exact this
theorem aleq_comm {l v l2 v2 : List Nat} : AlEq l2 v2 l v = AlEq l v l2 v2 := by
  unfold AlEq
  rw [decide_eq_decide.mpr (Eq.comm (a := srtL l2) (b := srtL l)), decide_eq_decide.mpr (Eq.comm (a := srtL v2) (b := srtL v))]
theorem aleq_self {l v : List Nat} : AlEq l v l v = true := by
  unfold AlEq
  rw [decide_eq_true rfl, decide_eq_true rfl]
  rfl
theorem aleq_bare {l v : List Nat} : AlEq l [] l v = decide ((V.str (S v)) = V.str "") := by
  unfold AlEq
  rw [decide_eq_true rfl, Bool.true_and]
  have e0 : ("" : Str) = S [] := by decide +kernel
  rw [e0, S_eq_iff]
  refine decide_eq_decide.mpr ⟨fun e => ?_, fun e => by rw [e]⟩
  have := (srtL_congr.mp e).length_eq
  exact List.length_eq_zero_iff.mp this.symm
theorem iteS {c : Bool} {A B : Prop} (hc : c = true) (h : A) : if c = true then A else B := by
  rw [if_pos hc]
  exact h
theorem ne_dec {z : Str} : (!decide ((V.str z) = V.str "")) = decide (z ≠ "") := by
  by_cases h : z = ""
  · subst h
    rw [decide_eq_true rfl, decide_eq_false (fun n => n rfl)]
    rfl
  · rw [decide_eq_true h, decide_eq_false (fun e => h (V.str.inj e))]
    rfl
structure TxL (mg : Str → Option Value) (aSecond aBent aDue aRefused aShows aAlike : Addr) : Prop where
  gSecond : mg "_law_second" = some (.ref aSecond)
  gBent : mg "_law_bent" = some (.ref aBent)
  gDue : mg "_law_due" = some (.ref aDue)
  gRefused : mg "_law_refused" = some (.ref aRefused)
  gShows : mg "_law_shows" = some (.ref aShows)
  gAlike : mg "_law_alike" = some (.ref aAlike)
structure AlC (K : PySem.W.Frag) (C : Addr) (tm tj : Tok) : Prop where
  joint : Con K C "JOINT" (.str "-") (.str "-" tj)
  most : Con K C "MOST" (.int 4) (.int 4 tm)
def spLaw (K : PySem.W.Frag) : Sp := fun vs H Q _ => ∃ (a : Addr) (ns : List Int), vs = [.ref a] ∧ SqL K H a (ns.map V.int) ∧ ns.length ≤ 63 ∧ ∀ H', Q (.bl true) H'
theorem scLaw : FnScope ["_law_script", "_law_box_here", "_law_letters", "_law_vowels", "_law_other", "_law_one", "_law_two", "_law_bare", "_law_equal", "_law_k", "_law_odd", "_law_strange", "_law_due_here"] ["_law_script"] (defScope sLaw) := ⟨rfl, rfl, rfl, by decide +kernel, rfl, by decide +kernel, by decide +kernel⟩
/-- what stands behind the makings -/
structure Std (K : PySem.W.Frag) (C : Addr) (H : Hp) (a : Addr) (ns : List Int) (p x1 x2 x3 : Addr) (l v l2 v2 : List Nat) : Prop where
  sq : SqL K H a (ns.map V.int)
  tp : H p = some (.tup [.str (S l2), .str (S v2)])
  i1 : IsAl C H x1 l v
  i2 : IsAl C H x2 l2 v2
  i3 : IsAl C H x3 l []
theorem Std.same {K : PySem.W.Frag} {C : Addr} {H H' : Hp} {a : Addr} {ns : List Int} {p x1 x2 x3 : Addr} {l v l2 v2 : List Nat} (t : Std K C H a ns p x1 x2 x3 l v l2 v2) (s : Same H H') : Std K C H' a ns p x1 x2 x3 l v l2 v2 :=
  ⟨s.seq t.sq, s _ _ t.tp, t.i1.same s, t.i2.same s, t.i3.same s⟩
section
variable {P : Program} {w : World} {K : PySem.W.Frag} {mg : Str → Option Value} {base : Heap} {aDiff aBox aTake aPick aChar : Addr}
theorem ok_law {f C B fA fB fE TE BT BS aSecond aBent aDue aRefused aShows aAlike : Addr} {mc : Value} {tm tj tl tm2 tj2 : Tok} {fd fdA fdD fdB fdE fdBox fdTake fdPick fdChar fdSecond fdBent fdDue fdRefused fdShows fdAlike : FuncData} {ds1 : List Value}
    (F : Fun K "law" "law" sLaw f fd) (T : TxA K mg aDiff aBox aTake aPick aChar) (L : TxL mg aSecond aBent aDue aRefused aShows aAlike) (A : AlF K C) (AV : AlV K mg C mc tm tj tl) (AC : AlC K C tm2 tj2) (BA : BaF P K mg B fB) (R : RfF K mg B TE BT BS) (M : Mk K C fA)
    (FA : FunD K "__init__" "Alphabet.__init__" (defArgs sAI) (defBody sAI) (defScope sAI) [.str ""] [] fA fdA) (bA : Binds K fdA ["self", "letters", "vowels"] []) (bA1 : Binds K fdA ["self", "letters", "vowels"] ds1) (hd1 : Vals [V.str (S [])] ds1)
    (FE : Fun K "__eq__" "Alphabet.__eq__" sEq fE fdE) (bE : Binds K fdE ["self", "other"] []) (hs : PySem.W.findIn K (.ref C) "__eq__" = some (some (.ref fE))) (hf : PySem.W.isFn K (.ref fE) = true) (hn : PySem.W.notFirst K C (.ref C) = true)
    (FDiff : Fun K "differ_within" "differ_within" sDiff aDiff fdD) (bDiff : Binds K fdD ["text", "allowed"] []) (GB : FnOk P w K mg base CX0 1 fB fdB ["self", "part"] (spBA B)) (bB : Binds K fdB ["self", "part"] [])
    (FBox : Fun K "_law_box" "_law_box" sBox aBox fdBox) (bBox : Binds K fdBox ["_law_script", "_law_k"] []) (FTake : Fun K "_law_take" "_law_take" sTake aTake fdTake) (bTake : Binds K fdTake ["_law_box_here", "_law_size"] [])
    (FPick : Fun K "_law_pick" "_law_pick" sPick aPick fdPick) (bPick : Binds K fdPick ["_law_box_here", "_law_string", "_law_many"] []) (FChar : Fun K "_law_char" "_law_char" sChar aChar fdChar) (bChar : Binds K fdChar ["_law_box_here"] [])
    (FSecond : Fun K "_law_second" "_law_second" sSecond aSecond fdSecond) (bSecond : Binds K fdSecond ["_law_box_here", "_law_letters", "_law_vowels"] []) (FBent : Fun K "_law_bent" "_law_bent" sBent aBent fdBent) (bBent : Binds K fdBent ["_law_box_here", "_law_string"] [])
    (FDue : Fun K "_law_due" "_law_due" sDue aDue fdDue) (bDue : Binds K fdDue ["_law_letters", "_law_vowels"] []) (FRefused : Fun K "_law_refused" "_law_refused" sRef aRefused fdRefused) (bRefused : Binds K fdRefused ["_law_letters", "_law_vowels"] [])
    (FShows : Fun K "_law_shows" "_law_shows" sShows aShows fdShows) (bShows : Binds K fdShows ["_law_alphabet", "_law_letters", "_law_vowels"] []) (FAlike : Fun K "_law_alike" "_law_alike" sAlike aAlike fdAlike) (bAlike : Binds K fdAlike ["_law_one", "_law_two", "_law_due_here"] []) :
    FnOk P w K mg base CX0 6 f fd ["_law_script"] (spLaw K) := by
  have GA : FnOk P w K mg base (L2.CX P w) 3 fA fdA ["self", "letters", "vowels"] (spAl C B) := ok_alph FA T A AV BA FDiff bDiff GB bB
  have GTake : FnOk P w K mg base CX0 1 aTake fdTake ["_law_box_here", "_law_size"] spTake := ok_take FTake T
  have GBox : FnOk P w K mg base CX0 1 aBox fdBox ["_law_script", "_law_k"] (spBox K) := ok_box FBox T
  have GPick : FnOk P w K mg base CX0 2 aPick fdPick ["_law_box_here", "_law_string", "_law_many"] spPick := ok_pick FPick T FTake bTake
  have GSecond : FnOk P w K mg base CX0 3 aSecond fdSecond ["_law_box_here", "_law_letters", "_law_vowels"] spSecond := ok_second FSecond T FTake bTake FPick bPick
  have GBent : FnOk P w K mg base CX0 3 aBent fdBent ["_law_box_here", "_law_string"] spBent := ok_bent FBent T FTake bTake FChar bChar
  have GDue : FnOk P w K mg base CX0 1 aDue fdDue ["_law_letters", "_law_vowels"] spDue := ok_due FDue T
  have GRefused : FnOk P w K mg base CX0 5 aRefused fdRefused ["_law_letters", "_law_vowels"] spRef := ok_ref FRefused T.toZs AV BA R M GA bA
  have GShows : FnOk P w K mg base CX0 1 aShows fdShows ["_law_alphabet", "_law_letters", "_law_vowels"] (spShows C) := ok_shows FShows T A
  have GAlike : FnOk P w K mg base CX0 2 aAlike fdAlike ["_law_one", "_law_two", "_law_due_here"] (spAlike C) := ok_alike FAlike T A AV.gC FE bE hs hf hn
  refine F.ok scLaw (fun vs H Q E h => ?_) (fun cdv A0 outer s H vs Q E hr h => ?_)
  · obtain ⟨a, ns, rfl, _⟩ := h
    rfl
  · obtain ⟨a, ns, rfl, hS, hl63, k⟩ := h
    refine ⟨_, (pss_cons (ps_set (i := 1) scLaw.nd rfl (Or.inl rfl) (pe_call GBox (hr.mono (by decide)) (by rfl) T.gBox FBox.kp bBox .nil pass0 (pa_cons (pv 0) (pa_cons pe_int pa_nil))))
      (pss_cons (ps_set (i := 2) scLaw.nd rfl (Or.inl rfl) (pe_call GPick (hr.mono (by decide)) (by rfl) T.gPick FPick.kp bPick .nil pass0 (pa_cons (pv 1) (pa_cons pe_str (pa_cons (pe_op op_add pe_int (pe_call GTake (hr.mono (by decide)) (by rfl) T.gTake FTake.kp bTake .nil pass0 (pa_cons (pv 1) (pa_cons pe_int pa_nil)))) pa_nil)))))
      (pss_cons (ps_set (i := 3) scLaw.nd rfl (Or.inl rfl) (pe_call GPick (hr.mono (by decide)) (by rfl) T.gPick FPick.kp bPick .nil pass0 (pa_cons (pv 1) (pa_cons (pv 2) (pa_cons (pe_call GTake (hr.mono (by decide)) (by rfl) T.gTake FTake.kp bTake .nil pass0 (pa_cons (pv 1) (pa_cons (pe_op op_add (pe_callB call_len_str (by rfl) T.z_len (by decide +kernel) (pa_cons (pv 2) pa_nil)) pe_int) pa_nil))) pa_nil)))))
      (pss_cons (ps_set (i := 4) scLaw.nd rfl (Or.inl rfl) (pe_call GSecond (hr.mono (by decide)) (by rfl) L.gSecond FSecond.kp bSecond .nil pass0 (pa_cons (pe_call GBox (hr.mono (by decide)) (by rfl) T.gBox FBox.kp bBox .nil pass0 (pa_cons (pv 0) (pa_cons pe_int pa_nil))) (pa_cons (pv 2) (pa_cons (pv 3) pa_nil)))))
      (pss_cons (ps_set (i := 5) scLaw.nd rfl (Or.inl rfl) (pe_make M GA (hr.mono (by decide)) (by rfl) AV.gC bA .nil passE (pa_cons (pv 2) (pa_cons (pv 3) pa_nil))))
      (pss_cons (ps_set (i := 6) scLaw.nd rfl (Or.inl rfl) (pe_make M GA (hr.mono (by decide)) (by rfl) AV.gC bA .nil passE (pa_cons (pe_ix ix_tup (pv 4) pe_int (fun _ _ => rfl)) (pa_cons (pe_ix ix_tup (pv 4) pe_int (fun _ _ => rfl)) pa_nil))))
      (pss_cons (ps_set (i := 7) scLaw.nd rfl (Or.inl rfl) (pe_make M GA (hr.mono (by decide)) (by rfl) AV.gC bA1 hd1 passE (pa_cons (pv 2) pa_nil)))
      (pss_cons (ps_if (PW.pt (pw_or (pt_not (pt_val (pe_call GShows (hr.mono (by decide)) (by rfl) L.gShows FShows.kp bShows .nil pass0 (pa_cons (pv 5) (pa_cons (pv 2) (pa_cons (pv 3) pa_nil)))))) (pw_or1 (pt_not (pt_val (pe_call GShows (hr.mono (by decide)) (by rfl) L.gShows FShows.kp bShows .nil pass0 (pa_cons (pv 6) (pa_cons (pe_ix ix_tup (pv 4) pe_int (fun _ _ => rfl)) (pa_cons (pe_ix ix_tup (pv 4) pe_int (fun _ _ => rfl)) pa_nil))))))))) (pss_one (ps_ret pe_bl)) pss_nil)
      (pss_cons (ps_if (pt_not (pt_val (pe_call GShows (hr.mono (by decide)) (by rfl) L.gShows FShows.kp bShows .nil pass0 (pa_cons (pv 7) (pa_cons (pv 2) (pa_cons pe_str pa_nil)))))) (pss_one (ps_ret pe_bl)) pss_nil)
      (pss_cons (ps_set (i := 8) scLaw.nd rfl (Or.inl rfl) (pe_and (pe_cmpR (op_eqD hr.units) (pe_callB (cr_sortT rfl) (by rfl) T.z_sorted (by decide +kernel) (pa_cons (pv 2) pa_nil)) (pe_callB (cr_sortT rfl) (by rfl) T.z_sorted (by decide +kernel) (pa_cons (pe_ix ix_tup (pv 4) pe_int (fun _ _ => rfl)) pa_nil)) (nomark _)) (pe_one (pe_cmpR (op_eqD hr.units) (pe_callB (cr_sortT rfl) (by rfl) T.z_sorted (by decide +kernel) (pa_cons (pv 3) pa_nil)) (pe_callB (cr_sortT rfl) (by rfl) T.z_sorted (by decide +kernel) (pa_cons (pe_ix ix_tup (pv 4) pe_int (fun _ _ => rfl)) pa_nil)) (nomark _)))))
      (pss_cons (ps_if (PW.pt (pw_or (pt_not (pt_val (pe_call GAlike (hr.mono (by decide)) (by rfl) L.gAlike FAlike.kp bAlike .nil pass0 (pa_cons (pv 5) (pa_cons (pv 6) (pa_cons (pv 8) pa_nil)))))) (pw_or (pt_not (pt_val (pe_call GAlike (hr.mono (by decide)) (by rfl) L.gAlike FAlike.kp bAlike .nil pass0 (pa_cons (pv 6) (pa_cons (pv 5) (pa_cons (pv 8) pa_nil)))))) (pw_or1 (pt_not (pt_val (pe_call GAlike (hr.mono (by decide)) (by rfl) L.gAlike FAlike.kp bAlike .nil pass0 (pa_cons (pv 5) (pa_cons (pv 5) (pa_cons pe_bl pa_nil)))))))))) (pss_one (ps_ret pe_bl)) pss_nil)
      (pss_cons (ps_if (pt_not (pt_val (pe_call GAlike (hr.mono (by decide)) (by rfl) L.gAlike FAlike.kp bAlike .nil pass0 (pa_cons (pv 7) (pa_cons (pv 5) (pa_cons (pe_cmpR op_eq (pv 3) pe_str (nomark _)) pa_nil)))))) (pss_one (ps_ret pe_bl)) pss_nil)
      (pss_cons (ps_for PassesOwn.never rfl (pi_range1 (by rfl) T.z_range (pa_cons pe_int pa_nil)) (pg_name (i := 9) scLaw.nd rfl (Or.inl rfl)) (pss_cons (ps_set (i := 1) scLaw.nd rfl (Or.inl rfl) (pe_call GBox (hr.mono (by decide)) (by rfl) T.gBox FBox.kp bBox .nil pass0 (pa_cons (pv 0) (pa_cons (pe_op op_add pe_int (pv 9)) pa_nil))))
      (pss_cons (ps_set (i := 10) scLaw.nd rfl (Or.inl rfl) (pv 2))
      (pss_cons (ps_if (pt_cmpR op_eq (pe_call GTake (hr.mono (by decide)) (by rfl) T.gTake FTake.kp bTake .nil pass0 (pa_cons (pv 1) (pa_cons pe_int pa_nil))) pe_int (nomark _)) (pss_one (ps_set (i := 10) scLaw.nd rfl (Or.inl rfl) (pe_call GBent (hr.mono (by decide)) (by rfl) L.gBent FBent.kp bBent .nil pass0 (pa_cons (pv 1) (pa_cons (pv 2) pa_nil))))) pss_nil)
      (pss_cons (ps_set (i := 11) scLaw.nd rfl (Or.inl rfl) (pe_call GBent (hr.mono (by decide)) (by rfl) L.gBent FBent.kp bBent .nil pass0 (pa_cons (pv 1) (pa_cons (pv 3) pa_nil))))
      (pss_cons (ps_set (i := 12) scLaw.nd rfl (Or.inl rfl) (pe_call GDue (hr.mono (by decide)) (by rfl) L.gDue FDue.kp bDue .nil pass0 (pa_cons (pv 10) (pa_cons (pv 11) pa_nil))))
      (pss_cons (ps_if (pt_cmpR (op_neD hr.units) (pe_call GRefused (hr.mono (by decide)) (by rfl) L.gRefused FRefused.kp bRefused .nil pass0 (pa_cons (pv 10) (pa_cons (pv 11) pa_nil))) (pe_tup (pa_cons (pe_cmpR op_ne (pv 12) pe_str (nomark _)) (pa_cons (pv 12) pa_nil))) (nomark _)) (pss_one (ps_ret pe_bl)) pss_nil)
      (pss_one (ps_if (PW.pt (pw_and (pt_cmpR op_eq (pv 12) pe_str (nomark _)) (pw_and1 (pt_not (pt_val (pe_call GShows (hr.mono (by decide)) (by rfl) L.gShows FShows.kp bShows .nil pass0 (pa_cons (pe_make M GA (hr.mono (by decide)) (by rfl) AV.gC bA .nil passE (pa_cons (pv 10) (pa_cons (pv 11) pa_nil))) (pa_cons (pv 10) (pa_cons (pv 11) pa_nil))))))))) (pss_one (ps_ret pe_bl)) pss_nil)))))))))
      (pss_cons (ps_if (PW.pt (pw_or (pt_not (pt_val (pe_call GShows (hr.mono (by decide)) (by rfl) L.gShows FShows.kp bShows .nil pass0 (pa_cons (pv 5) (pa_cons (pv 2) (pa_cons (pv 3) pa_nil)))))) (pw_or1 (pt_not (pt_val (pe_call GShows (hr.mono (by decide)) (by rfl) L.gShows FShows.kp bShows .nil pass0 (pa_cons (pv 6) (pa_cons (pe_ix ix_tup (pv 4) pe_int (fun _ _ => rfl)) (pa_cons (pe_ix ix_tup (pv 4) pe_int (fun _ _ => rfl)) pa_nil))))))))) (pss_one (ps_ret pe_bl)) pss_nil)
      (pss_cons (ps_if (PW.pt (pw_or (pt_not (pt_val (pe_callB call_isi (by rfl) T.z_isinstance (by decide +kernel) (pa_cons (ClX.pe_cval (pe_glob (v := .ref C) (by rfl) AV.gC rfl)) (pa_cons (pe_bltn (v := .ty "str") (by rfl) T.z_str (by decide +kernel) rfl) pa_nil))))) (pw_or1 (pt_not (pt_val (pe_callB call_isi (by rfl) T.z_isinstance (by decide +kernel) (pa_cons (ClX.pe_cval (pe_glob (v := .ref C) (by rfl) AV.gC rfl)) (pa_cons (pe_bltn (v := .ty "int") (by rfl) T.z_int (by decide +kernel) rfl) pa_nil)))))))) (pss_one (ps_ret pe_bl)) pss_nil)
      (pss_one (ps_ret (pe_and (pe_cmpR op_eq (ClX.pe_cval (pe_glob (v := .ref C) (by rfl) AV.gC rfl)) pe_str (nomark _)) (pe_and (pe_cmpR op_eq (pe_con (pv 5) rfl) pe_str (nomark _)) (pe_and (pe_cmpR op_eq (ClX.pe_cval (pe_glob (v := .ref C) (by rfl) AV.gC rfl)) pe_int (nomark _)) (pe_one (pe_cmpR op_eq (pe_con (pv 6) rfl) pe_int (nomark _))))))))))))))))))))))), ?_⟩
    have e26 := az_len
    have e0 : ("" : Str) = S [] := by decide +kernel
    -- the draws
    refine ⟨_, rfl, a, ns, 0, rfl, hS, hl63, fun b H1 hb0 hB1 s1 => ?_⟩
    refine ⟨_, rfl, _, rfl, b, _, rfl, hB1, by decide, by decide, fun r H2 hr2 hB2 hk2 => ⟨_, _, rfl, rfl, b, azL, 1 + r, by rw [← az_S, Int.natCast_add]; rfl, hB2, by omega, by omega, fun l H3 hl hper hB3 hk3 => ?_⟩⟩
    refine ⟨_, rfl, _, rfl, _, rfl, _, rfl, _, rfl, sz4 (by rw [S_len]; omega), _, _, rfl, rfl, b, _, rfl, hB3, by rw [S_len]; omega, by rw [S_len]; omega, fun r2 H4 hr4 hB4 hk4 => ?_⟩
    rw [S_len] at hr4
    refine ⟨b, l, r2, rfl, hB4, by omega, by omega, fun v H5 hv hper2 hB5 hk5 => ?_⟩
    have dl := pick_sub hper az_nodup
    have g : Good l v := ⟨by omega, by omega, dl, pick_sub hper2 dl.1⟩
    have s5 := kp_same s1 hb0 (hk2.trans (hk3.trans (hk4.trans hk5)))
    -- the other
    refine ⟨_, rfl, a, ns, 1, rfl, s5.seq hS, hl63, fun b2 H6 hb6 hB6 s6 => ⟨_, rfl, _, rfl, b2, l, v, rfl, hB6, g, fun p H7 l2 v2 g2 hp7 hP hk7 => ?_⟩⟩
    have s7 := Same.trans s5 (kp_same s6 hb6 hk7)
    -- one, two, bare
    have g3 : Good l [] := ⟨g.lo, g.hi, g.dl, List.nodup_nil, fun c hc => by cases hc⟩
    have l4 := g.hi
    have v4 := g.len
    have l4' := g2.hi
    have v4' := g2.len
    refine ⟨_, rfl, _, rfl, fun x1 d8 hx8 hd8 _ => ⟨x1, d8, l, v, rfl, upd_same, by omega, by omega, fun _ H8 hA8 hk8 => ⟨rfl, ?_⟩, fun hne => absurd g.due hne⟩⟩
    have s8 := kp_new hx8 hd8 hk8
    refine ⟨_, rfl, p, _, 0, _, rfl, rfl, SqT.of (s8 _ _ hP), rfl, _, rfl, p, _, 1, _, rfl, rfl, SqT.of (s8 _ _ hP), rfl, fun x2 d9 hx9 hd9 _ => ⟨x2, d9, l2, v2, rfl, upd_same, by omega, by omega, fun _ H9 hA9 hk9 => ⟨rfl, ?_⟩, fun hne => absurd g2.due hne⟩⟩
    have s9 := kp_new hx9 hd9 hk9
    refine ⟨_, rfl, fun x3 d10 hx10 hd10 _ => ⟨x3, d10, l, [], rfl, upd_same, by omega, by decide, fun _ H10 hA10 hk10 => ⟨rfl, ?_⟩, fun hne => absurd g3.due hne⟩⟩
    have s10 := kp_new hx10 hd10 hk10
    have D : Std K C H10 a ns p x1 x2 x3 l v l2 v2 := ⟨(Same.trans s7 (Same.trans s8 (Same.trans s9 s10))).seq hS, (Same.trans s8 (Same.trans s9 s10)) _ _ hP, hA8.same (Same.trans s9 s10), hA9.same s10, hA10⟩
    clear s10 hk10 hd10 hA10 hx10 s9 hk9 hd9 hA9 hx9 s8 hk8 hd8 hA8 hx8 s7 hk7 hP hp7 s6 hB6 hb6 s5 hk5 hB5 hk4 hB4 hk3 hB3 hk2 hB2 s1 hB1 hb0 hS
    have l64 : l.length < 64 := by omega
    have v64 : v.length < 64 := by omega
    have l64' : l2.length < 64 := by omega
    have v64' : v2.length < 64 := by omega
    -- they show what they must
    refine ⟨_, rfl, _, rfl, _, rfl, x1, l, v, rfl, D.i1, l64, v64, fun H11 s11 => ⟨_, rfl, iteF ?_⟩⟩
    replace D := D.same s11
    refine ⟨_, rfl, _, rfl, p, _, 0, _, rfl, rfl, SqT.of D.tp, rfl, _, rfl, p, _, 1, _, rfl, rfl, SqT.of D.tp, rfl, x2, l2, v2, rfl, D.i2, l64', v64', fun H12 s12 => ⟨_, rfl, iteF ?_⟩⟩
    replace D := D.same s12
    refine ⟨_, rfl, _, rfl, x3, l, [], (by rw [e0]; rfl), D.i3, l64, by decide, fun H13 s13 => ⟨_, rfl, iteF ?_⟩⟩
    replace D := D.same s13
    -- are they equal
    refine ⟨_, rfl, S l, rfl, (by rw [S_len]; exact l64), fun ys1 p1 hp1 hs1 n1 => ?_⟩
    replace D := D.same (upd_laid (o := .lst (ys1.map V.str)) n1)
    refine ⟨_, rfl, p, _, 0, _, rfl, rfl, SqT.of D.tp, rfl, S l2, rfl, (by rw [S_len]; exact l64'), fun ys2 p2 hp2 hs2 n2 => ?_⟩
    replace D := D.same (upd_laid (o := .lst (ys2.map V.str)) n2)
    have q1 := upd_laid (o := .lst (ys2.map V.str)) n2 p1 _ upd_same
    refine ⟨_, _, dp_strs (SqL.of q1), dp_strs (SqL.of upd_same), shaped_strs (ok_signs g.dl.2 hp1), shaped_strs (ok_signs g2.dl.2 hp2), ?_⟩
    rw [eqv_strs, srt_dec hp1 hs1 hp2 hs2]
    refine ⟨_, rfl, ite2 (fun hc => ?_) (fun hc => ?_)⟩
    · -- the vowels, too
      refine ⟨_, rfl, S v, rfl, (by rw [S_len]; exact v64), fun ys3 p3 hp3 hs3 n3 => ?_⟩
      replace D := D.same (upd_laid (o := .lst (ys3.map V.str)) n3)
      refine ⟨_, rfl, p, _, 1, _, rfl, rfl, SqT.of D.tp, rfl, S v2, rfl, (by rw [S_len]; exact v64'), fun ys4 p4 hp4 hs4 n4 => ?_⟩
      replace D := D.same (upd_laid (o := .lst (ys4.map V.str)) n4)
      have q3 := upd_laid (o := .lst (ys4.map V.str)) n4 p3 _ upd_same
      refine ⟨_, _, dp_strs (SqL.of q3), dp_strs (SqL.of upd_same), shaped_strs (ok_signs (fun c h => g.dl.2 c (g.dv.2 c h)) hp3), shaped_strs (ok_signs (fun c h => g2.dl.2 c (g2.dv.2 c h)) hp4), ?_⟩
      rw [eqv_strs, srt_dec hp3 hs3 hp4 hs4]
      have hb : decide (srtL v = srtL v2) = AlEq l v l2 v2 := by
        unfold AlEq
        rw [hc, Bool.true_and]
      refine ⟨_, rfl, _, rfl, _, rfl, x1, x2, l, v, l2, v2, (by rw [← hb]; rfl), D.i1, D.i2, _, rfl, iteF ⟨_, rfl, _, rfl, _, rfl, x2, x1, l2, v2, l, v, (by rw [aleq_comm, ← hb]; rfl), D.i2, D.i1, _, rfl, iteF ⟨_, rfl, _, rfl, x1, x1, l, v, l, v, (by rw [aleq_self]; rfl), D.i1, D.i1, _, rfl, iteF ?_⟩⟩⟩
      refine ⟨_, rfl, _, rfl, _, rfl, rfl, x3, x1, l, [], l, v, (by rw [aleq_bare]; rfl), D.i3, D.i1, _, rfl, iteF ?_⟩
      refine ⟨_, rfl, by decide, by decide, for_range (lo := 0) (n := 3) (fun i σ H' => Std K C H' a ns p x1 x2 x3 l v l2 v2 ∧ ∃ v1 v8 v9 v10 v11 v12, σ = [some (.ref a), v1, some (.str (S l)), some (.str (S v)), some (.ref p), some (.ref x1), some (.ref x2), some (.ref x3), v8, v9, v10, v11, v12]) ⟨D, _, _, _, _, _, _, rfl⟩ ?_ ?_⟩
      · rintro i σ H1 hi ⟨D, v1, v8, v9, v10, v11, v12, rfl⟩
        refine ⟨_, rfl, _, rfl, _, _, rfl, rfl, a, ns, 2 + i, (congrArg (fun z : Int => ([V.ref a, V.int z] : List V)) (by omega : (2 : Int) + (0 + (i : Int)) = ((2 + i : Nat) : Int))), D.sq, hl63, fun b H2 hb2 hB2 s2 => ?_⟩
        refine ⟨_, rfl, _, rfl, b, _, rfl, hB2, by decide, by decide, fun r H3 hr3 hB3 hk3 => ⟨rfl, _, rfl, ite2 (fun h => ?_) (fun h => ?_)⟩⟩
        · refine ⟨_, rfl, _, rfl, b, l, rfl, hB3, by omega, fun q H4 hq4 hB4 hk4' => ?_⟩
          have hk4 := hk3.trans hk4'
          refine ⟨_, rfl, _, rfl, b, v, rfl, hB4, by omega, fun t H5 ht5 hB5 hk5 => ?_⟩
          have s5 := kp_same s2 hb2 (hk4.trans hk5)
          have D5 := D.same s5
          refine ⟨_, rfl, _, rfl, _, t, rfl, by omega, by omega, ?_⟩
          refine ⟨_, rfl, _, rfl, _, t, rfl, by omega, by omega, fun pr H6 hp6 hP6 s6 => ⟨_, rfl, rfl, _, rfl, (by show 2 ≤ sizeLine; decide), fun pt hpt => ⟨.tuple [.bool _, .str _], .tuple [.bool _, .str _], .tup (SqT.of (upd_laid hpt _ _ hP6)) (.cons (.bl _) (.cons (.str _) .nil)), .tup (SqT.of upd_same) (.cons (.bl _) (.cons (.str _) .nil)), shaped_bs (due_ok _ _), shaped_bs (due_ok _ _), ?_⟩⟩⟩
          have D6 := fun xs : List V => D5.same (Same.trans s6 (upd_laid (o := HO.tup xs) hpt))
          rw [ne_dec, eqv_bs]
          refine ⟨_, rfl, iteF ?_⟩
          refine ⟨_, rfl, rfl, _, rfl, ite2 (fun h => ?_) (fun h => iteF ⟨D6 _, _, _, _, _, _, _, rfl⟩)⟩
          have gq := good_of (V.str.inj (of_decide_eq_true h))
          have gh := gq.hi
          have gv := gq.len
          refine ⟨_, rfl, _, rfl, fun x d hx hd _ => ⟨x, d, _, t, rfl, upd_same, by omega, by omega, fun _ H7 hA hk => ⟨rfl, ?_⟩, fun hne => absurd gq.due hne⟩⟩
          exact ⟨_, rfl, _, rfl, x, _, t, rfl, hA, by omega, by omega, fun H8 s8 => ⟨_, rfl, iteF ⟨(D6 _).same (Same.trans (kp_new hx hd hk) s8), _, _, _, _, _, _, rfl⟩⟩⟩
        · have hq4 : l.length ≤ 920 := by omega
          have hB4 := hB3
          have hk4 := hk3
          refine ⟨_, rfl, _, rfl, b, v, rfl, hB4, by omega, fun t H5 ht5 hB5 hk5 => ?_⟩
          have s5 := kp_same s2 hb2 (hk4.trans hk5)
          have D5 := D.same s5
          refine ⟨_, rfl, _, rfl, _, t, rfl, by omega, by omega, ?_⟩
          refine ⟨_, rfl, _, rfl, _, t, rfl, by omega, by omega, fun pr H6 hp6 hP6 s6 => ⟨_, rfl, rfl, _, rfl, (by show 2 ≤ sizeLine; decide), fun pt hpt => ⟨.tuple [.bool _, .str _], .tuple [.bool _, .str _], .tup (SqT.of (upd_laid hpt _ _ hP6)) (.cons (.bl _) (.cons (.str _) .nil)), .tup (SqT.of upd_same) (.cons (.bl _) (.cons (.str _) .nil)), shaped_bs (due_ok _ _), shaped_bs (due_ok _ _), ?_⟩⟩⟩
          have D6 := fun xs : List V => D5.same (Same.trans s6 (upd_laid (o := HO.tup xs) hpt))
          rw [ne_dec, eqv_bs]
          refine ⟨_, rfl, iteF ?_⟩
          refine ⟨_, rfl, rfl, _, rfl, ite2 (fun h => ?_) (fun h => iteF ⟨D6 _, _, _, _, _, _, _, rfl⟩)⟩
          have gq := good_of (V.str.inj (of_decide_eq_true h))
          have gh := gq.hi
          have gv := gq.len
          refine ⟨_, rfl, _, rfl, fun x d hx hd _ => ⟨x, d, _, t, rfl, upd_same, by omega, by omega, fun _ H7 hA hk => ⟨rfl, ?_⟩, fun hne => absurd gq.due hne⟩⟩
          exact ⟨_, rfl, _, rfl, x, _, t, rfl, hA, by omega, by omega, fun H8 s8 => ⟨_, rfl, iteF ⟨(D6 _).same (Same.trans (kp_new hx hd hk) s8), _, _, _, _, _, _, rfl⟩⟩⟩
      · rintro σ H1 ⟨D, v1, v8, v9, v10, v11, v12, rfl⟩
        refine ⟨_, rfl, _, rfl, _, rfl, x1, l, v, rfl, D.i1, l64, v64, fun H11 s11 => ⟨_, rfl, iteF ?_⟩⟩
        replace D := D.same s11
        refine ⟨_, rfl, _, rfl, p, _, 0, _, rfl, rfl, SqT.of D.tp, rfl, _, rfl, p, _, 1, _, rfl, rfl, SqT.of D.tp, rfl, x2, l2, v2, rfl, D.i2, l64', v64', fun H12 s12 => ⟨_, rfl, iteF ?_⟩⟩
        replace D := D.same s12
        refine ⟨C, mc, _, _, rfl, AV.rd, AV.joint, _, _, _, _, true, rfl, .ty "str", .base (.str _), rfl, _, rfl, iteF ⟨C, mc, _, _, rfl, AV.rd, AV.most, _, _, _, _, true, rfl, .ty "int", .base (.int _), rfl, _, rfl, iteF ?_⟩⟩
        obtain ⟨dx1, h1⟩ := D.i1
        obtain ⟨dx2, h2⟩ := D.i2
        exact ⟨C, mc, _, _, rfl, AV.rd, AV.joint, rfl, _, rfl, iteS (by decide +kernel) ⟨_, rfl, x1, C, dx1, _, _, _, rfl, h1, A.cl, AC.joint, rfl, rfl, _, rfl, iteS (by decide +kernel) ⟨C, mc, _, _, rfl, AV.rd, AV.most, rfl, _, rfl, iteS (by decide +kernel) ⟨_, rfl, x2, C, dx2, _, _, _, rfl, h2, A.cl, AC.most, rfl, rfl, k _⟩⟩⟩⟩
    · have hb : false = AlEq l v l2 v2 := by
        unfold AlEq
        rw [Bool.eq_false_iff.mpr hc, Bool.false_and]
      refine ⟨_, rfl, _, rfl, _, rfl, x1, x2, l, v, l2, v2, (by rw [← hb]; rfl), D.i1, D.i2, _, rfl, iteF ⟨_, rfl, _, rfl, _, rfl, x2, x1, l2, v2, l, v, (by rw [aleq_comm, ← hb]; rfl), D.i2, D.i1, _, rfl, iteF ⟨_, rfl, _, rfl, x1, x1, l, v, l, v, (by rw [aleq_self]; rfl), D.i1, D.i1, _, rfl, iteF ?_⟩⟩⟩
      refine ⟨_, rfl, _, rfl, _, rfl, rfl, x3, x1, l, [], l, v, (by rw [aleq_bare]; rfl), D.i3, D.i1, _, rfl, iteF ?_⟩
      refine ⟨_, rfl, by decide, by decide, for_range (lo := 0) (n := 3) (fun i σ H' => Std K C H' a ns p x1 x2 x3 l v l2 v2 ∧ ∃ v1 v8 v9 v10 v11 v12, σ = [some (.ref a), v1, some (.str (S l)), some (.str (S v)), some (.ref p), some (.ref x1), some (.ref x2), some (.ref x3), v8, v9, v10, v11, v12]) ⟨D, _, _, _, _, _, _, rfl⟩ ?_ ?_⟩
      · rintro i σ H1 hi ⟨D, v1, v8, v9, v10, v11, v12, rfl⟩
        refine ⟨_, rfl, _, rfl, _, _, rfl, rfl, a, ns, 2 + i, (congrArg (fun z : Int => ([V.ref a, V.int z] : List V)) (by omega : (2 : Int) + (0 + (i : Int)) = ((2 + i : Nat) : Int))), D.sq, hl63, fun b H2 hb2 hB2 s2 => ?_⟩
        refine ⟨_, rfl, _, rfl, b, _, rfl, hB2, by decide, by decide, fun r H3 hr3 hB3 hk3 => ⟨rfl, _, rfl, ite2 (fun h => ?_) (fun h => ?_)⟩⟩
        · refine ⟨_, rfl, _, rfl, b, l, rfl, hB3, by omega, fun q H4 hq4 hB4 hk4' => ?_⟩
          have hk4 := hk3.trans hk4'
          refine ⟨_, rfl, _, rfl, b, v, rfl, hB4, by omega, fun t H5 ht5 hB5 hk5 => ?_⟩
          have s5 := kp_same s2 hb2 (hk4.trans hk5)
          have D5 := D.same s5
          refine ⟨_, rfl, _, rfl, _, t, rfl, by omega, by omega, ?_⟩
          refine ⟨_, rfl, _, rfl, _, t, rfl, by omega, by omega, fun pr H6 hp6 hP6 s6 => ⟨_, rfl, rfl, _, rfl, (by show 2 ≤ sizeLine; decide), fun pt hpt => ⟨.tuple [.bool _, .str _], .tuple [.bool _, .str _], .tup (SqT.of (upd_laid hpt _ _ hP6)) (.cons (.bl _) (.cons (.str _) .nil)), .tup (SqT.of upd_same) (.cons (.bl _) (.cons (.str _) .nil)), shaped_bs (due_ok _ _), shaped_bs (due_ok _ _), ?_⟩⟩⟩
          have D6 := fun xs : List V => D5.same (Same.trans s6 (upd_laid (o := HO.tup xs) hpt))
          rw [ne_dec, eqv_bs]
          refine ⟨_, rfl, iteF ?_⟩
          refine ⟨_, rfl, rfl, _, rfl, ite2 (fun h => ?_) (fun h => iteF ⟨D6 _, _, _, _, _, _, _, rfl⟩)⟩
          have gq := good_of (V.str.inj (of_decide_eq_true h))
          have gh := gq.hi
          have gv := gq.len
          refine ⟨_, rfl, _, rfl, fun x d hx hd _ => ⟨x, d, _, t, rfl, upd_same, by omega, by omega, fun _ H7 hA hk => ⟨rfl, ?_⟩, fun hne => absurd gq.due hne⟩⟩
          exact ⟨_, rfl, _, rfl, x, _, t, rfl, hA, by omega, by omega, fun H8 s8 => ⟨_, rfl, iteF ⟨(D6 _).same (Same.trans (kp_new hx hd hk) s8), _, _, _, _, _, _, rfl⟩⟩⟩
        · have hq4 : l.length ≤ 920 := by omega
          have hB4 := hB3
          have hk4 := hk3
          refine ⟨_, rfl, _, rfl, b, v, rfl, hB4, by omega, fun t H5 ht5 hB5 hk5 => ?_⟩
          have s5 := kp_same s2 hb2 (hk4.trans hk5)
          have D5 := D.same s5
          refine ⟨_, rfl, _, rfl, _, t, rfl, by omega, by omega, ?_⟩
          refine ⟨_, rfl, _, rfl, _, t, rfl, by omega, by omega, fun pr H6 hp6 hP6 s6 => ⟨_, rfl, rfl, _, rfl, (by show 2 ≤ sizeLine; decide), fun pt hpt => ⟨.tuple [.bool _, .str _], .tuple [.bool _, .str _], .tup (SqT.of (upd_laid hpt _ _ hP6)) (.cons (.bl _) (.cons (.str _) .nil)), .tup (SqT.of upd_same) (.cons (.bl _) (.cons (.str _) .nil)), shaped_bs (due_ok _ _), shaped_bs (due_ok _ _), ?_⟩⟩⟩
          have D6 := fun xs : List V => D5.same (Same.trans s6 (upd_laid (o := HO.tup xs) hpt))
          rw [ne_dec, eqv_bs]
          refine ⟨_, rfl, iteF ?_⟩
          refine ⟨_, rfl, rfl, _, rfl, ite2 (fun h => ?_) (fun h => iteF ⟨D6 _, _, _, _, _, _, _, rfl⟩)⟩
          have gq := good_of (V.str.inj (of_decide_eq_true h))
          have gh := gq.hi
          have gv := gq.len
          refine ⟨_, rfl, _, rfl, fun x d hx hd _ => ⟨x, d, _, t, rfl, upd_same, by omega, by omega, fun _ H7 hA hk => ⟨rfl, ?_⟩, fun hne => absurd gq.due hne⟩⟩
          exact ⟨_, rfl, _, rfl, x, _, t, rfl, hA, by omega, by omega, fun H8 s8 => ⟨_, rfl, iteF ⟨(D6 _).same (Same.trans (kp_new hx hd hk) s8), _, _, _, _, _, _, rfl⟩⟩⟩
      · rintro σ H1 ⟨D, v1, v8, v9, v10, v11, v12, rfl⟩
        refine ⟨_, rfl, _, rfl, _, rfl, x1, l, v, rfl, D.i1, l64, v64, fun H11 s11 => ⟨_, rfl, iteF ?_⟩⟩
        replace D := D.same s11
        refine ⟨_, rfl, _, rfl, p, _, 0, _, rfl, rfl, SqT.of D.tp, rfl, _, rfl, p, _, 1, _, rfl, rfl, SqT.of D.tp, rfl, x2, l2, v2, rfl, D.i2, l64', v64', fun H12 s12 => ⟨_, rfl, iteF ?_⟩⟩
        replace D := D.same s12
        refine ⟨C, mc, _, _, rfl, AV.rd, AV.joint, _, _, _, _, true, rfl, .ty "str", .base (.str _), rfl, _, rfl, iteF ⟨C, mc, _, _, rfl, AV.rd, AV.most, _, _, _, _, true, rfl, .ty "int", .base (.int _), rfl, _, rfl, iteF ?_⟩⟩
        obtain ⟨dx1, h1⟩ := D.i1
        obtain ⟨dx2, h2⟩ := D.i2
        exact ⟨C, mc, _, _, rfl, AV.rd, AV.joint, rfl, _, rfl, iteS (by decide +kernel) ⟨_, rfl, x1, C, dx1, _, _, _, rfl, h1, A.cl, AC.joint, rfl, rfl, _, rfl, iteS (by decide +kernel) ⟨C, mc, _, _, rfl, AV.rd, AV.most, rfl, _, rfl, iteS (by decide +kernel) ⟨_, rfl, x2, C, dx2, _, _, _, rfl, h2, A.cl, AC.most, rfl, rfl, k _⟩⟩⟩⟩
end
end Vk

set_option Elab.async false
set_option linter.all false
set_option maxRecDepth 100000
set_option maxHeartbeats 8000000
namespace Vk
open PySem PySem.Spec PyProof.Rows L2
theorem all_mk {l : PySem.W.OpenLaw} {w : World} {K : PySem.W.Frag} {h : Heap} {mg : Str → Option Value} {fa : Addr} (X : K.In h) (G : h.Ns mainGlobals mg) (hfa : mg "law" = some (.ref fa))
    {C B TE BT BS cc cda fA fB fE TD fDiff fBox fTake fPick fChar fSecond fBent fDue fRefused fShows fAlike fLaw : Addr} {odDiff anDiff odBox anBox odTake anTake odPick anPick odChar anChar odSecond anSecond odBent anBent odDue anDue odRefused anRefused odShows anShows odAlike anAlike odLaw anLaw odE anE odA anA odD odB anB ddcc ddcd : Option Addr} {slDiff slBox slTake slPick slChar slSecond slBent slDue slRefused slShows slAlike slLaw slE slA slD slB slcc slcd : Array (Option Value)} {vsC0 : Array Value} {ocDiff kVDiff dcDiff pmDiff cdDiff ctDiff ocBox kVBox dcBox pmBox cdBox ctBox ocTake kVTake dcTake pmTake cdTake ctTake ocPick kVPick dcPick pmPick cdPick ctPick ocChar kVChar dcChar pmChar cdChar ctChar ocSecond kVSecond dcSecond pmSecond cdSecond ctSecond ocBent kVBent dcBent pmBent cdBent ctBent ocDue kVDue dcDue pmDue cdDue ctDue ocRefused kVRefused dcRefused pmRefused cdRefused ctRefused ocShows kVShows dcShows pmShows cdShows ctShows ocAlike kVAlike dcAlike pmAlike cdAlike ctAlike ocLaw kVLaw dcLaw pmLaw cdLaw ctLaw ocE kVE dcE pmE cdE ctE ocA kVA dcA pmA cdA ctA ocD ocB kVB dcB pmB ctB clcc clcd : Value} {tl tm tj td tf : Tok} {nD : Nat} {fl : Str}
    {nmTE qTE : Str} {NTE : Addr} {bsTE : List Value} {snTE : List Str} {subTE : List Value} {abTE : Bool} {colTE : Option Bool} {ddTE : Option Addr} {m0TE m1TE m2TE m3TE m5TE : Option Value}
    {nmB qB : Str} {NB : Addr} {bsB : List Value} {snB : List Str} {subB : List Value} {abB : Bool} {colB : Option Bool} {ddB : Option Addr} {m0B m1B m2B m3B m5B : Option Value}
    (aDiff : PySem.W.nsIn K mainGlobals "differ_within" = some (some (.ref fDiff)))
    (lDiff : K.lookup fDiff = some ⟨ocDiff, odDiff, .func (PySem.W.fnOf "differ_within" "differ_within" (defArgs sDiff) (defBody sDiff) (defScope sDiff) .none kVDiff dcDiff pmDiff anDiff cdDiff ctDiff), slDiff⟩)
    (cDiff : PySem.W.codeIn K cdDiff "differ_within" = true)
    (kDiff : PySem.W.keepIn K (.ref fDiff) = true)
    (aBox : PySem.W.nsIn K mainGlobals "_law_box" = some (some (.ref fBox)))
    (lBox : K.lookup fBox = some ⟨ocBox, odBox, .func (PySem.W.fnOf "_law_box" "_law_box" (defArgs sBox) (defBody sBox) (defScope sBox) .none kVBox dcBox pmBox anBox cdBox ctBox), slBox⟩)
    (cBox : PySem.W.codeIn K cdBox "_law_box" = true)
    (kBox : PySem.W.keepIn K (.ref fBox) = true)
    (aTake : PySem.W.nsIn K mainGlobals "_law_take" = some (some (.ref fTake)))
    (lTake : K.lookup fTake = some ⟨ocTake, odTake, .func (PySem.W.fnOf "_law_take" "_law_take" (defArgs sTake) (defBody sTake) (defScope sTake) .none kVTake dcTake pmTake anTake cdTake ctTake), slTake⟩)
    (cTake : PySem.W.codeIn K cdTake "_law_take" = true)
    (kTake : PySem.W.keepIn K (.ref fTake) = true)
    (aPick : PySem.W.nsIn K mainGlobals "_law_pick" = some (some (.ref fPick)))
    (lPick : K.lookup fPick = some ⟨ocPick, odPick, .func (PySem.W.fnOf "_law_pick" "_law_pick" (defArgs sPick) (defBody sPick) (defScope sPick) .none kVPick dcPick pmPick anPick cdPick ctPick), slPick⟩)
    (cPick : PySem.W.codeIn K cdPick "_law_pick" = true)
    (kPick : PySem.W.keepIn K (.ref fPick) = true)
    (aChar : PySem.W.nsIn K mainGlobals "_law_char" = some (some (.ref fChar)))
    (lChar : K.lookup fChar = some ⟨ocChar, odChar, .func (PySem.W.fnOf "_law_char" "_law_char" (defArgs sChar) (defBody sChar) (defScope sChar) .none kVChar dcChar pmChar anChar cdChar ctChar), slChar⟩)
    (cChar : PySem.W.codeIn K cdChar "_law_char" = true)
    (kChar : PySem.W.keepIn K (.ref fChar) = true)
    (aSecond : PySem.W.nsIn K mainGlobals "_law_second" = some (some (.ref fSecond)))
    (lSecond : K.lookup fSecond = some ⟨ocSecond, odSecond, .func (PySem.W.fnOf "_law_second" "_law_second" (defArgs sSecond) (defBody sSecond) (defScope sSecond) .none kVSecond dcSecond pmSecond anSecond cdSecond ctSecond), slSecond⟩)
    (cSecond : PySem.W.codeIn K cdSecond "_law_second" = true)
    (kSecond : PySem.W.keepIn K (.ref fSecond) = true)
    (aBent : PySem.W.nsIn K mainGlobals "_law_bent" = some (some (.ref fBent)))
    (lBent : K.lookup fBent = some ⟨ocBent, odBent, .func (PySem.W.fnOf "_law_bent" "_law_bent" (defArgs sBent) (defBody sBent) (defScope sBent) .none kVBent dcBent pmBent anBent cdBent ctBent), slBent⟩)
    (cBent : PySem.W.codeIn K cdBent "_law_bent" = true)
    (kBent : PySem.W.keepIn K (.ref fBent) = true)
    (aDue : PySem.W.nsIn K mainGlobals "_law_due" = some (some (.ref fDue)))
    (lDue : K.lookup fDue = some ⟨ocDue, odDue, .func (PySem.W.fnOf "_law_due" "_law_due" (defArgs sDue) (defBody sDue) (defScope sDue) .none kVDue dcDue pmDue anDue cdDue ctDue), slDue⟩)
    (cDue : PySem.W.codeIn K cdDue "_law_due" = true)
    (kDue : PySem.W.keepIn K (.ref fDue) = true)
    (aRefused : PySem.W.nsIn K mainGlobals "_law_refused" = some (some (.ref fRefused)))
    (lRefused : K.lookup fRefused = some ⟨ocRefused, odRefused, .func (PySem.W.fnOf "_law_refused" "_law_refused" (defArgs sRef) (defBody sRef) (defScope sRef) .none kVRefused dcRefused pmRefused anRefused cdRefused ctRefused), slRefused⟩)
    (cRefused : PySem.W.codeIn K cdRefused "_law_refused" = true)
    (kRefused : PySem.W.keepIn K (.ref fRefused) = true)
    (aShows : PySem.W.nsIn K mainGlobals "_law_shows" = some (some (.ref fShows)))
    (lShows : K.lookup fShows = some ⟨ocShows, odShows, .func (PySem.W.fnOf "_law_shows" "_law_shows" (defArgs sShows) (defBody sShows) (defScope sShows) .none kVShows dcShows pmShows anShows cdShows ctShows), slShows⟩)
    (cShows : PySem.W.codeIn K cdShows "_law_shows" = true)
    (kShows : PySem.W.keepIn K (.ref fShows) = true)
    (aAlike : PySem.W.nsIn K mainGlobals "_law_alike" = some (some (.ref fAlike)))
    (lAlike : K.lookup fAlike = some ⟨ocAlike, odAlike, .func (PySem.W.fnOf "_law_alike" "_law_alike" (defArgs sAlike) (defBody sAlike) (defScope sAlike) .none kVAlike dcAlike pmAlike anAlike cdAlike ctAlike), slAlike⟩)
    (cAlike : PySem.W.codeIn K cdAlike "_law_alike" = true)
    (kAlike : PySem.W.keepIn K (.ref fAlike) = true)
    (aLaw : PySem.W.nsIn K mainGlobals "law" = some (some (.ref fLaw)))
    (lLaw : K.lookup fLaw = some ⟨ocLaw, odLaw, .func (PySem.W.fnOf "law" "law" (defArgs sLaw) (defBody sLaw) (defScope sLaw) .none kVLaw dcLaw pmLaw anLaw cdLaw ctLaw), slLaw⟩)
    (cLaw : PySem.W.codeIn K cdLaw "law" = true)
    (kLaw : PySem.W.keepIn K (.ref fLaw) = true)
    (aC : PySem.W.nsIn K mainGlobals "Alphabet" = some (some (.ref C)))
    (aB : PySem.W.nsIn K mainGlobals "BadAlphabet" = some (some (.ref B)))
    (aTE : PySem.W.nsIn K mainGlobals "TaleError" = some (some (.ref TE)))
    (aBT : PySem.W.nsIn K mainGlobals "BadText" = some (some (.ref BT)))
    (aBS : PySem.W.nsIn K mainGlobals "BadSet" = some (some (.ref BS)))
    (aSL : PySem.W.nsIn K mainGlobals "SMALL_LETTERS" = some (some (.str "abcdefghijklmnopqrstuvwxyz" tl)))
    (aE : PySem.W.findIn K (.ref C) "__eq__" = some (some (.ref fE)))
    (lE : K.lookup fE = some ⟨ocE, odE, .func (PySem.W.fnOf "__eq__" "Alphabet.__eq__" (defArgs sEq) (defBody sEq) (defScope sEq) .none kVE dcE pmE anE cdE ctE), slE⟩)
    (cE : PySem.W.codeIn K cdE "Alphabet.__eq__" = true)
    (kE : PySem.W.keepIn K (.ref fE) = true)
    (iE : PySem.W.isFn K (.ref fE) = true)
    (nE : PySem.W.notFirst K C (.ref C) = true)
    (aA : PySem.W.findIn K (.ref C) "__init__" = some (some (.ref fA)))
    (lA : K.lookup fA = some ⟨ocA, odA, .func (PySem.W.fnOf "__init__" "Alphabet.__init__" (defArgs sAI) (defBody sAI) (defScope sAI) (.ref TD) kVA dcA pmA anA cdA ctA), slA⟩)
    (lD : K.lookup TD = some ⟨ocD, odD, .seq [Value.str "" td].toArray nD, slD⟩)
    (cA : PySem.W.codeIn K cdA "Alphabet.__init__" = true)
    (kA : PySem.W.keepIn K (.ref fA) = true)
    (iA : PySem.W.isFn K (.ref fA) = true)
    (pgC : PySem.W.plainGet K C Str.empty = true)
    (hdC : PySem.W.hasDictIn K C = true)
    (poC : PySem.W.plainOver K C = true)
    (saC : PySem.W.findIn K (.ref C) "__setattr__" = some (some (.builtin "object.__setattr__")))
    (mkC : PySem.W.makesIn K C = true)
    (kC : PySem.W.keepIn K (.ref C) = true)
    (nL : PySem.W.findIn K (.ref C) "letters" = some none)
    (nV : PySem.W.findIn K (.ref C) "vowels" = some none)
    (nK : PySem.W.findIn K (.ref C) "consonants" = some none)
    (nS : PySem.W.findIn K (.ref C) "signs" = some none)
    (icC : PySem.W.findIn K (.ref C) "__class__" = some (some (.builtin "object.__class__")))
    (ig : PySem.W.specialIn K (.builtin "object.__class__") "__get__" = some (some (.builtin "getset_descriptor.__get__")))
    (it : PySem.W.takesIn K (.builtin "object.__class__") = some true)
    (imC : PySem.W.mroIn K C (.type "object") = some true)
    (rdC : PySem.W.readsIn K C (.type "type") = true)
    (gaC : PySem.W.specialIn K (.ref C) "__getattribute__" = some (some (.builtin "type.__getattribute__")))
    (vM : PySem.W.findCls K (.ref C) (.type "type") "MOST" = some (.val (.int 4 tm)))
    (vJ : PySem.W.findCls K (.ref C) (.type "type") "JOINT" = some (.val (.str "-" tj)))
    (wM : PySem.W.findIn K (.ref C) "MOST" = some (some (.int 4 tm)))
    (wJ : PySem.W.findIn K (.ref C) "JOINT" = some (some (.str "-" tj)))
    (xM : PySem.W.specialIn K (.int 4 tm) "__get__" = some none)
    (xJ : PySem.W.specialIn K (.str "-" tj) "__get__" = some none)
    (xTE : K.lookup TE = some (excClassObj nmTE qTE TE NTE bsTE [.type "ValueError", .type "Exception", .type "BaseException", .type "object"] true snTE subTE abTE colTE ddTE m0TE m1TE m2TE m3TE m5TE "ValueError.__new__"))
    (xB : K.lookup B = some (excClassObj nmB qB B NB bsB [.ref TE, .type "ValueError", .type "Exception", .type "BaseException", .type "object"] true snB subB abB colB ddB m0B m1B m2B m3B m5B "ValueError.__new__"))
    (saB : PySem.W.findIn K (.ref B) "__setattr__" = some (some (.builtin "object.__setattr__")))
    (gaB : PySem.W.findIn K (.ref B) "__getattribute__" = some (some (.builtin "BaseException.__getattribute__")))
    (ggB : PySem.W.findIn K (.ref B) "__getattr__" = some none)
    (npB : PySem.W.findIn K (.ref B) "part" = some none)
    (icB : PySem.W.findIn K (.ref B) "__class__" = some (some (.builtin "object.__class__")))
    (aFB : PySem.W.findIn K (.ref B) "__init__" = some (some (.ref fB)))
    (tFB : PySem.W.typeIn K (.ref fB) = some (.type "function"))
    (lB : K.lookup fB = some ⟨ocB, odB, .func (PySem.W.ksFn "__init__" "BadAlphabet.__init__" (defArgs sBA) (defBody sBA) (defScope sBA) .none kVB dcB pmB anB (.ref cda) ctB cc), slB⟩)
    (cB : PySem.W.codeIn K (.ref cda) "BadAlphabet.__init__" = true)
    (kB : PySem.W.keepIn K (.ref B) = true)
    (eB : PySem.W.subIn K (.ref B) (.type "BaseException") = some true)
    (tB : PySem.W.typeIn K (.ref B) = some (.type "type"))
    (hB : PySem.W.hasDictIn K B = true)
    (lcc : K.lookup cc = some ⟨clcc, ddcc, .cell (some (.ref B)), slcc⟩)
    (lcd : K.lookup cda = some ⟨clcd, ddcd, .fields vsC0, slcd⟩)
    (hv : vsC0[2]? = some (.str fl tf))
    (hfl : ((l.prog.main.file : Str) == fl) = true)
    (mBB : PySem.W.mroIn K B (.ref B) = some true)
    (iTE : PySem.W.findIn K (.ref TE) "__init__" = some (some (.builtin "ValueError.__init__")))
    (vB : PySem.W.subIn K (.ref B) (.type "ValueError") = some true)
    (noT : (l.prog.main.scope.names.lookup ("super" : Str)).isSome = false)
    (noM : PySem.W.nsIn K mainGlobals "super" = some none)
    (anyS : PySem.W.nsIn K cStatics "thirdparty.any" = some none)
    (moB : PySem.W.mroIn K B (.type "object") = some true)
    (eTE : PySem.W.subIn K (.ref TE) (.type "BaseException") = some true)
    (hTE : PySem.W.hasDictIn K TE = true)
    (tTE : PySem.W.typeIn K (.ref TE) = some (.type "type"))
    (sTE : PySem.W.subIn K (.ref B) (.ref TE) = some true)
    (sBB : PySem.W.subIn K (.ref B) (.ref B) = some true)
    (iBT : PySem.W.isClsIn K BT = true)
    (tBT : PySem.W.typeIn K (.ref BT) = some (.type "type"))
    (sBT : PySem.W.subIn K (.ref B) (.ref BT) = some false)
    (iBS : PySem.W.isClsIn K BS = true)
    (tBS : PySem.W.typeIn K (.ref BS) = some (.type "type"))
    (sBS : PySem.W.subIn K (.ref B) (.ref BS) = some false)
    (z_len : PySem.W.nsIn K mainGlobals "len" = some none)
    (z_set : PySem.W.nsIn K mainGlobals "set" = some none)
    (z_all : PySem.W.nsIn K mainGlobals "all" = some none)
    (z_abs : PySem.W.nsIn K mainGlobals "abs" = some none)
    (z_int : PySem.W.nsIn K mainGlobals "int" = some none)
    (z_range : PySem.W.nsIn K mainGlobals "range" = some none)
    (z_sorted : PySem.W.nsIn K mainGlobals "sorted" = some none)
    (z_isinstance : PySem.W.nsIn K mainGlobals "isinstance" = some none)
    (z_str : PySem.W.nsIn K mainGlobals "str" = some none)
    (z_bool : PySem.W.nsIn K mainGlobals "bool" = some none)
    (z_ValueError : PySem.W.nsIn K mainGlobals "ValueError" = some none) :
    ∃ fd : FuncData, (∀ (s : Shared) (v : Value), BindsTo s fd ⟨[v], []⟩ [("_law_script", v)]) ∧ ∀ base : Heap, K.In base → base.Ns mainGlobals mg → FnOk l.prog w K mg base CX0 6 fa fd ["_law_script"] (spLaw K) := by
  have e := hfa.symm.trans (PySem.W.mg_of X G aLaw)
  cases e
  have gm : ∀ {n : Str} {v : Value}, PySem.W.nsIn K mainGlobals n = some (some v) → mg n = some v := fun e => PySem.W.mg_of X G e
  have gn : ∀ {n : Str}, PySem.W.nsIn K mainGlobals n = some none → mg n = none := fun e => PySem.W.mg_none_of X G e
  have T : TxA K mg fDiff fBox fTake fPick fChar :=
    { z_len := gn z_len, z_set := gn z_set, z_all := gn z_all, z_abs := gn z_abs, z_int := gn z_int, z_range := gn z_range, z_sorted := gn z_sorted, z_isinstance := gn z_isinstance, z_str := gn z_str, z_bool := gn z_bool, z_VE := gn z_ValueError,
      gDiff := gm aDiff, gBox := gm aBox, gTake := gm aTake, gPick := gm aPick, gChar := gm aChar }
  have TL : TxL mg fSecond fBent fDue fRefused fShows fAlike := ⟨gm aSecond, gm aBent, gm aDue, gm aRefused, gm aShows, gm aAlike⟩
  have A : AlF K C := ⟨⟨pgC, hdC, poC, saC⟩, nL, nV, nK, nS, icC, ig, it, imC⟩
  have AV : AlV K mg C (.type "type") tm tj tl := ⟨gm aC, by rw [← az_S]; exact gm aSL, ⟨rdC, gaC⟩, ⟨vM, ⟨_, rfl⟩⟩, ⟨vJ, ⟨_, rfl⟩⟩⟩
  have AC : AlC K C tm tj := ⟨⟨wJ, ⟨_, rfl⟩, xJ, by decide +kernel⟩, ⟨wM, ⟨_, rfl⟩, xM, by decide +kernel⟩⟩
  have OX : OexC K B := ⟨⟨_, _, _, _, _, _, _, _, _, _, _, _, _, _, _, xB, rfl⟩, saB, eB, tB, kB⟩
  have BA : BaF l.prog K mg B fB := ⟨OX, aFB, tFB, gm aB⟩
  have hcl : PySem.W.clsIn K B = some { name := nmB, bases := bsB, mro := .ref B :: [.ref TE, .type "ValueError", .type "Exception", .type "BaseException", .type "object"], ns := NB, qualname := qB, hasDict := true, slotNames := snB, subclasses := subB, abstract := abB, collection := colB, hasDel := false } := by
    unfold PySem.W.clsIn
    rw [xB] <;> rfl
  have sup : PySem.W.ks_superIn K B B "__init__" = some (some (.builtin "ValueError.__init__")) := by
    unfold PySem.W.ks_superIn
    rw [hcl]
    have e1 : PySem.W.findIn K (.ref TE) "__init__" = PySem.W.alongIn K "__init__" [.ref TE, .type "ValueError", .type "Exception", .type "BaseException", .type "object"] := by
      unfold PySem.W.findIn
      simp only [xTE]
    rw [← iTE, e1]
    show PySem.W.alongIn K "__init__" (((Value.ref B :: [.ref TE, .type "ValueError", .type "Exception", .type "BaseException", .type "object"]).dropWhile (· != .ref B)).drop 1) = _
    have hb : (Value.ref B != .ref B) = false := by simp
    rw [List.dropWhile_cons, hb]
    rfl
  have SC : SupC l.prog K mg B cc cda := ⟨OX, ⟨_, _, _, lcc⟩, ⟨_, _, _, _, _, _, lcd, hv, hfl⟩, mBB, sup, vB, noT, gn noM, anyS⟩
  have neq : ∀ {D : Addr}, PySem.W.subIn K (.ref B) (.ref D) = some false → (Value.ref B == .ref D) = false := fun {D} hs => beq_eq_false_iff_ne.mpr fun e => by
    cases e
    rw [sBB] at hs
    cases hs
  have kone : ∀ {D : Addr}, PySem.W.isClsIn K D = true → PySem.W.typeIn K (.ref D) = some (.type "type") → PySem.W.subIn K (.ref B) (.ref D) = some false → PySem.W.kitOne K (.ref B) (.ref D) = some false := fun {D} h1 h2 h3 => by
    unfold PySem.W.kitOne
    rw [neq h3, if_neg Bool.false_ne_true]
    have h1' : (PySem.W.clsIn K D).isSome = true := h1
    show (if ((PySem.W.clsIn K D).isSome && PySem.W.typeIn K (.ref D) == some (.type "type")) = true then PySem.W.subIn K (.ref B) (.ref D) else none) = _
    rw [h1', h2, if_pos (by rfl), h3]
  have R : RfF K mg B TE BT BS :=
    { xf := ⟨gaB, ggB, eB, hB⟩, np := npB, ec := ⟨gaB, ggB, eB, hB, icB, ig, it, moB⟩, e1 := PySem.W.exm_ref eTE hTE tTE sTE,
      k2 := by
        unfold PySem.W.kitOne
        have hne : (Value.ref B == Value.type "ValueError") = false := beq_eq_false_iff_ne.mpr fun e => by cases e
        rw [hne, if_neg Bool.false_ne_true]
        show (if PySem.W.kitMeta "ValueError" = true then PySem.W.subIn K (.ref B) (.type "ValueError") else none) = _
        rw [if_pos (by decide +kernel), vB],
      k3 := by
        have q1 := kone iBT tBT sBT
        have q2 := kone iBS tBS sBS
        simp only [PySem.W.kitAny, q1, q2],
      gTE := gm aTE, gBT := gm aBT, gBS := gm aBS }
  have FA : FunD K "__init__" "Alphabet.__init__" (defArgs sAI) (defBody sAI) (defScope sAI) [.str ""] [] fA (PySem.W.fnOf "__init__" "Alphabet.__init__" (defArgs sAI) (defBody sAI) (defScope sAI) (.ref TD) kVA dcA pmA anA cdA ctA) :=
    ⟨⟨_, _, _, _, _, _, _, _, _, _, rfl, lA, cA, .inr ⟨by simp, TD, _, [Value.str "" td], nD, rfl, lD, rfl, .cons ⟨_, rfl⟩ .nil⟩, .inl rfl⟩, kA⟩
  obtain ⟨d0, v0, bA⟩ := FA.binds1 (ps := ["self", "letters", "vowels"]) 3 1 (by simp) rfl fun T kV doc pm an cdv ct us its h1 h2 => match us, its, h1, h2 with | [_, _, _], [_], _, _ => ⟨_, rfl, rfl⟩
  obtain ⟨d1, v1, bA1⟩ := FA.binds1 (ps := ["self", "letters", "vowels"]) 2 0 (by simp) rfl fun T kV doc pm an cdv ct us its h1 h2 => match us, its, h1, h2 with | [_, _], [_], _, _ => ⟨_, rfl, rfl⟩
  have ed0 : d0 = [] := by
    cases v0
    rfl
  subst ed0
  have e0 : PySem.Str.ofString "" = S [] := by decide +kernel
  have v1' : Vals [V.str (S [])] d1 := by
    rw [← e0]
    exact v1
  have GB := fun base => ok_ba (P := l.prog) (w := w) (base := base) SC npB lB cB
  have bB : Binds K (PySem.W.ksFn "__init__" "BadAlphabet.__init__" (defArgs sBA) (defBody sBA) (defScope sBA) .none kVB dcB pmB anB (.ref cda) ctB cc) ["self", "part"] [] := Binds.all fun us hl => match us, hl with | [_, _], _ => rfl
  have FDiff := fun_mk (st := sDiff) lDiff cDiff kDiff
  have bDiff := FDiff.binds (ps := ["text", "allowed"]) fun _ _ _ _ _ _ us hl => match us, hl with | [_, _], _ => rfl
  have FBox := fun_mk (st := sBox) lBox cBox kBox
  have bBox := FBox.binds (ps := ["_law_script", "_law_k"]) fun _ _ _ _ _ _ us hl => match us, hl with | [_, _], _ => rfl
  have FTake := fun_mk (st := sTake) lTake cTake kTake
  have bTake := FTake.binds (ps := ["_law_box_here", "_law_size"]) fun _ _ _ _ _ _ us hl => match us, hl with | [_, _], _ => rfl
  have FPick := fun_mk (st := sPick) lPick cPick kPick
  have bPick := FPick.binds (ps := ["_law_box_here", "_law_string", "_law_many"]) fun _ _ _ _ _ _ us hl => match us, hl with | [_, _, _], _ => rfl
  have FChar := fun_mk (st := sChar) lChar cChar kChar
  have bChar := FChar.binds (ps := ["_law_box_here"]) fun _ _ _ _ _ _ us hl => match us, hl with | [_], _ => rfl
  have FSecond := fun_mk (st := sSecond) lSecond cSecond kSecond
  have bSecond := FSecond.binds (ps := ["_law_box_here", "_law_letters", "_law_vowels"]) fun _ _ _ _ _ _ us hl => match us, hl with | [_, _, _], _ => rfl
  have FBent := fun_mk (st := sBent) lBent cBent kBent
  have bBent := FBent.binds (ps := ["_law_box_here", "_law_string"]) fun _ _ _ _ _ _ us hl => match us, hl with | [_, _], _ => rfl
  have FDue := fun_mk (st := sDue) lDue cDue kDue
  have bDue := FDue.binds (ps := ["_law_letters", "_law_vowels"]) fun _ _ _ _ _ _ us hl => match us, hl with | [_, _], _ => rfl
  have FRefused := fun_mk (st := sRef) lRefused cRefused kRefused
  have bRefused := FRefused.binds (ps := ["_law_letters", "_law_vowels"]) fun _ _ _ _ _ _ us hl => match us, hl with | [_, _], _ => rfl
  have FShows := fun_mk (st := sShows) lShows cShows kShows
  have bShows := FShows.binds (ps := ["_law_alphabet", "_law_letters", "_law_vowels"]) fun _ _ _ _ _ _ us hl => match us, hl with | [_, _, _], _ => rfl
  have FAlike := fun_mk (st := sAlike) lAlike cAlike kAlike
  have bAlike := FAlike.binds (ps := ["_law_one", "_law_two", "_law_due_here"]) fun _ _ _ _ _ _ us hl => match us, hl with | [_, _, _], _ => rfl
  have FLaw := fun_mk (st := sLaw) lLaw cLaw kLaw
  have FE := fun_mk (st := sEq) lE cE kE
  have bE := FE.binds (ps := ["self", "other"]) fun _ _ _ _ _ _ us hl => match us, hl with | [_, _], _ => rfl
  exact ⟨PySem.W.fnOf "law" "law" (defArgs sLaw) (defBody sLaw) (defScope sLaw) .none kVLaw dcLaw pmLaw anLaw cdLaw ctLaw, fun s v => .of_eq rfl, fun base _ _ => ok_law FLaw T TL A AV AC BA R ⟨mkC, aA, iA, kC⟩ FA bA bA1 v1' FE bE aE iE nE FDiff bDiff (GB base) bB FBox bBox FTake bTake FPick bPick FChar bChar FSecond bSecond FBent bBent FDue bDue FRefused bRefused FShows bShows FAlike bAlike⟩
theorem walk {l : PySem.W.OpenLaw} {q : Program} {loose : List Str} {XP : (Str → Option Value) → Heap → Prop} {YP : World → Heap → Prop} {d : DefRec} {K : Params → PySem.W.Frag} (hn : l.most = some 63) (hdf : d.params.defaults = [])
    (hY : ∀ (w : World) (h : Heap), YP w h → (K w.params).In h)
    (F : ∀ (w : World) (mg : Str → Option Value) (fa : Addr) (h : Heap), (K w.params).In h → h.Ns mainGlobals mg → mg d.name = some (.ref fa) →
      ∃ fd : FuncData, (∀ (s : Shared) (u : Value), BindsTo s fd ⟨[u], []⟩ [("_law_script", u)]) ∧ ∀ base : Heap, (K w.params).In base → base.Ns mainGlobals mg → FnOk l.prog w (K w.params) mg base CX0 6 fa fd ["_law_script"] (spLaw (K w.params))) :
    PySem.W.WalkO q loose XP YP l.row.toRowW d [] (fun f vs => PySem.call f vs) :=
  L2.walk_of (n := 63) (k := 6) (x := "_law_script") (CX := fun _ => CX0) (sp := fun w => spLaw (K w.params)) hn (by decide) hdf ⟨rfl, by decide, by decide⟩ hY F (fun _ _ a ns hl _ hS => ⟨a, ns, rfl, hS, hl, fun _ => rfl⟩) fun _ _ _ _ _ z => z
end Vk

set_option Elab.async false
open PySem PySem.W PyProof.Rows
set_option maxRecDepth 100000 in
set_option maxHeartbeats 0 in
theorem PySem.Challenge.cw_talepost_k00_alphabets_holds : PySem.Challenge.rw_talepost_k00_alphabets.Holds := by
  w_on; o_law; k_head; (case hw => w_witness2)
  k_fill
  refine Vk.walk (l := PySem.Challenge.rw_talepost_k00_alphabets) rfl rfl (fun w h Y => PySem.W.kIn_of Y) ?F
  case F =>
    intro w mg fa h KX G hmg
    refine' Vk.all_mk KX G hmg ?aDiff ?lDiff ?cDiff ?kDiff ?aBox ?lBox ?cBox ?kBox ?aTake ?lTake ?cTake ?kTake ?aPick ?lPick ?cPick ?kPick ?aChar ?lChar ?cChar ?kChar ?aSecond ?lSecond ?cSecond ?kSecond ?aBent ?lBent ?cBent ?kBent ?aDue ?lDue ?cDue ?kDue ?aRefused ?lRefused ?cRefused ?kRefused ?aShows ?lShows ?cShows ?kShows ?aAlike ?lAlike ?cAlike ?kAlike ?aLaw ?lLaw ?cLaw ?kLaw ?aC ?aB ?aTE ?aBT ?aBS ?aSL ?aE ?lE ?cE ?kE ?iE ?nE ?aA ?lA ?lD ?cA ?kA ?iA ?pgC ?hdC ?poC ?saC ?mkC ?kC ?nL ?nV ?nK ?nS ?icC ?ig ?it ?imC ?rdC ?gaC ?vM ?vJ ?wM ?wJ ?xM ?xJ ?xTE ?xB ?saB ?gaB ?ggB ?npB ?icB ?aFB ?tFB ?lB ?cB ?kB ?eB ?tB ?hB ?lcc ?lcd ?hv ?hfl ?mBB ?iTE ?vB ?noT ?noM ?anyS ?moB ?eTE ?hTE ?tTE ?sTE ?sBB ?iBT ?tBT ?sBT ?iBS ?tBS ?sBS ?z_len ?z_set ?z_all ?z_abs ?z_int ?z_range ?z_sorted ?z_isinstance ?z_str ?z_bool ?z_ValueError
    (case aDiff => k_is)
    (case lDiff => k_is)
    (case cDiff => k_is)
    (case kDiff => k_is)
    (case aBox => k_is)
    (case lBox => k_is)
    (case cBox => k_is)
    (case kBox => k_is)
    (case aTake => k_is)
    (case lTake => k_is)
    (case cTake => k_is)
    (case kTake => k_is)
    (case aPick => k_is)
    (case lPick => k_is)
    (case cPick => k_is)
    (case kPick => k_is)
    (case aChar => k_is)
    (case lChar => k_is)
    (case cChar => k_is)
    (case kChar => k_is)
    (case aSecond => k_is)
    (case lSecond => k_is)
    (case cSecond => k_is)
    (case kSecond => k_is)
    (case aBent => k_is)
    (case lBent => k_is)
    (case cBent => k_is)
    (case kBent => k_is)
    (case aDue => k_is)
    (case lDue => k_is)
    (case cDue => k_is)
    (case kDue => k_is)
    (case aRefused => k_is)
    (case lRefused => k_is)
    (case cRefused => k_is)
    (case kRefused => k_is)
    (case aShows => k_is)
    (case lShows => k_is)
    (case cShows => k_is)
    (case kShows => k_is)
    (case aAlike => k_is)
    (case lAlike => k_is)
    (case cAlike => k_is)
    (case kAlike => k_is)
    (case aLaw => k_is)
    (case lLaw => k_is)
    (case cLaw => k_is)
    (case kLaw => k_is)
    (case aC => k_is)
    (case aB => k_is)
    (case aTE => k_is)
    (case aBT => k_is)
    (case aBS => k_is)
    (case aSL => k_is)
    (case aE => k_is)
    (case lE => k_is)
    (case cE => k_is)
    (case kE => k_is)
    (case iE => k_is)
    (case nE => k_is)
    (case aA => k_is)
    (case lA => k_is)
    (case lD => k_is)
    (case cA => k_is)
    (case kA => k_is)
    (case iA => k_is)
    (case pgC => k_is)
    (case hdC => k_is)
    (case poC => k_is)
    (case saC => k_is)
    (case mkC => k_is)
    (case kC => k_is)
    (case nL => k_is)
    (case nV => k_is)
    (case nK => k_is)
    (case nS => k_is)
    (case icC => k_is)
    (case ig => k_is)
    (case it => k_is)
    (case imC => k_is)
    (case rdC => k_is)
    (case gaC => k_is)
    (case vM => k_is)
    (case vJ => k_is)
    (case wM => k_is)
    (case wJ => k_is)
    (case xM => k_is)
    (case xJ => k_is)
    (case xTE => k_is)
    (case xB => k_is)
    (case saB => k_is)
    (case gaB => k_is)
    (case ggB => k_is)
    (case npB => k_is)
    (case icB => k_is)
    (case aFB => k_is)
    (case tFB => k_is)
    (case lB => k_is)
    (case cB => k_is)
    (case kB => k_is)
    (case eB => k_is)
    (case tB => k_is)
    (case hB => k_is)
    (case lcc => k_is)
    (case lcd => k_is)
    (case hv => rfl)
    (case hfl => first | rfl | decide +kernel)
    (case mBB => k_is)
    (case iTE => k_is)
    (case vB => k_is)
    (case noT => first | rfl | decide +kernel)
    (case noM => k_is)
    (case anyS => k_is)
    (case moB => k_is)
    (case eTE => k_is)
    (case hTE => k_is)
    (case tTE => k_is)
    (case sTE => k_is)
    (case sBB => k_is)
    (case iBT => k_is)
    (case tBT => k_is)
    (case sBT => k_is)
    (case iBS => k_is)
    (case tBS => k_is)
    (case sBS => k_is)
    (case z_len => k_is)
    (case z_set => k_is)
    (case z_all => k_is)
    (case z_abs => k_is)
    (case z_int => k_is)
    (case z_range => k_is)
    (case z_sorted => k_is)
    (case z_isinstance => k_is)
    (case z_str => k_is)
    (case z_bool => k_is)
    (case z_ValueError => k_is)

