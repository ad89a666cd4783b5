import PyProof.Rows.All
import Wide.All
import OpenK.AllK
import Wide.FinOn
import HandS.ForExc
import HandS.ExcInit
import HandS.ExcField
import HandS.FStr
import HandS.ExcSuper
import KE.KExcSuper
import HandS.Strs
import HandS.Zip
import HandS.ForMost
import HandS.More
import PyProof.CollectStr
import HandS.ExcIs
import HandS.IsInst
import HandS.SlotsOwn
import HandS.Walk
import PyProof.ListStr
import HandS.Property
import HandS.Text
import HandS.Conv
import HandS.ExcOwn
import HandS.Replace
import PyProof.ToksMono
import PyProof.StrLawsReplace
import HandS.ClsMeth
import HandS.Defaults
import PySem.Challenge.RW_talepost_k45_marks_and_kept
import HandS.WordsExc
import PyProof.StrLawsRepr
import HandS.TupLe
set_option Elab.async false
set_option linter.all false
set_option maxRecDepth 100000
set_option maxHeartbeats 2000000
namespace Vk
open PySem PySem.Spec PyProof.Rows L2

/-- the context of a body that closes over its class's cell -/
def cxS (CX : CXT) (P : Program) (w : World) (K : PySem.W.Frag) (mg : Str → Option Value) (base : Heap) (N : List Str) (qual : Str) (scope : Scope) (f cc : Addr) (cd : Value) (A : Around) (outer : List Env) (s : Shared) (H : Hp) (E : XK) : Cx where
  prog := P
  w := w
  K := K
  mg := mg
  base := base
  A := A.deeper (PySem.W.ksEnv qual scope s.heap.objs.size f cd cc)
  N := N
  s_0 := s
  H_0 := H
  env := PySem.W.ksEnv qual scope s.heap.objs.size f cd cc
  outer := outer
  stack := PySem.W.ksEnv qual scope s.heap.objs.size f cd cc :: outer
  ex := []
  calm := true
  fn := fun _ => false
  pn := []
  xe := fun e s' => wpAny (model P w) (A.deeper (PySem.W.ksEnv qual scope s.heap.objs.size f cd cc)) (leaving (PySem.W.ksEnv qual scope s.heap.objs.size f cd cc) e) (fun _ s'' => CX outer H s E e s'') (fun e' s'' => CX outer H s E e' s'') s'

/-- what the text has written of an own exception class at C and its __init__ at fI, whose code is at cda, its cell at cc -/
structure SupC (P : Program) (K : PySem.W.Frag) (mg : Str → Option Value) (C cc cda : Addr) : Prop where
  oex : OexC K C
  cell : ∃ cl cld csl, K.lookup cc = some ⟨cl, cld, .cell (some (.ref C)), csl⟩
  code : ∃ (ccl : Value) (cdd : Option Addr) (vs : Array Value) (ccs : Array (Option Value)) (file : Str) (tf : Tok), K.lookup cda = some ⟨ccl, cdd, .fields vs, ccs⟩ ∧ vs[2]? = some (.str file tf) ∧ ((P.main.file : Str) == file) = true
  sub : PySem.W.mroIn K C (.ref C) = some true
  sup : PySem.W.ks_superIn K C C "__init__" = some (some (.builtin "ValueError.__init__"))
  subV : PySem.W.subIn K (.ref C) (.type "ValueError") = some true
  noTop : (P.main.scope.names.lookup ("super" : Str)).isSome = false
  noMg : mg "super" = none
  any : PySem.W.nsIn K cStatics "thirdparty.any" = some none

structure SScope (N : List Str) (sc : Scope) : Prop where
  kind : sc.kind = .function
  co : sc.isCoroutine = false
  gen : sc.isGenerator = false
  nd : N.Nodup
  par : ∀ x ∈ N, sc.names.lookup x = some .local
  nocell : ∀ x ∈ sc.names, x.2 ≠ .cell
  free : ∀ x, sc.names.lookup x = some .free → x = "__class__"
  sup : sc.names.lookup ("super" : Str) = some .globalImplicit
  cls : sc.names.lookup ("__class__" : Str) = some .free

theorem rev_get {N : List Str} {us : List Value} (hlen : N.length = us.length) (nd : N.Nodup) {i : Nat} {x : Str} {u : Value} (h1 : N[i]? = some x) (h2 : us[i]? = some u) : (N.zip us).reverse.lookup x = some u := by
  have key : ∀ (l : List (Str × Value)), (l.map (·.1)).Nodup → ∀ x u, (x, u) ∈ l → l.lookup x = some u := by
    intro l
    induction l with
    | nil => intro _ _ _ h; cases h
    | cons p l ih =>
      intro hn x u hm
      obtain ⟨a, b⟩ := p
      simp only [List.map_cons, List.nodup_cons] at hn
      rcases List.mem_cons.mp hm with e | hm
      · cases e
        simp [List.lookup]
      · have hne : (x == a) = false := by
          have : x ≠ a := fun z => hn.1 (z ▸ List.mem_map_of_mem hm)
          simpa using this
        simp [List.lookup, hne, ih hn.2 x u hm]
  have hz : (N.zip us)[i]? = some (x, u) := by
    rw [List.getElem?_zip_eq_some]
    exact ⟨h1, h2⟩
  refine key _ ?_ _ _ (List.mem_reverse.mpr (List.mem_of_getElem? hz))
  rw [List.map_reverse]
  refine (List.pairwise_reverse (R := fun a b : Str => a ≠ b)).mpr ?_
  refine List.Pairwise.imp (R := fun a b : Str => a ≠ b) (fun h => Ne.symm h) ?_
  rw [List.map_fst_zip (Nat.le_of_eq hlen)]
  exact nd

theorem inv_s {CX : CXT} {P : Program} {w : World} {K : PySem.W.Frag} {mg : Str → Option Value} {base : Heap} {N : List Str} {qual : Str} {scope : Scope} {f cc : Addr} {cd : Value} {A : Around} {outer : List Env} {s : Shared} {H : Hp} {E : XK} {us : List Value} {vs : List V} {h1 : Heap} {tk : Nat} {oc : Value} {ocd : Option Addr} {osl : Array (Option Value)} {cv : Option Value}
    (S : SScope N scope) (hd : A.handled = none) (e0 : Env0 P w K mg base A outer s H) (hl : vs.length = N.length) (r : Vals vs us) (hcell : K.lookup cc = some ⟨oc, ocd, .cell cv, osl⟩)
    (hns : h1.Ns s.heap.objs.size (fun x => (N.zip us).reverse.lookup x)) (hk : ∀ b o, s.heap.get? b = some o → h1.get? b = some o) :
    Inv (cxS CX P w K mg base N qual scope f cc cd A outer s H E) [] (vs.map some) H { s with heap := h1, toks := tk } := by
  have noA : ∀ b : Addr, b ∉ (cxS CX P w K mg base N qual scope f cc cd A outer s H E).ex := fun b z => absurd (show b ∈ ([] : List Addr) from z) (by simp)
  have hcs : ∀ y c, (cxS CX P w K mg base N qual scope f cc cd A outer s H E).env.cells.lookup y = some c → y = "__class__" ∧ c = cc := fun y c h => by
    have h' : List.lookup y [(("__class__" : Str), cc)] = some c := h
    by_cases e : y = "__class__"
    · subst e
      simp [List.lookup] at h'
      exact ⟨rfl, h'.symm⟩
    · have q : (y == ("__class__" : Str)) = false := by simpa using e
      simp [List.lookup, q] at h'
  have hcb : ∃ o, base.get? cc = some o ∧ o.data = .cell cv := ⟨_, e0.mod.kin _ _ hcell, rfl⟩
  obtain ⟨ob, hb1, hb2⟩ := hcb
  refine ⟨⟨e0.mod, S.kind, rfl, rfl, Nat.le_refl _, fun y z c h1 h2 => ?_, fun y hy => ?_, fun y c h _ => absurd h (by show ¬ (false = true); decide), fun _ => hd, Around.frames_deeper e0.frames, .inr ⟨rfl, rfl⟩, fun b z => absurd z (noA b), e0.bs, e0.bsz, fun b _ _ => noA b, fun b z => absurd z (noA b), e0.funs, e0.frf⟩,
    rfl, e0.bare, Un.kept hk, ⟨_, hns, fun i y v h1 h2 h3 => ?_⟩, fun y c h => ?_, e0.hok.fresh (Nat.le_refl _), fun y c h => ?_, fun p hp => absurd (show p ∈ ([] : List (Addr × Obj)) from hp) (by simp), e0.hok.kept hk, ?_⟩
  · exact (hcs y c h1).1.trans (hcs z c h2).1.symm
  · have hy : scope.names.lookup y = some .cell ∨ scope.names.lookup y = some .free := hy
    rcases hy with hy | hy
    · exact absurd rfl (S.nocell _ (PySem.mem_of_lookup hy))
    · have e := S.free y hy
      subst e
      exact ⟨cc, by show List.lookup ("__class__" : Str) [(("__class__" : Str), cc)] = _; simp [List.lookup]⟩
  · have h1' : N[i]? = some y := h1
    have ha : vs[i]? = some v := by
      rw [List.getElem?_map] at h2
      cases e : vs[i]? with
      | none => rw [e] at h2; cases h2
      | some a => rw [e] at h2; cases h2; rfl
    obtain ⟨u, hu, rv⟩ := r.get ha
    exact ⟨u, rv, .inl ⟨S.par y (List.mem_of_getElem? h1'), rev_get (hl.symm.trans r.length) S.nd h1' hu⟩⟩
  · obtain ⟨_, rfl⟩ := hcs y c h
    exact ⟨cv, ob, hk _ _ (e0.bs _ _ hb1).1, hb2⟩
  · obtain ⟨_, rfl⟩ := hcs y c h
    exact (e0.bs _ _ hb1).2
  · show (vs.map some).length = N.length
    rw [List.length_map, hl]

/-- ValueError.__init__ bound to the exception at e, called -/
theorem call_bv {prog : Program} {w : World} {A : Around} {E : Value → Shared → Prop} {h : Heap} {g : Array GenState} {d : Drawn} {t : Nat} {os : OsState}
    {nm q : Str} {C N : Addr} {bs bm : List Value} {hdct : Bool} {sn : List Str} {sub : List Value} {ab : Bool} {col : Option Bool} {dd : Option Addr} {k0 k1 k2 k3 k5 : Option Value}
    {u e t0 : Addr} {rest : List Value} {Q : Value → Shared → Prop}
    (hC : h.get? C = some (excClassObj nm q C N bs bm hdct sn sub ab col dd k0 k1 k2 k3 k5 "ValueError.__new__")) (he : h.get? e = some (HandSPX.excO C t0)) (hu : h.get? u = some (PySem.W.kxs_mw "ValueError.__init__" e)) (hrest : rest.length ≤ sizeLine)
    (hq : ∀ h' t1, (∀ b o, b ≠ e → h.get? b = some o → h'.get? b = some o) → h'.get? e = some (HandSPX.excO C t1) → Q .none ⟨h', g, d, t, os⟩) :
    wpAny (model prog w) A (call (.ref u) rest) Q E ⟨h, g, d, t, os⟩ := by
  refine wpAny_call (codeAny_of_tree ?_)
  show wpAny _ A.in1 (callAny (.ref u) ⟨rest, []⟩) _ _ _
  unfold callAny
  refine wpAny_bind (wpAny_load hu ?_)
  simp only [PySem.W.kxs_mw, show (Value.type "method-wrapper" == Value.type "method" || Value.type "method-wrapper" == Value.type "builtin_function_or_method" || Value.type "method-wrapper" == Value.type "method-wrapper") = true from by decide, if_true]
  refine W.KFB.if_so (by decide) ?_
  refine wpAny_bind (PySem.ESX.check_bound F.excBase_ValueError hC he rfl ?_)
  refine wpAny_bind (wpAny_pure (wpAny_pure ?_))
  refine ⟨plainId_quiet F.excBase_ValueError.init.plain _, codeAny_builtin F.excBase_ValueError.initEntry ?_⟩
  refine PySem.W.exc_init_tree (cls := .ref C) (t0 := t0) (dv := none) (c2 := .none) (c3 := .none) (b4 := .bool false) he hrest fun h' k e' _ => hq h' _ k e'

/-- what super().__init__(e) asks: the argument; the exception, fresh -/
def tSup (C : Addr) (te : TE) : TS := fun D σ H => te σ H fun _ H1 => (∃ a, σ[0]? = some (some (.ref a)) ∧ H1 a = some (exo a C none)) ∧ D.nx σ H1

theorem fn_super {CX : CXT} {P : Program} {w : World} {K : PySem.W.Frag} {mg : Str → Option Value} {base : Heap} {k : Nat} {f C cc cda : Addr} {name qual self : Str} {params : Arguments} {body : List Stmt} {scope : Scope} {dV kV doc pm ct oc : Value} {an od : Option Addr}
    {osl : Array (Option Value)} {N : List Str} {sp : Sp} {parts : List Expr} {rest : List Stmt} {p0 p1 p2 p3 p4 jp : Pos} {ar : Arg} {N' : List Str} {pl : Sem Bool}
    (T : SupC P K mg C cc cda)
    (lk : K.lookup f = some ⟨oc, od, .func (PySem.W.ksFn name qual params body scope dV kV doc pm an (.ref cda) ct cc), osl⟩) (hcd : PySem.W.codeIn K (.ref cda) qual = true) (S : SScope N scope) (hN : N = self :: N')
    (hpar : (params.posonlyargs ++ params.args).head? = some ar) (har : ar.arg = self)
    (hbd : body = .Expr (.Call (.Attribute (.Call (.Name "super" p0) [] [] p1) "__init__" p2) [.JoinedStr parts jp] [] p3) p4 :: rest)
    (hcall : ∀ env : Env, eval (.Call (.Attribute (.Call (.Name "super" p0) [] [] p1) "__init__" p2) [.JoinedStr parts jp] [] p3) env = (do
      let ov ← attributeBase (.Call (.Name "super" p0) [] [] p1) "__init__" env (eval (.Call (.Name "super" p0) [] [] p1) env)
      standAt p2.atName
      let (f, first) ← holding [ov] (getMethod ov "__init__" pl)
      callWith p3 f first (backTo p3 (starEach [.JoinedStr parts jp] env)) []))
    (hsw : ∀ env : Env, swapsWith (.Call (.Attribute (.Call (.Name "super" p0) [] [] p1) "__init__" p2) [.JoinedStr parts jp] [] p3) none p4.line env = pure false)
    (len : ∀ vs H Q E, sp vs H Q E → vs.length = N.length)
    (hbody : ∀ (A : Around) (outer : List Env) (s : Shared) (H : Hp) (vs : List V) (Q : VK) (E : XK), Room k (A.deeper (PySem.W.ksEnv qual scope s.heap.objs.size f (.ref cda) cc)) → sp vs H Q E →
      ∃ te t, PE (cxS CX P w K mg base N qual scope f cc (.ref cda) A outer s H E) (.JoinedStr parts jp) te ∧ PSs (cxS CX P w K mg base N qual scope f cc (.ref cda) A outer s H E) rest t ∧
        (∃ a, vs[0]? = some (.ref a) ∧ H a = some (exo a C none)) ∧ tSeq (tSup C te) t { nx := fun _ H' => Q .non H', rt := Q } (vs.map some) H) :
    FnOk P w K mg base CX (k + 1) f (PySem.W.ksFn name qual params body scope dV kV doc pm an (.ref cda) ct cc) N sp := by
  refine ⟨len, fun A outer s H args us vs Q E hr e0 hb r hsp => ?_⟩
  have hl := len _ _ _ _ hsp
  have KX : K.In s.heap := e0.mod.kin.keeps fun b o e => (e0.bs b o e).1
  have lim : s.heap.NoLimit := e0.mod.nolimit.keeps fun b o e => (e0.bs b o e).1
  obtain ⟨cl, cld, csl, hcell⟩ := T.cell
  obtain ⟨ccl, cdd, vsC, ccs, file, tf, hcode, hvs2, hfile⟩ := T.code
  obtain ⟨nm, q, Nc, bs, bm, sn, sub, ab, col, dd, k0, k1, k2, k3, k5, hC, hbm⟩ := T.oex.cls
  obtain ⟨te, t, hpe, hps, ⟨a, ha0, hea⟩, hq⟩ := hbody A outer s H vs Q E (hr.deeper _) hsp
  refine ks_codeAny_call_defAt (fd := PySem.W.ksFn name qual params body scope dV kV doc pm an (.ref cda) ct cc) (body := body) (binds := N.zip us) hr.depth (KX _ _ lk) rfl lim (PySem.W.codeRec_of KX hcd) rfl hb S.nocell (fun y hy => S.par y.1 (List.of_mem_zip (a := y.1) (b := y.2) hy).1) (fun h1 hns hk => ?_) S.co S.gen S.kind
  have I : Inv (cxS CX P w K mg base N qual scope f cc (.ref cda) A outer s H E) [] (vs.map some) H { s with heap := h1, toks := s.toks + (N.zip us).length } := inv_s S hr.hd e0 hl r hcell hns hk
  subst hbd
  subst hN
  have ka0 : ∃ u0 us', us = u0 :: us' := by
    cases us with
    | nil => have q := r.length; rw [hl] at q; exact absurd q (by simp)
    | cons u0 us' => exact ⟨u0, us', rfl⟩
  obtain ⟨u0, us', rfl⟩ := ka0
  have hu0 : u0 = Value.ref a := by
    cases r with
    | cons r0 rt =>
      rw [List.getElem?_cons_zero] at ha0
      cases ha0
      exact r0
  subst hu0
  have hL : ((self :: N').zip (Value.ref a :: us')).reverse.lookup self = some (Value.ref a) := rev_get (by rw [← r.length]; exact hl.symm) S.nd (i := 0) rfl rfl
  have hself : scope.names.lookup self = some .local := S.par self List.mem_cons_self
  have hne : a ≠ C := fun z => by
    obtain ⟨t1, ho⟩ := exo_at e0.hok hea
    rw [z, KX _ _ hC] at ho
    cases ho
  generalize hs1 : s.toks + ((self :: N').zip (Value.ref a :: us')).length = tk1 at I ⊢
  obtain ⟨hp0, g, d, tk, os⟩ := s
  let env := PySem.W.ksEnv qual scope hp0.objs.size f (.ref cda) cc
  show PySem.wpAt (model P w) (A.deeper env) (.func (.Expr (.Call (.Attribute (.Call (.Name "super" p0) [] [] p1) "__init__" p2) [.JoinedStr parts jp] [] p3) p4 :: rest) env) (execs (.Expr (.Call (.Attribute (.Call (.Name "super" p0) [] [] p1) "__init__" p2) [.JoinedStr parts jp] [] p3) p4 :: rest) env) _ _ _
  have hint : interactive env = false := by
    unfold interactive
    rw [show env.scope.kind = ScopeKind.function from S.kind]
    rfl
  refine ks_wpAt_execs_cons (ks_wpAt_Expr_any (ks_wpAt_MethodCall (pl := pl) ?_ (hcall env)) hint (hsw env))
  · refine ks_wpAt_super_base (env := env) S.sup S.cls (by decide) rfl (hk _ _ (KX _ _ lk)) rfl hpar rfl (hk _ _ (KX _ _ hcode)) rfl hvs2 hfile T.noTop ?_
    obtain ⟨mb, hb1, hb2⟩ := I.mod.blt
    have hbs : mb ("super" : Str) = some (.type "super") := (hb2 _ (by decide)).trans (by decide +kernel)
    refine PySem.W.ks_loadName_global (env := env) S.kind S.sup (Calls.loadGlobal_builtin (env := env) (I.mod.glob.keeps I.bk) T.noMg (hb1.keeps I.bk) hbs ⟨rfl, ?_⟩)
    refine wpAny_loadName_free (env := env) S.kind S.cls rfl ⟨_, hk _ _ (KX _ _ hcell), rfl⟩ ?_
    rw [har]
    refine wpAny_loadName_local (env := env) S.kind hself hns hL ?_
    have KX1 : K.In h1 := KX.keeps hk
    have hC1 := KX1 _ _ hC
    obtain ⟨t1, hx1⟩ := exo_at I.hok hea
    have hcl : PySem.W.clsIn K C = some { name := nm, bases := bs, mro := .ref C :: bm, ns := Nc, qualname := q, hasDict := true, slotNames := sn, subclasses := sub, abstract := ab, collection := col, hasDel := false } := by unfold PySem.W.clsIn; rw [hC] <;> rfl
    have hsup := T.sup
    unfold PySem.W.ks_superIn at hsup
    rw [hcl] at hsup
    refine ks_wpAny_isType_cls hC1 rfl ⟨rfl, ?_⟩
    refine ks_wpAny_call_super hC1 rfl hx1 rfl (fun c z => by cases z) (PySem.W.looks_mroIn KX1 T.sub) (fun h2 e2 k2 => ?_)
    have I1 : Inv (cxS CX P w K mg base (self :: N') qual scope f cc (.ref cda) A outer ⟨hp0, g, d, tk, os⟩ H E) [] (vs.map some) H ⟨h2, g, d, tk1, os⟩ := I.kept (t' := tk1) k2
    have KX2 : K.In h2 := KX1.keeps k2
    have J2 : PySem.W.InstAt h2 a ({ cls := .ref C, dict := none, data := .fields #[.ref t1, .none, .none, .none, .bool false, .none] } : Obj) C none := ⟨k2 _ _ hx1, rfl, rfl, trivial⟩
    refine PySem.W.kxs_getMethod PySem.W.kxs_ValueError e2 (PySem.W.looks_opaque KX2 T.any) (fun A Q E s k q => wpAny_bind ((PySem.W.looks_clsIn KX2 hcl) A _ E s k (wpAny_pure q))) rfl KX2 hsup (J2.type.andThen (PySem.W.looks_subIn KX2 T.subV)) hne (by decide) ?_
    have fp := I1.fpOk (b := h2.objs.size) (H' := H) (Nat.le_refl _) (I1.hok.fresh (Nat.le_refl _))
    have I2 : Inv (cxS CX P w K mg base (self :: N') qual scope f cc (.ref cda) A outer ⟨hp0, g, d, tk, os⟩ H E) [(h2.objs.size, PySem.W.kxs_mw "ValueError.__init__" a)] (vs.map some) H ⟨h2.push (PySem.W.kxs_mw "ValueError.__init__" a), g, d, tk1 + 1, os⟩ :=
      (I1.kept (t' := tk1 + 1) (h' := h2.push (PySem.W.kxs_mw "ValueError.__init__" a)) fun b o z => Heap.get?_push_of_some _ z).pins_of fun p hp => by
        have ep : p = (h2.objs.size, PySem.W.kxs_mw "ValueError.__init__" a) := by simpa using hp
        subst ep
        exact ⟨Heap.get?_push_at rfl rfl, fp.1, fp.2.1, fp.2.2.1, fun v z => by cases z⟩
    have hst : starEach [Expr.JoinedStr parts jp] env = (false, eval (.JoinedStr parts jp) env) :: starEach [] env := rfl
    rw [hst]
    refine PySem.W.kxs_callWith (i := "ValueError.__init__") (x := a) (by rfl) (Calls.evalArgs_plain ?_)
    refine Calls.spliced_cons (thn (hpe.run [(h2.objs.size, PySem.W.kxs_mw "ValueError.__init__" a)] _ (vs.map some) H _ I2 hq) fun u1 s3 hh => Calls.spliced_nil ?_)
    obtain ⟨v1, H3, I3, r3, ⟨a', ea', hea3⟩, q3⟩ := hh
    have ea2 : a' = a := by
      rw [List.getElem?_map, ha0] at ea'
      cases ea'
      rfl
    subst ea2
    have hu3 : s3.heap.get? h2.objs.size = some (PySem.W.kxs_mw "ValueError.__init__" a') := (I3.pin (h2.objs.size, PySem.W.kxs_mw "ValueError.__init__" a') (by simp)).1
    refine ⟨hu3, ?_⟩
    obtain ⟨t3, hx3⟩ := exo_at I3.hok hea3
    have KX3 := I3.kIn
    have hlen1 : [u1].length ≤ sizeLine := by
      rw [sizeLine_eq]
      exact (by decide : 1 ≤ 16777216)
    obtain ⟨hp3, g3, d3, tk3, os3⟩ := s3
    refine call_bv (KX3 _ _ hC) hx3 hu3 hlen1 fun h4 t4 k4 hx4 => ?_
    have J := I3.write (t' := tk3) (x := a') (e := a') (o := exo a' C none) (by rw [hea3]; exact True.intro) (.inl rfl) k4 ⟨_, hx4⟩ (exo_ok hx4)
    have eu : upd H3 a' (exo a' C none) = H3 := by
      funext b
      by_cases hb : b = a'
      · rw [hb, upd_same, hea3]
      · rw [upd_ne hb]
    rw [eu] at J
    have J0 : Inv (cxS CX P w K mg base (self :: N') qual scope f cc (.ref cda) A outer ⟨hp0, g, d, tk, os⟩ H E) [] (vs.map some) H3 ⟨h4, g3, d3, tk3, os3⟩ := Inv.unpinned (pins := []) J
    refine PySem.wpAt_of_wpAny ?_
    refine wpAny_mono (hps.run [] _ (vs.map some) H3 _ J0 q3) (fun fl s' hs => ?_) fun e s' hs => hs
    have fin : ∀ {σ' : L2.St} {H' : Hp} {v : V} {u : Value}, Inv (cxS CX P w K mg base (self :: N') qual scope f cc (.ref cda) A outer ⟨hp0, g, d, tk, os⟩ H E) [] σ' H' s' → RelV v u → Q v H' → CE outer P w H ⟨hp0, g, d, tk, os⟩ Q u s' :=
      fun {σ' H' v u} J rv q => ⟨v, H', J.os, J.bare, J.base, J.hok, rv, q⟩
    cases fl with
    | ret u =>
      obtain ⟨v, σ', H', J, rv, q⟩ := hs
      exact fin J rv q
    | next =>
      obtain ⟨σ', H', J, q⟩ := hs
      exact fin (v := V.non) (u := Value.none) J rfl q
    | brk =>
      obtain ⟨_, _, _, q⟩ := hs
      exact False.elim q
    | cont =>
      obtain ⟨_, _, _, q⟩ := hs
      exact False.elim q
end Vk

set_option Elab.async false
set_option linter.all false
set_option maxRecDepth 100000
set_option maxHeartbeats 4000000
/-! set(text) and len(set(text)), whatever the text -/
namespace Vk
open PySem PySem.Spec PyProof.Rows L2

/-- the different codes, in the order in which they are met -/
def met : List Nat → List Nat
  | [] => []
  | c :: r => if (met r).contains c then met r else c :: met r
def metAt (l : List Nat) (i : Nat) : List Nat := met (l.take i).reverse
theorem metAt_succ {l : List Nat} {i c : Nat} (h : l[i]? = some c) : metAt l (i + 1) = if (metAt l i).contains c then metAt l i else c :: metAt l i := by
  unfold metAt
  have e : l.take (i + 1) = l.take i ++ [c] := by
    rw [List.take_add_one, h]
    rfl
  rw [e, List.reverse_append]
  rfl
theorem met_len : ∀ l : List Nat, (met l).length ≤ l.length
  | [] => Nat.le_refl _
  | c :: r => by
    have ih := met_len r
    unfold met
    split
    · exact Nat.le_succ_of_le ih
    · simp only [List.length_cons]
      omega
theorem mem_met : ∀ (l : List Nat) (c : Nat), c ∈ met l ↔ c ∈ l
  | [], c => Iff.rfl
  | a :: r, c => by
    have ih := mem_met r
    unfold met
    by_cases h : (met r).contains a = true
    · rw [if_pos h, ih]
      have ha : a ∈ r := (ih a).mp (by simpa using h)
      constructor
      · exact fun q => List.mem_cons_of_mem _ q
      · intro q
        rcases List.mem_cons.mp q with rfl | q
        · exact ha
        · exact q
    · rw [if_neg h]
      simp only [List.mem_cons, ih]
theorem met_full : ∀ l : List Nat, (met l).length = l.length ↔ l.Nodup
  | [] => by simp [met]
  | a :: r => by
    have ih := met_full r
    have hl := met_len r
    unfold met
    by_cases h : (met r).contains a = true
    · rw [if_pos h]
      have ha : a ∈ r := (mem_met r a).mp (by simpa using h)
      constructor
      · intro e
        simp only [List.length_cons] at e
        omega
      · intro q
        exact absurd ha (List.nodup_cons.mp q).1
    · rw [if_neg h]
      have ha : a ∉ r := fun q => h (by simpa using (mem_met r a).mpr q)
      simp only [List.length_cons, List.nodup_cons, ha, not_false_eq_true, true_and, Nat.add_right_cancel_iff]
      exact ih
theorem nodup_rev {l : List Nat} : l.reverse.Nodup ↔ l.Nodup := by
  refine (List.pairwise_reverse (R := fun a b : Nat => a ≠ b)).trans ?_
  exact ⟨fun h => h.imp Ne.symm, fun h => h.imp Ne.symm⟩
theorem metAt_end (l : List Nat) : (metAt l l.length).length = l.length ↔ l.Nodup := by
  unfold metAt
  rw [List.take_length]
  have h := met_full l.reverse
  rw [List.length_reverse] at h
  exact h.trans nodup_rev
/-- the set of the signs met -/
def metS (l : List Nat) (i : Nat) : Str → Bool := fun k => (metAt l i).any fun c => decide (k = (⟨#[c]⟩ : Str))
theorem metS_mem {l : List Nat} {i c : Nat} : metS l i ⟨#[c]⟩ = (metAt l i).contains c := by
  unfold metS
  rw [Bool.eq_iff_iff, List.any_eq_true]
  constructor
  · rintro ⟨d, hd, e⟩
    have e1 : [c] = [d] := congrArg (fun y : Str => y.cps.toList) (of_decide_eq_true e)
    have e2 : c = d := (List.cons.inj e1).1
    simpa [e2] using hd
  · intro h
    exact ⟨c, by simpa using h, by simp⟩
theorem metS_step {l : List Nat} {i c : Nat} (h : l[i]? = some c) (k : Str) : (metS l i k || decide (k = (⟨#[c]⟩ : Str))) = metS l (i + 1) k := by
  unfold metS
  rw [metAt_succ h]
  by_cases q : (metAt l i).contains c = true
  · rw [if_pos q]
    by_cases e : k = (⟨#[c]⟩ : Str)
    · subst e
      have := metS_mem (l := l) (i := i) (c := c)
      unfold metS at this
      rw [this, q]
      rfl
    · simp [e]
  · rw [if_neg q, List.any_cons, Bool.or_comm]
theorem metN_step {l : List Nat} {i c : Nat} (h : l[i]? = some c) : (if metS l i ⟨#[c]⟩ = true then (metAt l i).length else (metAt l i).length + 1) = (metAt l (i + 1)).length := by
  rw [metAt_succ h, metS_mem]
  split
  · rfl
  · rfl

section
variable {prog : Program} {w : World} {A : Around} {R : Result → Shared → Prop} {I : Addr} {fp wr : List Addr} {G : Array GenState → Array GenState → Prop} {P : Nat → Value → Prop} {St : Nat → Shared → Prop}
theorem upd_text {l : List Nat} (W : WalksS prog w A.in1 I fp wr G l.length P St) (S : Addr) (hSf : S ∉ fp)
    (hval : ∀ i v, P i v → ∃ c t, l[i]? = some c ∧ v = .str ⟨#[c]⟩ t) (hb : l.length + 1 < scanBound) :
    ∀ (k i : Nat) (s : Shared), l.length - i = k → i ≤ l.length → St i s → s.heap.SetOf (strKind prog w) S (metS l i) (metAt l i).length →
      (∀ s', Moved (S :: wr) G s s' → s'.heap.SetOf (strKind prog w) S (metS l l.length) (metAt l l.length).length → R (.ok (.ret .none)) s') → codeAny (model prog w) A (.builtin "set.update.loop" ⟨[.ref S, .ref I], []⟩) R s := by
  have hSw : S ∉ wr := fun h => hSf (W.sub _ h)
  have hsub : ∀ b ∈ wr, b ∈ S :: wr := fun b hb => List.mem_cons_of_mem _ hb
  intro k
  induction k with
  | zero =>
    intro i s hk hi hst hS hR
    obtain rfl : i = l.length := by omega
    refine codeAny_builtin PyProof.Rows.F.entry_set_update_loop ?_
    rw [Around.under_plainId PyProof.Rows.F.plain_set_update_loop _]
    show wpAny _ A.in1 (pyNext (.ref I) >>= _) _ _ s
    refine wpAny_bind (W.done s _ _ hst fun s1 hm => ?_)
    show wpAny _ A.in1 (ret Value.none) _ _ s1
    refine wpAny_pure (hR s1 (hm.mono hsub) ?_)
    obtain ⟨o, es, ep, t, ho, more⟩ := hS
    exact ⟨o, es, ep, t, hm.heap S _ hSw ho, more⟩
  | succ k ih =>
    intro i s hk hi hst hS hR
    have hlt : i < l.length := by omega
    refine codeAny_builtin PyProof.Rows.F.entry_set_update_loop ?_
    rw [Around.under_plainId PyProof.Rows.F.plain_set_update_loop _]
    show wpAny _ A.in1 (pyNext (.ref I) >>= _) _ _ s
    refine wpAny_bind (W.item i s _ _ hlt hst fun v s1 hP hst1 hm => ?_)
    obtain ⟨c, t, hc, rfl⟩ := hval i v hP
    have hS1 : s1.heap.SetOf (strKind prog w) S (metS l i) (metAt l i).length := by
      obtain ⟨o, es, ep, tb, ho, more⟩ := hS
      exact ⟨o, es, ep, tb, hm.heap S _ hSw ho, more⟩
    show wpAny _ A.in1 (holding [Value.str ⟨#[c]⟩ t] (setAdd S (.str ⟨#[c]⟩ t)) >>= _) _ _ s1
    refine wpAny_bind (wpAny_holding ?_)
    unfold setAdd
    refine wpAny_holding (wpAny_bind ((strKind prog w).pyHash (k := ⟨#[c]⟩) (strKind_is _ _ _ _) ?_))
    have hroom : (metAt l i).length + 1 < scanBound := by
      have h1 := met_len (l.take i).reverse
      rw [List.length_reverse, List.length_take] at h1
      have h2 : (metAt l i).length ≤ min i l.length := h1
      omega
    refine wpAny_setAddHashed_of (knd := strKind prog w) (s := { s1 with toks := s1.toks + 1 }) (strKind_is _ _ _ _) rfl hS1 hroom fun h2 hsb hS2 => ?_
    have hSi : h2.SetOf (strKind prog w) S (metS l (i + 1)) (metAt l (i + 1)).length := SetOf_congr hS2 (fun y => metS_step hc y) (metN_step hc)
    refine wpAny_pure ⟨plainId_quiet PyProof.Rows.F.plain_set_update_loop _, ih (i + 1) _ (by omega) hlt (W.frame _ s1 _ _ hst1 (Nat.le_succ _) fun b hb o e => ?_) hSi fun s3 hm3 hS3 => ?_⟩
    · rw [hsb.2 b (fun z : b = S => hSf (by rw [← z]; exact hb))]
      exact e
    · refine hR s3 (Moved.trans W.gtrans ((hm.mono hsub).then_heap (Nat.le_succ _) fun b o hb e => ?_) hm3) hS3
      rw [hsb.2 b (fun z : b = S => hb (by rw [z]; exact List.mem_cons_self))]
      exact e
end

section
variable {prog : Program} {w : World} {A : Around} {E : Value → Shared → Prop} {s : Shared}
theorem call_set_text {x : Str} {t : Tok} {Q : Value → Shared → Prop} (hh : A.handled = none) (hb : x.cps.size + 1 < scanBound)
    (h : ∀ (h2 : Heap) (tk : Nat), h2.SetOf (strKind prog w) s.heap.objs.size (metS x.cps.toList x.cps.size) (metAt x.cps.toList x.cps.size).length →
      (∀ b o, b < s.heap.objs.size → s.heap.get? b = some o → h2.get? b = some o) → Q (.ref s.heap.objs.size) { s with heap := h2, toks := tk }) :
    wpAny (model prog w) A (call (.type "set") [.str x t]) Q E s := by
  obtain ⟨c, tl, hmro⟩ := PySem.F.called_set.mro
  have hmade := PySem.F.called_set.made
  have hsub := PySem.F.called_set.sub
  refine wpAny_call (codeAny_of_tree ?_)
  show wpAny _ _ (callAny (.type "set") _) _ _ _
  refine wpAny_pure ⟨Code.quiet_builtin _ (by decide +kernel), codeAny_builtin PySem.F.entry_type_call ?_⟩
  rw [Around.under_plain (weight_type_call_type "set" [.str x t] []) rfl]
  have h1 := PySem.F.called_set.notType
  have h2 := PySem.F.called_set.canCreate
  have hct := PySem.F.typeCall_set_1 (.str x t)
  repeat (any_goals (first | assumption | wp_step))
  refine codeAny_mono (code_set_new_1 (.str x t) (E := E) (Q₁ := fun obj s₁ => ∃ led : Bool, obj = .ref s.heap.objs.size ∧ s₁ = { s with heap := s.heap.push { cls := .type "set", dict := none, data := .set #[] 0 (.fresh 0 0 led) } }) fun led => ⟨led, rfl, rfl⟩) fun r s₁ hr => ?_
  cases r with
  | error e => exact hr
  | ok fl =>
    cases fl with
    | ret obj =>
      obtain ⟨led, rfl, rfl⟩ := hr
      have hS : (s.heap.push { cls := .type "set", dict := none, data := .set #[] 0 (.fresh 0 0 led) }).get? s.heap.objs.size = some { cls := .type "set", dict := none, data := .set #[] 0 (.fresh 0 0 led) } := Heap.get?_push_size _ rfl
      have hT : Shared.TypeIs { s with heap := s.heap.push { cls := .type "set", dict := none, data := .set #[] 0 (.fresh 0 0 led) } } (.ref s.heap.objs.size) "set" := ⟨_, hS, rfl⟩
      have hli := PySem.F.called_set.init.lookup
      have hbi := PySem.F.called_set.init.bind (.ref s.heap.objs.size)
      repeat (any_goals (first | assumption | wp_step))
      refine codeAny_mono (codeAny_call_builtin (R := wants (fun r s₂ => r = .none ∧ ∃ h2 tk, s₂ = { s with heap := h2, toks := tk } ∧
          h2.SetOf (strKind prog w) s.heap.objs.size (metS x.cps.toList x.cps.size) (metAt x.cps.toList x.cps.size).length ∧
          (∀ b o, b < s.heap.objs.size → s.heap.get? b = some o → h2.get? b = some o)) E) PySem.F.called_set.init.plain PySem.F.entry_set_init (check_set_init_1 hT ?_)) fun r₂ s₂ hr₂ => ?_
      · unfold Builtin.«set.__init__» noKeywords Builtin.Frozenset.updateFrom
        generalize hPI : pyIter = PI
        have hTx : Shared.TypeIs { s with heap := s.heap.push { cls := .type "set", dict := none, data := .set #[] 0 (.fresh 0 0 led) } } (.str x t) "str" := rfl
        have hsS : isSubtype (.type "str") (.type "set") = pure false := by rw [isSubtype_type]; kernel_rfl
        have hsF : isSubtype (.type "str") (.type "frozenset") = pure false := by rw [isSubtype_type]; kernel_rfl
        have hne : (Value.type "str" == Value.type "dict") = false := by decide
        wp_walk
        subst hPI
        refine wpAny_pyIter_str fun o St W hst => wpAny_bind (wpAny_runValue ?_)
        generalize hH : s.heap.push { cls := .type "set", dict := none, data := .set #[] 0 (.fresh 0 0 led) } = Hq at W hst hS ⊢
        have hHs : Hq.objs.size = s.heap.objs.size + 1 := by rw [← hH, Heap.size_push]
        have hSf : s.heap.objs.size ∉ [Hq.objs.size] := fun hm => by
          rw [List.mem_singleton] at hm
          omega
        have hh3 : A.in1.in1.in1.handled = none := by simp [hh]
        refine upd_text (l := x.cps.toList) ((W A.in1.in1.in1 hh3).toS) s.heap.objs.size hSf (fun i v hv => ?_) hb (x.cps.toList.length - 0) 0 _ (by omega) (Nat.zero_le _) hst ?_ ?_
        · obtain ⟨c, u, hc, e⟩ := hv
          exact ⟨c, u, by rw [Array.getElem?_toList]; exact hc, e⟩
        · exact SetOf_congr ((PyProof.Rows.setObjOf_fresh (knd := strKind prog w) led).setOf (Heap.get?_push_of_some _ hS) (by unfold scanBound; omega)) (fun _ => rfl) rfl
        · intro s1 hm hS1
          obtain ⟨h2, g2, d2, tk2, os2⟩ := s1
          have eg : g2 = s.gens := hm.gens
          have ed : d2 = s.drawn := hm.drawn
          have eo : os2 = s.os := hm.os
          subst eg; subst ed; subst eo
          show wpAny _ _ _ _ _ _
          refine wpAny_pure ?_
          show wpAny _ _ (ret Value.none) _ _ _
          refine wpAny_pure ⟨rfl, h2, tk2, rfl, hS1, fun b o hb2 e => hm.heap b o (fun z => ?_) (Heap.get?_push_of_some _ (by rw [← hH]; exact Heap.get?_push_of_some _ e))⟩
          rcases List.mem_cons.mp z with z | z
          · rw [z] at hb2
            exact Nat.lt_irrefl _ hb2
          · rw [List.mem_singleton] at z
            rw [z, hHs] at hb2
            exact Nat.not_succ_lt_self hb2
      · cases r₂ with
        | error e => exact hr₂
        | ok fl₂ =>
          cases fl₂ with
          | ret r =>
            obtain ⟨rfl, h2, tk, rfl, hS', hk'⟩ := hr₂
            repeat (any_goals (first | assumption | wp_step))
            exact h _ _ hS' hk'
          | _ => exact hr₂.elim
    | _ => exact hr.elim
end

/-- len(set(x)), x a text -/
def tLenSetT (ta : TE) : TE := fun σ H Q => ta σ H fun x H1 => ∃ z : Str, x = .str z ∧ z.length ≤ 4000 ∧ Q (.int ((metAt z.cps.toList z.cps.toList.length).length : Nat)) H1
theorem pe_lenSetT {X : Cx} {a : Expr} {ta : TE} {p p2 q pos : Pos} (hg : Gl X "len") (hm : X.mg "len" = none) (hg2 : Gl X "set") (hm2 : X.mg "set" = none) (ha : PE X a ta) (hc : X.calm = true := by rfl)
    (na : starEach [a] X.env = (false, eval a X.env) :: starEach [] X.env := by rfl) : PE X (.Call (.Name "len" p) [.Call (.Name "set" p2) [a] [] q] [] pos) (tLenSetT ta) := by
  refine ⟨fun pins s σ H Q I h => ?_⟩
  refine Call_ (ld_blt I hg hm boot_len (PyProof.Rows.callWith_builtin1 (PyProof.Rows.args_cons ?_ rfl) rfl rfl))
  refine Call_ (ld_blt I hg2 hm2 boot_set ?_)
  refine PyProof.Rows.callWith_type1 (PyProof.Rows.args_cons (thn (ha.run pins s σ H _ I h) fun v s1 hh => PyProof.Rows.args_nil ?_) na) na rfl
  obtain ⟨x, H1, I1, r1, z, rfl, hz, q1⟩ := hh
  obtain ⟨t, rfl⟩ := r1
  have hz2 : z.cps.size ≤ 4000 := hz
  refine call_set_text (I1.ok.hd hc) (by unfold scanBound; omega) fun h2 tk hS hk => PyProof.Rows.args_nil ?_
  obtain ⟨o, es, ep, tb, ho, hex, hd, _, _, _, hf, hn⟩ := hS
  have I2 : Inv X pins σ H1 { s1 with heap := h2, toks := tk } := I1.kept fun b o e => hk b o (Heap.lt_size e) e
  have hle : (metAt z.cps.toList z.cps.size).length ≤ z.cps.size := by
    have h1 := met_len (z.cps.toList.take z.cps.size).reverse
    rw [List.length_reverse, List.length_take] at h1
    exact Nat.le_trans h1 (Nat.min_le_left _ _)
  exact call_len_set ho hex hd hf (by rw [hn]; omega) ⟨.int ((metAt z.cps.toList z.cps.toList.length).length : Nat), H1, I2.tok _, ⟨_, by rw [hn]; rfl⟩, q1⟩
end Vk

set_option Elab.async false
set_option linter.all false
set_option maxRecDepth 100000
set_option maxHeartbeats 4000000
/-! sorted(text): the signs of a text in order; list(text) -/
namespace Vk
open PySem PySem.Spec PyProof.Rows L2
def signsOf (z : Str) : List Str := z.cps.toList.map fun c => (⟨#[c]⟩ : Str)
theorem signs_strs {z : Str} {acc : Array Value} (h : ItemsOf (SignAt z) acc z.cps.size) : StrsAre acc.toList (signsOf z) := by
  have hsz : acc.size = z.cps.size := h.1
  have hL : acc.toList.length = (signsOf z).length := by
    rw [Array.length_toList, hsz]
    unfold signsOf
    rw [List.length_map, Array.length_toList]
  refine strs_at hL fun j v e => ?_
  have e1 : acc[j]? = some v := by rw [← Array.getElem?_toList]; exact e
  obtain ⟨c, u, hc, ev⟩ := h.2 j v e1
  refine ⟨⟨#[c]⟩, u, ?_, ev⟩
  unfold signsOf
  rw [List.getElem?_map, Array.getElem?_toList, hc]
  rfl
section
variable {X : Cx}
def rSortT : List V → Hp → VK → Prop := fun vs H Q => ∃ z : Str, vs = [.str z] ∧ z.length < 64 ∧
  ∀ ys p, ys.Perm (signsOf z) → sortedS ys = true → H p = none → Q (.ref p) (upd H p (.lst (ys.map V.str)))
theorem cr_sortT (hcalm : X.calm = true) : CallR X (.builtin "sorted") rSortT := by
  intro pins s σ H xs us Q I r q
  obtain ⟨z, ex, h64, q⟩ := q
  subst ex
  obtain ⟨u, eu, rx⟩ := vals1 r
  subst eu
  obtain ⟨t, rfl⟩ := rx
  have hz2 : z.cps.size < 64 := h64
  refine Calls.call_function_entry PyProof.Rows.kind_sorted PyProof.Rows.plain_sorted PyProof.Rows.entry_sorted (PyProof.Rows.args_sorted1 _) ?_
  unfold Builtin.«sorted»
  refine wpAny_bind (m := checkCount "sorted" 1 1 _) (wpAny_pure ?_)
  refine wpAny_bind (wpAny_collect_str (A := X.A.in1) (I.ok.hd hcalm) z t (fun s1 acc hk hg hd ho hacc => ?_) (by rw [sizeLine_eq]; omega))
  obtain ⟨h1, g1, d1, tk1, os1⟩ := s1
  have eg : g1 = s.gens := hg
  have ed : d1 = s.drawn := hd
  have eo : os1 = s.os := ho
  subst eg; subst ed; subst eo
  have hS := signs_strs hacc
  have hal : acc.toList.length = z.cps.size := by rw [Array.length_toList]; exact hacc.1
  have I1 : Inv X pins σ H { s with heap := h1, toks := tk1 } := I.kept hk
  refine wpAny_bind (wpAny_newList ?_ (by rw [hal, sizeLine_eq]; omega))
  have hoL : (h1.push (seqObj "list" acc.toList.toArray 0)).get? h1.objs.size = some (seqObj "list" acc.toList.toArray 0) := Heap.get?_push_size _ rfl
  show wpAny _ _ _ _ _ { s with heap := h1.push (seqObj "list" acc.toList.toArray 0), toks := tk1 }
  refine wpAny_bind (wpAny_holding (wpAny_call_entry PyProof.Rows.slot_list_sort ⟨_, hoL, rfl⟩ PyProof.Rows.entry_list_sort
    (list_sort_treeK strKind_oneLt (s := { s with heap := h1.push (seqObj "list" acc.toList.toArray 0), toks := tk1 }) hoL hS.keysOf (fun v₁ v₂ more e => keyKind_strs (by rw [← e]; exact hS)) (by rw [hal]; exact hz2) fun st2 hp hs => ⟨_, rfl, ?_⟩)
    (PyProof.Rows.args_list_sort _)))
  obtain ⟨ys, g1, g2, g3⟩ := sorted_out_str hS hp hs
  obtain ⟨e', he'⟩ := PyProof.Rows.sortedHeap_at (vs := acc.toList) (out := (arrOf st2).map (·.2)) hoL
  have hlen : (ys.map V.str).length ≤ sizeLine := by
    rw [List.length_map, g2.length_eq]
    unfold signsOf
    rw [List.length_map, Array.length_toList, sizeLine_eq]
    omega
  refine wpAny_pure ⟨_, rfl, .ref h1.objs.size, upd H h1.objs.size (.lst (ys.map V.str)), I1.laid (t' := tk1) (fun b u e => ?_) (Nat.le_refl _)
    (show ObjOk X.prog X.w _ _ _ (.lst (ys.map V.str)) from ⟨hlen, ((arrOf st2).map (·.2)).toList, e', vals_of_strs g1, by rw [Array.toArray_toList]; exact he'⟩), rfl, q ys _ g2 g3 (I1.hok.fresh (Nat.le_refl _))⟩
  have hb : b < h1.objs.size := Heap.lt_size e
  rw [PyProof.Rows.sortedHeap_old (Nat.ne_of_lt hb) (by rw [size_push']; exact Nat.lt_succ_of_lt hb)]
  exact Heap.get?_push_of_some _ e
/-- list(x), x a text -/
def rListT : List V → Hp → VK → Prop := fun vs H Q => ∃ z : Str, vs = [.str z] ∧ z.length ≤ 4000 ∧ ∀ p, H p = none → Q (.ref p) (upd H p (.lst ((signsOf z).map V.str)))
end
/-! sorted texts: two arrangements of the same texts are one -/
theorem lt_irr (a : List Nat) : ltCps a a = false := by
  rw [ltCps_eq]
  exact decide_eq_false (List.lt_irrefl a)
end Vk

set_option Elab.async false
set_option linter.all false
set_option maxRecDepth 100000
set_option maxHeartbeats 4000000
namespace Vk
open PySem PySem.Spec PyProof.Rows L2
/-! isinstance of a caught error that has a dict -/
section
open PySem.W
variable {prog : Program} {w : World} {A : Around} {E : Value → Shared → Prop} {s : Shared} {K : Frag} {x D : Addr} {ox od : Obj}
theorem cls_of_exc {Q : Option Value → Shared → Prop} (T : ExcC K D) (X : K.In s.heap) (I : InstAt s.heap x ox D (some od)) (h : Q (some (.ref D)) { s with toks := s.toks + 1 }) : wpAny (model prog w) A (getAttr? (.ref x) "__class__") Q E s := by
  have hf : findObj K D (some od) "__class__" = some (.bind (.builtin "getset_descriptor.__get__") (.builtin "object.__class__")) :=
    findObj_data (by obtain ⟨cd, hc, _⟩ := any_some T.hd; rw [hc]; rfl) T.ha T.hn T.ht
  obtain ⟨hp, g, d, t, os⟩ := s
  have K0 := I.type (M := model prog w)
  have K1 := looks_findIn (M := model prog w) X T.hg
  have K2 := looks_findIn (M := model prog w) X T.hk
  have K3 := looks_find (M := model prog w) X I hf
  have sub : Looks (model prog w) hp (isInstance (.ref x) (.type "BaseException")) true := K0.andThen (looks_subIn X T.hs)
  have q0 : (false && onTheHeap (Value.builtin "BaseException.__getattribute__")) = false := rfl
  have q2 : (Value.builtin "BaseException.__getattribute__" == Value.builtin "object.__getattribute__") = false := by decide +kernel
  have q1 : (onTheHeap (Value.ref D) && Value.builtin "BaseException.__getattribute__" == Value.builtin "object.__getattribute__") = false := by rw [q2]; rfl
  unfold getAttr? getAttrBy? getAttrBy
  refine wpAny_bind (wpAny_mkText (wpAny_bind (wpAny_attempt (wpAny_holding (wpAny_bind (K0.at (wpAny_bind (K1.at ?_))))))))
  show wpAny _ _ (if (onTheHeap (Value.ref D) && Value.builtin "BaseException.__getattribute__" == Value.builtin "object.__getattribute__") = true then _ else _) _ _ _
  rw [q1, if_neg Bool.false_ne_true]
  unfold getAttrByItsOwn hookBefore
  refine wpAny_bind ?_
  rw [if_pos (show onTheHeap (Value.ref D) = true from rfl)]
  refine K2.at (wpAny_bind (wpAny_attempt (wpAny_holding ?_)))
  unfold callGetattribute
  rw [q0, if_neg Bool.false_ne_true]
  unfold boundAndCalled
  rw [PySem.F.excAttr_ValueError.ga.bind (.ref x)]
  refine wpAny_bind (wpAny_pure ?_)
  show wpAny _ _ (call (.builtin "BaseException.__getattribute__") [.ref x, .str "__class__" t]) _ _ _
  refine wpAny_call (codeAny_call_builtin PySem.F.excAttr_ValueError.ga.plain PySem.F.entry_bexc_ga ?_)
  refine @check_slot (model prog w) _ _ ⟨hp, g, d, t + 1, os⟩ "BaseException.__getattribute__" "BaseException" "__getattribute__" (.ref x) [.str "__class__" t] [] _ (by decide +kernel) (by decide +kernel) sub (PySem.F.args_bexc_ga (.ref x) (.str "__class__" t)) ?_
  unfold Builtin.«object.__getattribute__»
  refine wpAny_bind (wpAny_of_eq (a := ((Value.ref x : Value), [Value.str "__class__" t])) (by first | rfl | (simp only [slotArgs]; rfl)) ?_)
  refine wpAny_bind (wpAny_pure (wpAny_bind (K0.at (wpAny_bind (K3.at ?_)))))
  show wpAny _ _ (holding [Value.builtin "object.__class__"] (call (.builtin "getset_descriptor.__get__") [.builtin "object.__class__", .ref x, .ref D]) >>= ret) _ _ _
  refine wpAny_bind (wpAny_holding (wpAny_call (class_get (s := ⟨hp, g, d, t + 1, os⟩) (ox := ox) (od := some od) X I T.hm (wpAny_pure ?_))))
  show wpAny _ _ (handedOut (.ref D)) _ _ _
  rw [handedOut_of (v := .ref D) rfl]
  first
    | exact wpAny_pure (wpAny_pure h)
    | exact wpAny_pure h
    | exact wpAny_pure (wpAny_bind (wpAny_pure (wpAny_pure h)))
theorem kit_excD (T : ExcC K D) : KitX K (.ref x) (.ref D) (fun h => InstAt h x ox D (some od)) where
  ty := fun _ _ _ I => I.type
  it := fun _ _ X _ => by
    obtain ⟨cdD, hcD, _⟩ := any_some T.hd
    unfold clsIn at hcD
    split at hcD
    · rename_i c1 d1 cd1 sl1 ho
      intro A1 Q1 E1 s1 k q
      unfold isType loadHead
      exact wpAny_bind (wpAny_loadPart (k _ _ (X _ _ ho)) (wpAny_pure q))
    · cases hcD
  ne := fun h tp dd its n sl X htp => by
    obtain ⟨cdD, hcD, _⟩ := any_some T.hd
    refine Bool.eq_false_iff.mpr fun q => ?_
    have e : D = tp := Value.ref.inj (beq_iff_eq.mp q)
    subst e
    unfold clsIn at hcD
    split at hcD
    · rename_i c1 d1 cd1 sl1 ho
      have z := (X _ _ ho).symm.trans htp
      cases z
    · cases hcD
  ca := fun X I k => cls_of_exc T X I k
end
/-- the caught error at a, of the class at D, its dict at dd: it can be asked for its class -/
theorem exc_inst {X : Cx} {a D dd : Addr} {oe : Obj} {pn : List (Addr × Obj)} {pins : List (Addr × Obj)} {σ : L2.St} {H : Hp} {s : Shared} {fs : List (Str × V)} (hz : Zc (.ref D) (some dd) oe) (hf : ∃ vs, oe.data = .fields vs)
    (I : Inv (X.suite a ((a, oe) :: pn)) pins σ H s) (hd : H dd = some (.xd fs)) : ∃ od, PySem.W.InstAt s.heap a oe D (some od) := by
  obtain ⟨ha, _⟩ := I.pin (a, oe) (List.mem_append_left _ List.mem_cons_self)
  obtain ⟨vs, hv⟩ := hf
  have hx : ObjOk X.prog X.w H s.heap dd (.xd fs) := I.hok dd _ hd
  obtain ⟨mA, hns, hr⟩ := hx
  obtain ⟨od, ho, hl⟩ := lookIn_ns hns
  exact ⟨od, ha, hz.1, by unfold PySem.W.notCls; rw [hv] <;> rfl, by rw [hz.2]; exact ho⟩
/-- isinstance(e, c), isinstance(e, (c1, c2)) in the suite: t the class of e as a value -/
def rIsX (K : PySem.W.Frag) (a : Addr) (cls : Value) (d : Option Addr) : List V → Hp → VK → Prop := fun xs H Q =>
  ∃ (D dd : Addr) (fs : List (Str × V)), cls = .ref D ∧ d = some dd ∧ ExcC K D ∧ H dd = some (.xd fs) ∧
    ((∃ (c : V) (u : Value) (b : Bool), xs = [.ref a, c] ∧ ClsV c u ∧ PySem.W.kitOne K (.ref D) u = some b ∧ Q (.bl b) H) ∨
      ∃ (tp : Addr) (cs : List V) (us : List Value) (b : Bool), xs = [.ref a, .ref tp] ∧ H tp = some (.tup cs) ∧ Paired ClsV cs us ∧ PySem.W.kitAny K (.ref D) us = some b ∧ Q (.bl b) H)
theorem call_isX {X : Cx} {a : Addr} {cls : Value} {d : Option Addr} {oe : Obj} {pn : List (Addr × Obj)} (hz : Zc cls d oe) (hf : ∃ vs, oe.data = .fields vs) : CallR (X.suite a ((a, oe) :: pn)) (.builtin "isinstance") (rIsX X.K a cls d) := by
  intro pins s σ H xs us Q I r h
  obtain ⟨D, dd, fs, rfl, rfl, C, hd, h⟩ := h
  obtain ⟨od, J⟩ := exc_inst hz hf I hd
  rcases h with ⟨c, u, b, rfl, k, e, q⟩ | ⟨tp, cs, ws, b, rfl, hT, k, e, q⟩
  · obtain ⟨u1, u2, rfl, r1, r2⟩ := vals2 r
    cases (show u1 = Value.ref a from r1)
    have e2 := k.eq r2
    subst e2
    exact PySem.W.kia_one (kit_excD C) I.kIn J e (fun z => nomatch z) fun tk => ⟨.bl b, H, I.tok tk, rfl, q⟩
  · obtain ⟨u1, u2, rfl, r1, r2⟩ := vals2 r
    cases (show u1 = Value.ref a from r1)
    cases (show u2 = Value.ref tp from r2)
    obtain ⟨_, its, rv, o, h1, h2, n, h3⟩ := (show ObjOk X.prog X.w H s.heap tp (.tup cs) from I.hok tp _ hT)
    have e3 := ClsV.all k rv
    subst e3
    obtain ⟨oc, od', dt, sl⟩ := o
    simp only at h2 h3
    subst h2 h3
    exact PySem.W.kia_tup (kit_excD C) I.kIn J h1 e (fun z => nomatch z) fun tk => ⟨.bl b, H, I.tok tk, rfl, q⟩

/-! x == y by an own __eq__ -/
def rOwnI (K : PySem.W.Frag) (C : Addr) (sp : Sp) (E : XK) : R2 := fun x y H Q => ∃ a dx fs b C' dy gs, x = .ref a ∧ y = .ref b ∧ H a = some (.ins C dx fs) ∧ H b = some (.ins C' dy gs) ∧ PySem.W.notFirst K C (.ref C') = true ∧ sp [x, y] H Q E
section
variable {X : Cx} {CX : CXT} {k : Nat} {g C : Addr} {fd : FuncData} {ps : List Str} {sp : Sp} {E : XK}
theorem op_ownI {op : CmpOp} (hop : ∀ a b, compareOp op a b = richCompare op a b) (hs : PySem.W.findIn X.K (.ref C) (cmpInfo op).2.1 = some (some (.ref g))) (hf : PySem.W.isFn X.K (.ref g) = true) (F : FnOk X.prog X.w X.K X.mg X.base CX k g fd ps sp)
    (hr : Room k X.A) (hb : Binds X.K fd ps []) (hx : Passes CX X E) : OpR X (compareOp op) (rOwnI X.K C sp E) := by
  intro pins s σ H x y v u Q I rx ry h
  obtain ⟨a, dx, fs, b, C', dy, gs, rfl, rfl, ha, hbb, hn, q⟩ := h
  cases (show v = Value.ref a from rx)
  cases (show u = Value.ref b from ry)
  obtain ⟨mA, O, _⟩ := ins_get I.hok ha
  obtain ⟨od, J, _⟩ := O.look
  obtain ⟨mB, O2, _⟩ := ins_get I.hok hbb
  obtain ⟨od2, J2, _⟩ := O2.look
  obtain ⟨m, hF⟩ := I.fr
  rw [hop]
  refine PySem.W.cmp_K (op := op) (tb := .ref C') hr.units0 hF I.ok.mod.kin J J2.type hn hs hf ?_
  refine wpAny_mono (run_fn (us := [.ref a, .ref b]) (vs := [.ref a, .ref b]) F hr hb .nil hx I (.cons rfl (.cons rfl .nil)) (by rw [List.append_nil]; exact q)) (fun w s1 z => ?_) fun _ _ x => x
  obtain ⟨z1, H1, I1, rz, qz⟩ := z
  exact SlX.cmpback rz ⟨z1, H1, I1, rz, qz⟩
end

/-! C(e, ..) whose __init__ may raise, in a try: what is raised is wished for at the slots -/
def tMakeS (C : Addr) (sp : Sp) (dvs : List V) (E : L2.St → XK) (t : TA) : TE := fun σ H Q => t σ H fun vs H1 => ∀ x dx, H1 x = none → H1 dx = none → dx ≠ x →
  sp (.ref x :: (vs ++ dvs)) (upd (upd H1 dx (.own x)) x (.ins C dx [])) (fun v H2 => v = .non ∧ Q (.ref x) H2) (E σ)
section
variable {X : Cx} {CX : CXT} {k : Nat} {f C : Addr} {fd : FuncData} {ps : List Str} {sp : Sp} {dvs : List V} {ds : List Value} {E : L2.St → XK} {x : Str} {p pos : Pos} {e : Expr} {es : List Expr} {t : TA}
theorem pe_makeS (M : Mk X.K C f) (F : FnOk X.prog X.w X.K X.mg X.base CX k f fd ps sp) (hr : Room (k + 1) X.A) (hg : Gl X x) (hm : X.mg x = some (.ref C)) (hb : Binds X.K fd ps ds) (hd : Vals dvs ds) (hx : ∀ σ, PassesAt CX X σ (E σ))
    (ha : PA X (e :: es) t) (hdb : (x == ("__debug__" : Str)) = false := by decide) (he : starEach (e :: es) X.env = (false, eval e X.env) :: starEach es X.env := by rfl) (hpl : (backTo pos (starEach es X.env)).any (·.1) = false := by rfl) :
    PE X (.Call (.Name x p) (e :: es) [] pos) (tMakeS C sp dvs E t) := by
  refine ⟨fun pins s σ H Q I h => ?_⟩
  refine wpAny_Call_Name_kw (ld_glob I hg hm ?_ hdb)
  refine PySem.W.callWith_K (h₀ := X.base) I.ok.mod.kin M.kp (thn (ha.run pos pins s σ H _ I h) fun us s1 hh => ?_) he hpl
  obtain ⟨vs, H1, I1, r, q⟩ := hh
  refine ⟨I1.kIn, ?_⟩
  show wpAny _ _ (call (.ref C) us) _ _ _
  have hq := q (s1.heap.objs.size + 1) s1.heap.objs.size (I1.hok.fresh (Nat.le_succ _)) (I1.hok.fresh (Nat.le_refl _)) (Nat.ne_of_lt (Nat.lt_succ_self _))
  have I2 := Inv.made (C := C) I1
  have r2 : Vals (V.ref (s1.heap.objs.size + 1) :: (vs ++ dvs)) (Value.ref (s1.heap.objs.size + 1) :: (us ++ ds)) := .cons rfl (r.append hd)
  have hl : (Value.ref (s1.heap.objs.size + 1) :: us ++ ds).length = ps.length := by
    have e := r2.length
    rw [F.len _ _ _ _ hq] at e
    exact e.symm
  refine wpAny_call (make_map (f := f) I1.kIn M.makes M.init (beq_iff_eq.mp M.fn) (codeAny_mono (F.run _ X.stack _ _ ⟨Value.ref (s1.heap.objs.size + 1) :: us, []⟩ (Value.ref (s1.heap.objs.size + 1) :: (us ++ ds)) _ _ (E σ) (hr.make C us [])
    (I2.env0.make C us []) (hb _ (Value.ref (s1.heap.objs.size + 1) :: us) I2.kIn hl) r2 hq) fun r3 s3 hq3 => ?_))
  cases r3 with
  | error e => exact hx σ _ _ _ e s3 I2 hq3
  | ok fl =>
    cases fl with
    | ret u =>
      obtain ⟨v, H3, I3, rv, ev, q3⟩ := I2.after hq3
      subst ev
      exact ⟨rv, ⟨V.ref (s1.heap.objs.size + 1), H3, I3, rfl, q3⟩⟩
    | next => exact False.elim hq3
    | brk => exact False.elim hq3
    | cont => exact False.elim hq3
end
end Vk

set_option Elab.async false
set_option linter.all false
set_option maxRecDepth 100000
set_option maxHeartbeats 1000000
/-! texts as lists of codes; comprehensions over a text -/
namespace Vk
open PySem PySem.Spec PyProof.Rows L2
/-- the text of these codes -/
def S (l : List Nat) : Str := ⟨l.toArray⟩
theorem S_of (z : Str) : z = S z.cps.toList := by
  obtain ⟨a⟩ := z
  simp [S]
theorem S_len (l : List Nat) : (S l).length = l.length := by
  show l.toArray.size = l.length
  simp
theorem S_cps (l : List Nat) : (S l).cps.toList = l := by simp [S]
theorem S_size (l : List Nat) : (S l).cps.size = l.length := S_len l
theorem S_inj {a b : List Nat} : S a = S b ↔ a = b := by
  constructor
  · intro h
    have := congrArg (fun z : Str => z.cps.toList) h
    simpa [S] using this
  · rintro rfl
    rfl
theorem S_one (c : Nat) : (⟨#[c]⟩ : Str) = S [c] := rfl
theorem S_app (a b : List Nat) : S a ++ S b = S (a ++ b) := by
  show (⟨a.toArray ++ b.toArray⟩ : Str) = ⟨(a ++ b).toArray⟩
  simp
theorem S_get {l : List Nat} {i c : Nat} : (S l).cps[i]? = some c ↔ l[i]? = some c := by
  show l.toArray[i]? = some c ↔ _
  simp
theorem signs_S (l : List Nat) : signsOf (S l) = l.map fun c => S [c] := by
  unfold signsOf
  rw [S_cps]
  rfl
theorem S_cut (l : List Nat) (lo hi : Option Int) : cutS (S l) lo hi = S ((l.drop (HT.sIx l.length 0 lo)).take (HT.sIx l.length l.length hi - HT.sIx l.length 0 lo)) := by
  unfold cutS
  rw [S_cps, S_len]
  rfl
theorem S_to (l : List Nat) (k : Nat) : cutS (S l) none (some (k : Int)) = S (l.take k) := by
  rw [S_cut, HT.sIx_none, HT.sIx_nat, List.drop_zero, Nat.sub_zero]
  congr 1
  rw [← List.take_take, List.take_length]
theorem S_from (l : List Nat) (k : Nat) : cutS (S l) (some (k : Int)) none = S (l.drop k) := by
  rw [S_cut, HT.sIx_none, HT.sIx_nat]
  congr 1
  by_cases h : k ≤ l.length
  · rw [Nat.min_eq_left h]
    exact List.take_of_length_le (by rw [List.length_drop]; exact Nat.le_refl _)
  · rw [Nat.min_eq_right (by omega), Nat.sub_self, List.take_zero, List.drop_eq_nil_of_le (by omega)]
/-- what join does of single signs -/
theorem join_signs : ∀ l : List Nat, Txt.join (S []) (l.map fun c => S [c]) = S l := by
  have key : ∀ l : List Nat, Str.join (S []) (l.map fun c => S [c]) = S l := by
    intro l
    induction l with
    | nil => rfl
    | cons c r ih =>
      cases r with
      | nil => rfl
      | cons d r =>
        show S [c] ++ S [] ++ Str.join (S []) ((d :: r).map fun c => S [c]) = _
        rw [ih, S_app, S_app]
        rfl
  intro l
  exact (PySem.StrLaws.glued_eq_join _ _).trans (key l)
/-! sorted -/
def srtL (l : List Nat) : List Nat := l.mergeSort fun a b => decide (a ≤ b)
theorem srtL_perm (l : List Nat) : (srtL l).Perm l := List.mergeSort_perm _ _
theorem srtL_le (l : List Nat) : (srtL l).Pairwise (· ≤ ·) := by
  have h := List.pairwise_mergeSort (le := fun a b : Nat => decide (a ≤ b)) (by simp; omega) (by simp; omega) l
  exact h.imp fun h => by simpa using h
theorem srtL_len (l : List Nat) : (srtL l).length = l.length := (srtL_perm l).length_eq
theorem srtL_mem {l : List Nat} {c : Nat} : c ∈ srtL l ↔ c ∈ l := (srtL_perm l).mem_iff
theorem srtL_nodup {l : List Nat} : (srtL l).Nodup ↔ l.Nodup := (srtL_perm l).nodup_iff
theorem srt_eq {a b : List Nat} (p : a.Perm b) (ha : a.Pairwise (· ≤ ·)) : a = srtL b :=
  List.Perm.eq_of_pairwise (le := (· ≤ ·)) (fun x y _ _ h1 h2 => Nat.le_antisymm h1 h2) ha (srtL_le b) (p.trans (srtL_perm b).symm)
theorem srtL_congr {a b : List Nat} : srtL a = srtL b ↔ a.Perm b := by
  constructor
  · intro h
    exact (srtL_perm a).symm.trans (h ▸ srtL_perm b)
  · intro p
    exact srt_eq ((srtL_perm a).trans p) (srtL_le a)
theorem rising_le : ∀ (c : Nat) (l : List Nat), risingS (S [c]) (l.map fun c => S [c]) = true → (c :: l).Pairwise (· ≤ ·)
  | c, [], _ => by simp
  | c, d :: l, h => by
    have h' : (!ltCps (S [d]).cps.toList (S [c]).cps.toList && risingS (S [d]) (l.map fun c => S [c])) = true := h
    obtain ⟨h1, h2⟩ := Bool.and_eq_true_iff.mp h'
    have ih := rising_le d l h2
    have hcd : c ≤ d := by
      rw [ltCps_eq] at h1
      simp [S] at h1
      exact Nat.le_of_not_lt fun z => of_decide_eq_false h1 (List.Lex.rel z)
    rw [List.pairwise_cons]
    refine ⟨fun x hx => ?_, ih⟩
    rcases List.mem_cons.mp hx with rfl | hx
    · exact hcd
    · exact Nat.le_trans hcd ((List.pairwise_cons.mp ih).1 x hx)
theorem sorted_signs {l : List Nat} {ys : List Str} (p : ys.Perm (l.map fun c => S [c])) (h : sortedS ys = true) : ys = (srtL l).map fun c => S [c] := by
  have hq : ∃ zs : List Nat, ys = zs.map fun c => S [c] := by
    refine ⟨ys.map fun z => z.cps.toList.headD 0, ?_⟩
    rw [List.map_map]
    refine (List.map_id ys).symm.trans (List.map_congr_left fun y hy => ?_)
    obtain ⟨c, _, rfl⟩ := List.mem_map.mp (p.mem_iff.mp hy)
    simp [S]
  obtain ⟨zs, rfl⟩ := hq
  have hp : zs.Perm l := by
    have q := p.map fun z : Str => z.cps.toList.headD 0
    rw [List.map_map, List.map_map] at q
    have e : ∀ l : List Nat, l.map ((fun z : Str => z.cps.toList.headD 0) ∘ fun c => S [c]) = l := fun l => (List.map_congr_left fun c _ => by simp [S]).trans (List.map_id l)
    rw [e, e] at q
    exact q
  have hs : zs.Pairwise (· ≤ ·) := by
    cases zs with
    | nil => exact .nil
    | cons c r => exact rising_le c r h
  rw [srt_eq hp hs]
/-! a comprehension over a text -/
theorem lc_text {l : List Nat} {j : Nat} {tt : TT} {te : TE} {vs : List Nat} {σ : L2.St} {H1 : Hp} {D : Addr} {Qd : Hp → Prop} (p : Nat → Bool) (v : Nat → V) (hl : l.length ≤ 4000)
    (hw : ∀ x, wipe ((wipe σ vs).set j (some x)) vs = wipe σ vs)
    (ht : ∀ c ∈ l, ∀ (H2 : Hp) (Q : Bool → Hp → Prop), (∀ b, b ≠ D → H2 b = H1 b) → Q (p c) H2 → tt ((wipe σ vs).set j (some (.str (S [c])))) H2 Q)
    (he : ∀ c ∈ l, p c = true → ∀ (H2 : Hp) (Q : VK), (∀ b, b ≠ D → H2 b = H1 b) → Q (v c) H2 → te ((wipe σ vs).set j (some (.str (S [c])))) H2 Q)
    (hq : Qd (upd H1 D (.lst ((l.filter p).map v)))) :
    ∃ W : Nat → Nat → Hp → Prop, (∃ m, W 0 m (upd H1 D (.lst []))) ∧ ∀ i m H, W i m H →
      ((Its (S l)).stop i H ∧ Qd H) ∨ ((Its (S l)).go i H ∧ ∃ Nx : Hp → Prop, (∀ H', Nx H' → ∃ m', m' < m ∧ W (i + 1) m' H') ∧ ∀ x H', (Its (S l)).yld i H x H' → gName j x (wipe σ vs) H' fun σ2 H2 => wipe σ2 vs = wipe σ vs ∧ tt σ2 H2 fun b H3 =>
        if b = true then te σ2 H3 fun y H4 => ∃ acc, H4 D = some (.lst acc) ∧ acc.length < sizeLine ∧ Nx (upd H4 D (.lst (acc ++ [y]))) else Nx H3) := by
  have hz : (S l).cps.size = l.length := S_size l
  refine lc_it walk_str (fun i H => H = upd H1 D (.lst (((l.take i).filter p).map v))) rfl (fun _ _ _ _ => trivial) ?_ ?_
  · rintro i x H H' hi hP ⟨rfl, c, hc, rfl⟩
    subst hP
    have hc2 : l[i]? = some c := S_get.mp hc
    have hm : c ∈ l := List.mem_of_getElem? hc2
    have off : ∀ b, b ≠ D → (upd H1 D (.lst (((l.take i).filter p).map v))) b = H1 b := fun b hb => upd_ne hb
    have e1 : l.take (i + 1) = l.take i ++ [c] := by
      rw [List.take_add_one, hc2]
      rfl
    refine ⟨hw _, ht c hm _ _ off ?_⟩
    by_cases hp : p c = true
    · rw [if_pos hp]
      refine he c hm hp _ _ off ⟨_, upd_same, ?_, ?_⟩
      · rw [List.length_map, sizeLine_eq]
        have h1 := List.length_filter_le p (l.take i)
        rw [List.length_take] at h1
        omega
      · rw [upd_upd, e1, List.filter_append, List.filter_cons_of_pos hp, List.filter_nil, List.map_append]
        rfl
    · rw [if_neg hp, e1, List.filter_append, List.filter_cons_of_neg hp, List.filter_nil, List.append_nil]
  · rintro H rfl
    rw [hz, List.take_length]
    exact hq
end Vk

set_option Elab.async false
set_option linter.all false
set_option maxRecDepth 100000
set_option maxHeartbeats 4000000
namespace Vk
open PySem PySem.Spec PyProof.Rows L2
section
variable {X : Cx}
/-- list(text): its signs -/
theorem call_listT (hc : X.calm = true) : CallR X (.type "list") rListT := by
  intro pins s σ H xs us Q I r q
  obtain ⟨z, ex, hz, q⟩ := q
  subst ex
  obtain ⟨u, eu, rx⟩ := vals1 r
  subst eu
  obtain ⟨t, rfl⟩ := rx
  have hz2 : z.cps.size ≤ 4000 := hz
  refine call_list_str (hn := by rw [sizeLine_eq]; omega) (I.ok.hd hc) z t fun h' tk acc c' hk he hacc => ?_
  have hS := signs_strs hacc
  have hlen : ((signsOf z).map V.str).length ≤ sizeLine := by
    rw [List.length_map]
    unfold signsOf
    rw [List.length_map, Array.length_toList, sizeLine_eq]
    omega
  refine ⟨.ref s.heap.objs.size, upd H s.heap.objs.size (.lst ((signsOf z).map V.str)), I.laid (t' := tk) hk (Nat.le_refl _)
    (show ObjOk X.prog X.w _ _ _ (.lst ((signsOf z).map V.str)) from ⟨hlen, acc.toList, c', vals_of_strs hS, by rw [Array.toArray_toList]; exact he⟩), rfl, q _ (I.hok.fresh (Nat.le_refl _))⟩
def repL (n : Nat) (l : List Nat) : List Nat := (List.replicate n l).flatten
theorem repL_len (n : Nat) (l : List Nat) : (repL n l).length = n * l.length := by
  unfold repL
  rw [List.length_flatten, List.map_replicate, List.sum_replicate_nat]
theorem fold_rep (a : Array Nat) : ∀ (n : Nat) (acc : Array Nat), ((List.replicate n a).foldl (· ++ ·) acc).toList = acc.toList ++ (List.replicate n a.toList).flatten
  | 0, acc => by simp
  | n + 1, acc => by
    rw [List.replicate_succ, List.foldl_cons, fold_rep a n, List.replicate_succ, List.flatten_cons, Array.toList_append, List.append_assoc]
/-- text * number -/
def rMulT : R2 := fun x y H Q => ∃ (l : List Nat) (n : Nat), x = .str (S l) ∧ y = .int (n : Int) ∧ l.length * n ≤ 4000 ∧ n ≤ 4000 ∧ Q (.str (S (repL n l))) H
theorem op_mulT : OpR X (binaryOp .Mult) rMulT := by
  intro pins s σ H x y v u Q I rx ry h
  obtain ⟨l, n, rfl, rfl, hln, hn, q⟩ := h
  obtain ⟨t, rfl⟩ := rx
  obtain ⟨t', rfl⟩ := ry
  have hl := S_len l
  refine PySem.P.mul_str ?_ (fun h1 h2 => ?_) (fun h1 h2 => ?_) ?_
  · rw [decide_eq_false (by omega), decide_eq_false (by omega)]
    rfl
  · rw [hl]
    have h3 : (l.length : Int) ≤ (2 ^ 63 - 1) / (n : Int) := by
      refine Int.le_ediv_of_mul_le (by omega) ?_
      have : ((l.length * n : Nat) : Int) ≤ 4000 := by omega
      rw [Int.natCast_mul] at this
      omega
    omega
  · unfold PySem.Builtin.Str.tooLong
    rw [hl, Int.toNat_natCast, sizeLine_eq]
    exact decide_eq_false (by omega)
  · by_cases h1 : (n : Int) < 1
    · rw [if_pos h1]
      have e : n = 0 := by omega
      subst e
      exact ⟨by decide, ⟨.str (S (repL 0 l)), H, I.tok _, ⟨_, rfl⟩, q⟩⟩
    · rw [if_neg h1]
      by_cases h2 : ((n : Int) == 1 || (S l).length == 0) = true
      · rw [if_pos h2]
        have e : repL n l = l := by
          rcases Bool.or_eq_true_iff.mp h2 with h | h
          · have : n = 1 := by
              have := beq_iff_eq.mp h
              omega
            subst this
            unfold repL
            simp
          · have h3 := beq_iff_eq.mp h
            rw [hl] at h3
            have : l = [] := List.length_eq_zero_iff.mp h3
            subst this
            unfold repL
            simp
        rw [e] at q
        exact ⟨.str (S l), H, I, ⟨_, rfl⟩, q⟩
      · rw [if_neg h2]
        have e : (⟨(List.replicate (n : Int).toNat (S l).cps).foldl (· ++ ·) #[]⟩ : Str) = S (repL n l) := by
          rw [Int.toNat_natCast, S_of (⟨_⟩ : Str)]
          congr 1
          show ((List.replicate n (S l).cps).foldl (· ++ ·) #[]).toList = _
          rw [fold_rep, S_cps]
          rfl
        rw [e]
        refine ⟨?_, ⟨.str (S (repL n l)), H, I.tok _, ⟨_, rfl⟩, q⟩⟩
        rw [S_len, repL_len, sizeLine_eq, Nat.mul_comm]
        omega
end
end Vk

set_option Elab.async false
set_option linter.all false
set_option maxRecDepth 100000
set_option maxHeartbeats 4000000
namespace Vk
open PySem PySem.Spec PyProof.Rows L2
/-! V0: the readings, one step each, said the way a walk uses them -/
section
variable {D : Ends} {σ : L2.St} {H : Hp} {t u : TS} {te ta tb : TE} {c : TT} {Q : VK} {K : PySem.W.Frag}
theorem iSeq (h : t { nx := u D, rt := D.rt, bk := D.bk, ct := D.ct } σ H) : tSeq t u D σ H := h
theorem iNext (h : D.nx σ H) : tNext D σ H := h
theorem iBreak (h : D.bk σ H) : tBreak D σ H := h
theorem iCont (h : D.ct σ H) : tCont D σ H := h
theorem iDrop (h : te σ H fun _ H1 => D.nx σ H1) : tDrop te D σ H := h
theorem iRet (h : te σ H D.rt) : tRet te D σ H := h
theorem iRetN (h : D.rt .non H) : tRetN D σ H := h
theorem iIfS (h : c σ H fun b H1 => if b = true then t D σ H1 else u D σ H1) : tIfS c t u D σ H := h
theorem iAsg {g : TG} (h : te σ H fun x H1 => g x σ H1 D.nx) : tAsg te g D σ H := h
theorem iName {i : Nat} {v : V} {Q : L2.St → Hp → Prop} (h : Q (σ.set i (some v)) H) : gName i v σ H Q := h
theorem iSub {to ti : TE} {tt : TSet} {v : V} {Q : L2.St → Hp → Prop} (h : to σ H fun o H1 => ti σ H1 fun i H2 => tt o i v H2 fun H3 => Q σ H3) : gSub to ti tt v σ H Q := h
theorem iVar {i : Nat} {v : V} (e : σ[i]? = some (some v)) (h : Q v H) : tVar i σ H Q := ⟨v, e, h⟩
theorem iC {v : V} (h : Q v H) : tC v σ H Q := h
theorem iOp {r : R2} (h : ta σ H fun x H1 => tb σ H1 fun y H2 => r x y H2 Q) : tOp r ta tb σ H Q := h
theorem iUn {r : V → Hp → VK → Prop} (h : ta σ H fun x H1 => r x H1 Q) : tUn r ta σ H Q := h
theorem iI0 {g : Int → Int → V} {i j : Int} (h : Q (g i j) H) : rI0 g (.int i) (.int j) H Q := ⟨i, j, rfl, rfl, h⟩
theorem iI {C : Int → Int → Prop} {g : Int → Int → V} {i j : Int} (hc : C i j) (h : Q (g i j) H) : rI C g (.int i) (.int j) H Q := ⟨i, j, rfl, rfl, hc, h⟩
theorem iU {g : Int → V} {i : Int} (h : Q (g i) H) : rU g (.int i) H Q := ⟨i, rfl, h⟩
theorem iEq {x y : V} (hs : scal x y = true) (h : Q (.bl (decide (x = y))) H) : rEq x y H Q := ⟨hs, h⟩
theorem iNe {x y : V} (hs : scal x y = true) (h : Q (.bl (!decide (x = y))) H) : rNe x y H Q := ⟨hs, h⟩
theorem iB {Q : Bool → Hp → Prop} (h : te σ H fun x H1 => ∃ c, x = .bl c ∧ Q c H1) : tB te σ H Q := h
theorem iTest {Q : Bool → Hp → Prop} (h : te σ H fun x H1 => ∃ c, x = .bl c ∧ Q c H1) : tTest te σ H Q := h
theorem iAnd {t u : TT} {Q : Bool → Hp → Prop} (h : t σ H fun c H1 => if c = true then u σ H1 Q else Q false H1) : tAnd t u σ H Q := h
theorem iOr {t u : TT} {Q : Bool → Hp → Prop} (h : t σ H fun c H1 => if c = true then Q true H1 else u σ H1 Q) : tOr t u σ H Q := h
theorem iNot {t : TT} {Q : Bool → Hp → Prop} (h : t σ H fun c H1 => Q (!c) H1) : tNot t σ H Q := h
theorem iAndV (h : ta σ H fun x H1 => ∃ c, x = .bl c ∧ if c = true then tb σ H1 Q else Q (.bl false) H1) : tAndV ta tb σ H Q := h
theorem iOrV (h : ta σ H fun x H1 => ∃ c, x = .bl c ∧ if c = true then Q (.bl true) H1 else tb σ H1 Q) : tOrV ta tb σ H Q := h
theorem iNotV (h : ta σ H fun x H1 => ∃ c, x = .bl c ∧ Q (.bl (!c)) H1) : tNotV ta σ H Q := h
theorem iIfE (h : c σ H fun b H1 => if b = true then ta σ H1 Q else tb σ H1 Q) : tIf c ta tb σ H Q := h
theorem iNil {Q : List V → Hp → Prop} (h : Q [] H) : tNil σ H Q := h
theorem iCons {tr : TA} {Q : List V → Hp → Prop} (h : ta σ H fun x H1 => tr σ H1 fun xs H2 => Q (x :: xs) H2) : tCons ta tr σ H Q := h
theorem iTup {ts : TA} (h : ts σ H fun xs H1 => xs.length ≤ sizeLine ∧ ∀ p, H1 p = none → Q (.ref p) (upd H1 p (.tup xs))) : tTup ts σ H Q := h
theorem iLst {ts : TA} (h : ts σ H fun xs H1 => xs.length ≤ sizeLine ∧ ∀ p, H1 p = none → Q (.ref p) (upd H1 p (.lst xs))) : tLst ts σ H Q := h
theorem iCB {r : List V → Hp → VK → Prop} {ts : TA} (h : ts σ H fun vs H1 => r vs H1 Q) : tCB r ts σ H Q := h
theorem iCall {sp : Sp} {dvs : List V} {E : XK} {ts : TA} (h : ts σ H fun vs H1 => sp (vs ++ dvs) H1 Q E) : tCall sp dvs E ts σ H Q := h
theorem iFld {f : Str} (h : ta σ H fun x H1 => ∃ a C dx fs v, x = .ref a ∧ H1 a = some (.ins C dx fs) ∧ Cls K C ∧ NoAttr K C f ∧ fs.lookup f = some v ∧ Q v H1) : tFld K ta f σ H Q := h
theorem iM1 {r : V → List V → Hp → VK → Prop} {to : TE} (h : to σ H fun x H1 => (∃ a, x = .str a) ∧ te σ H1 fun y H2 => r x [y] H2 Q) : tM1 r to te σ H Q := h
theorem iBM {T : String} {r : V → List V → Hp → VK → Prop} {to : TE} {ts : TA} (h : to σ H fun x H1 => tyV K T x H1 ∧ ts σ H1 fun xs H2 => r x xs H2 Q) : tBM K T r to ts σ H Q := h
theorem iSl {r : V → Option Int → Option Int → Hp → VK → Prop} {tl th : TO} (h : te σ H fun x H1 => tl σ H1 fun l H2 => th σ H2 fun u H3 => r x l u H3 Q) : tSl r te tl th σ H Q := h
theorem iIxL {p : Addr} {xs : List V} {i : Int} {v : V} (hq : SqL K H p xs) (e : atI xs i = some v) (h : Q v H) : rIxL K (.ref p) (.int i) H Q := ⟨p, xs, i, v, rfl, rfl, hq, e, h⟩
theorem iIxT {p : Addr} {xs : List V} {i : Int} {v : V} (hq : SqT K H p xs) (e : atI xs i = some v) (h : Q v H) : rIxT K (.ref p) (.int i) H Q := ⟨p, xs, i, v, rfl, rfl, hq, e, h⟩
theorem iIxS {l : List Nat} {i : Int} {c : Nat} (hz : l.length ≤ 100000) (e : atI l i = some c) (h : Q (.str (S [c])) H) : rIxS (.str (S l)) (.int i) H Q :=
  ⟨S l, i, c, rfl, rfl, (by rw [S_len, sizeLine_eq]; omega), (by rw [S_cps]; exact e), h⟩
theorem iSlS {l : List Nat} {lo hi : Option Int} (hz : l.length ≤ 100000) (h : Q (.str (cutS (S l) lo hi)) H) : rSlS (.str (S l)) lo hi H Q :=
  ⟨S l, rfl, (by rw [S_len, sizeLine_eq]; omega), h⟩
theorem iBd {P : Prop} [Decidable P] {A B : Prop} (h1 : P → A) (h2 : ¬ P → B) : if decide P = true then A else B := ite2 (fun h => h1 (of_decide_eq_true h)) fun h => h2 fun p => h (decide_eq_true p)
theorem iBnd {P : Prop} [Decidable P] {A B : Prop} (h1 : ¬ P → A) (h2 : P → B) : if (!decide P) = true then A else B := ite2 (fun h => h1 (by simpa using h)) fun h => h2 (by simpa using h)
theorem iBb {b : Bool} {A B : Prop} (h1 : b = true → A) (h2 : b = false → B) : if b = true then A else B := ite2 h1 fun h => h2 (by simpa using h)
theorem iBbn {b : Bool} {A B : Prop} (h1 : b = false → A) (h2 : b = true → B) : if (!b) = true then A else B := ite2 (fun h => h1 (by simpa using h)) fun h => h2 (by simpa using h)
theorem iTT {A B : Prop} (h : A) : if true = true then A else B := iteT h
theorem iFF {A B : Prop} (h : B) : if false = true then A else B := iteF h
theorem iNTT {A B : Prop} (h : B) : if (!true) = true then A else B := iteF h
theorem iNFF {A B : Prop} (h : A) : if (!false) = true then A else B := iteT h
theorem iEx {α : Sort _} {p : α → Prop} (w : α) (h : p w) : ∃ x, p x := ⟨w, h⟩
theorem iSetL {p : Addr} {xs ys : List V} {i : Int} {j : Nat} {v : V} {Q : Hp → Prop} (h : H p = some (.lst xs)) (hj : ixN xs.length i = some j) (e : xs.set j v = ys) (k : Q (upd H p (.lst ys))) : rSetL (.ref p) (.int i) v H Q :=
  ⟨p, xs, i, j, rfl, rfl, h, hj, (by rw [e]; exact k)⟩
theorem iNoPart {Q : Option Int → Hp → Prop} (h : Q none H) : tNoPart σ H Q := h
theorem iPart {Q : Option Int → Hp → Prop} (h : te σ H fun x H1 => ∃ i, x = .int i ∧ Q (some i) H1) : tPart te σ H Q := h
theorem pe_strS {X : Cx} {x : Str} {l : List Nat} {j : Nat} {pos : Pos} (h : x = S l) : PE X (.Constant (.str x) j pos) (tC (.str (S l))) := h ▸ pe_str
theorem iSFld {tv : TE} {f : Str} (h : tv σ H fun y H1 => ta σ H1 fun x H2 => ∃ a C dx fs, x = .ref a ∧ H2 a = some (.ins C dx fs) ∧ Cls K C ∧ NoAttr K C f ∧ fs.length < 1000 ∧ D.nx σ (upd H2 a (.ins C dx (putF f y fs)))) : sFld K ta tv f D σ H := h
theorem eSFld {a C dx : Addr} {fs fs' : List (Str × V)} {f : Str} {y : V} (e1 : H a = some (.ins C dx fs)) (c : Cls K C) (n : NoAttr K C f) (hl : fs.length < 1000) (ep : putF f y fs = fs') (h : D.nx σ (upd H a (.ins C dx fs'))) :
    ∃ (b C dx : Addr) (gs : List (Str × V)), V.ref a = .ref b ∧ H b = some (.ins C dx gs) ∧ Cls K C ∧ NoAttr K C f ∧ gs.length < 1000 ∧ D.nx σ (upd H b (.ins C dx (putF f y gs))) := ⟨a, C, dx, fs, rfl, e1, c, n, hl, by rw [ep]; exact h⟩
theorem iCon {f : Str} (h : ta σ H fun x H1 => ∃ a C dx fs v u, x = .ref a ∧ H1 a = some (.ins C dx fs) ∧ Cls K C ∧ Con K C f v u ∧ fs.lookup f = none ∧ Q v H1) : tCon K ta f σ H Q := h
theorem iProp {C : Addr} {sp : Sp} {dvs : List V} {E : XK} (h : ta σ H fun x H1 => ∃ a dx fs, x = .ref a ∧ H1 a = some (.ins C dx fs) ∧ sp (.ref a :: dvs) H1 Q E) : tProp C sp dvs E ta σ H Q := h
theorem iMeth {C : Addr} {m : Str} {sp : Sp} {dvs : List V} {E : XK} {t : TA} (h : ta σ H fun x H1 => ∃ a dx fs, x = .ref a ∧ H1 a = some (.ins C dx fs) ∧ fs.lookup m = none ∧ t σ H1 fun vs H2 => sp (x :: (vs ++ dvs)) H2 Q E) : tMeth C m sp dvs E ta t σ H Q := h
theorem iCall0 {sp : Sp} {E : XK} {ts : TA} (h : ts σ H fun vs H1 => sp vs H1 Q E) : tCall sp [] E ts σ H Q := by
  have e : (fun (vs : List V) (H1 : Hp) => sp (vs ++ []) H1 Q E) = fun vs H1 => sp vs H1 Q E := by
    funext vs H1
    rw [List.append_nil]
  show ts σ H fun vs H1 => sp (vs ++ []) H1 Q E
  rw [e]
  exact h
theorem iMeth0 {C : Addr} {m : Str} {sp : Sp} {E : XK} {t : TA} (h : ta σ H fun x H1 => ∃ a dx fs, x = .ref a ∧ H1 a = some (.ins C dx fs) ∧ fs.lookup m = none ∧ t σ H1 fun vs H2 => sp (x :: vs) H2 Q E) : tMeth C m sp [] E ta t σ H Q := by
  have e : (fun (x : V) (H1 : Hp) => ∃ a dx fs, x = .ref a ∧ H1 a = some (.ins C dx fs) ∧ fs.lookup m = none ∧ t σ H1 fun vs H2 => sp (x :: (vs ++ [])) H2 Q E) = fun x H1 => ∃ a dx fs, x = .ref a ∧ H1 a = some (.ins C dx fs) ∧ fs.lookup m = none ∧ t σ H1 fun vs H2 => sp (x :: vs) H2 Q E := by
    funext x H1
    simp only [List.append_nil]
  show ta σ H fun (x : V) (H1 : Hp) => ∃ a dx fs, x = .ref a ∧ H1 a = some (.ins C dx fs) ∧ fs.lookup m = none ∧ t σ H1 fun vs H2 => sp (x :: (vs ++ [])) H2 Q E
  rw [e]
  exact h
/-- here the walk stands still -/
def Stop (p : Prop) : Prop := p
/-! while, by an invariant -/
def Less (W : Nat → L2.St → Hp → Prop) (m : Nat) : L2.St → Hp → Prop := fun σ' H' => ∃ m', m' < m ∧ W m' σ' H'
def WB (W : Nat → L2.St → Hp → Prop) (m : Nat) (tb : TS) (D : Ends) (b : Bool) (σ : L2.St) (H1 : Hp) : Prop :=
  if b = true then ∃ N : L2.St → Hp → Prop, (∀ σ' H', N σ' H' → ∃ m', m' < m ∧ W m' σ' H') ∧ tb { D with nx := N, ct := N, bk := D.nx } σ H1 else D.nx σ H1
theorem iWT {W : Nat → L2.St → Hp → Prop} {m : Nat} {tb : TS} (h : tb { nx := Less W m, rt := D.rt, bk := D.nx, ct := Less W m } σ H) : WB W m tb D true σ H := iteT ⟨Less W m, fun _ _ z => z, h⟩
theorem iWF {W : Nat → L2.St → Hp → Prop} {m : Nat} {tb : TS} (h : D.nx σ H) : WB W m tb D false σ H := iteF h
theorem iWD {P : Prop} [Decidable P] {W : Nat → L2.St → Hp → Prop} {m : Nat} {tb : TS} (h1 : P → tb { nx := Less W m, rt := D.rt, bk := D.nx, ct := Less W m } σ H) (h2 : ¬ P → D.nx σ H) : WB W m tb D (decide P) σ H := by
  by_cases h : P
  · rw [decide_eq_true h]
    exact iWT (h1 h)
  · rw [decide_eq_false h]
    exact iWF (h2 h)
theorem iWDN {P : Prop} [Decidable P] {W : Nat → L2.St → Hp → Prop} {m : Nat} {tb : TS} (h1 : ¬ P → tb { nx := Less W m, rt := D.rt, bk := D.nx, ct := Less W m } σ H) (h2 : P → D.nx σ H) : WB W m tb D (!decide P) σ H := by
  by_cases h : P
  · rw [decide_eq_true h]
    exact iWF (h2 h)
  · rw [decide_eq_false h]
    exact iWT (h1 h)
theorem while_w {c : TT} {tb : TS} (W : Nat → L2.St → Hp → Prop) (h0 : ∃ m, W m σ H) (hs : ∀ m σ H, W m σ H → c σ H fun b H1 => WB W m tb D b σ H1) : tWhile c tb D σ H := ⟨W, h0, hs⟩
/-! heaps -/
theorem upd_old {p x : Addr} {o u : HO} (hp : H p = none) (h : H x = some u) : upd H p o x = some u := by
  rw [upd_ne (ne_of_none h hp)]
  exact h
theorem upd_oth {p x : Addr} {o u : HO} (hp : x ≠ p) (h : H x = some u) : upd H p o x = some u := by rw [upd_ne hp]; exact h
theorem Same.get {H' : Hp} {x : Addr} {u : HO} (s : Same H H') (h : H x = some u) : H' x = some u := s _ _ h
/-- all but the listed stand as they stood -/
def Fr (L : List Addr) (H H' : Hp) : Prop := ∀ x u, x ∉ L → H x = some u → H' x = some u
theorem Fr.get {H' : Hp} {L : List Addr} {x : Addr} {u : HO} (s : Fr L H H') (hx : x ∉ L) (h : H x = some u) : H' x = some u := s _ _ hx h
theorem Fr.refl (L : List Addr) (H : Hp) : Fr L H H := fun _ _ _ h => h
theorem Fr.trans {L : List Addr} {H H1 H2 : Hp} (a : Fr L H H1) (b : Fr L H1 H2) : Fr L H H2 := fun x u n h => b x u n (a x u n h)
theorem Fr.of_same {L : List Addr} {H H1 : Hp} (a : Same H H1) : Fr L H H1 := fun x u _ h => a x u h
theorem Fr.upd_in {L : List Addr} {H : Hp} {p : Addr} {o : HO} (hp : p ∈ L) : Fr L H (upd H p o) := fun x u n h => upd_oth (fun z => n (z ▸ hp)) h
theorem Fr.upd_new {L : List Addr} {H : Hp} {p : Addr} {o : HO} (hp : H p = none) : Fr L H (upd H p o) := fun x u _ h => upd_old hp h
theorem Fr.mono {L M : List Addr} {H H1 : Hp} (a : Fr L H H1) (h : ∀ x ∈ L, x ∈ M) : Fr M H H1 := fun x u n e => a x u (fun z => n (h x z)) e
theorem Fr.in0 {L : List Addr} {H : Hp} {p : Addr} {o : HO} : Fr (p :: L) H (upd H p o) := Fr.upd_in List.mem_cons_self
theorem Fr.in1 {L : List Addr} {H : Hp} {p q : Addr} {o : HO} : Fr (q :: p :: L) H (upd H p o) := Fr.upd_in (List.mem_cons_of_mem _ List.mem_cons_self)
theorem Fr.in2 {L : List Addr} {H : Hp} {p q r : Addr} {o : HO} : Fr (q :: r :: p :: L) H (upd H p o) := Fr.upd_in (List.mem_cons_of_mem _ (List.mem_cons_of_mem _ List.mem_cons_self))
theorem Fr.wk {L : List Addr} {H H1 : Hp} {p : Addr} (h : Fr L H H1) : Fr (p :: L) H H1 := h.mono fun _ hx => List.mem_cons_of_mem _ hx
theorem Fr.wk1 {H H1 : Hp} {p q : Addr} (h : Fr [p] H H1) : Fr [p, q] H H1 := h.mono fun x hx => by
  rw [List.mem_singleton] at hx
  subst hx
  exact List.mem_cons_self
theorem Same.upd_new {H : Hp} {p : Addr} {o : HO} (hp : H p = none) : Same H (upd H p o) := fun x u h => upd_old hp h
theorem Same.tr {H H1 H2 : Hp} (a : Same H H1) (b : Same H1 H2) : Same H H2 := fun x u h => b x u (a x u h)
theorem Fr.same {H H1 : Hp} (a : Fr [] H H1) : Same H H1 := fun x u h => a x u (List.not_mem_nil) h
theorem Fr.none {L : List Addr} {H H1 : Hp} {x : Addr} (a : Fr L H H1) (hx : x ∉ L) (h : H1 x = none) : H x = none := by
  cases e : H x with
  | none => rfl
  | some u => rw [a x u hx e] at h; cases h
end
end Vk
/-! the walk -/
section
open Vk L2
local macro_rules | `(tactic| walk_at "lk") => `(tactic| first
  | assumption
  | exact upd_same
  | (refine upd_old (by assumption) ?_; walk_at "lk")
  | (refine upd_oth (by first | assumption | (apply Ne.symm; assumption)) ?_; walk_at "lk")
  | (refine Same.get (by assumption) ?_; walk_at "lk"))
example {H : L2.Hp} {a p : PySem.Addr} {o u : L2.HO} (h : H a = some u) (hp : H p = none) : L2.upd H p o a = some u := by walk_at "lk"
end

set_option Elab.async false
set_option linter.all false
set_option maxRecDepth 100000
set_option maxHeartbeats 4000000
namespace Vk
open PySem PySem.Spec PyProof.Rows L2
/-! V1: texts as lists of signs -/
theorem S_le {l : List Nat} (h : l.length ≤ 100000) : (S l).length ≤ sizeLine := by rw [S_len, sizeLine_eq]; omega
def rAddS : R2 := fun x y H Q => ∃ a b : List Nat, x = .str (S a) ∧ y = .str (S b) ∧ a.length + b.length ≤ 100000 ∧ Q (.str (S (a ++ b))) H
theorem op_addS {X : Cx} : OpR X (binaryOp .Add) rAddS := by
  intro pins s σ H x y v u Q I rx ry h
  obtain ⟨a, b, rfl, rfl, hz, q⟩ := h
  refine op_add_str pins s σ H _ _ v u Q I rx ry ⟨S a, S b, rfl, rfl, ?_, ?_⟩
  · rw [S_len, S_len, sizeLine_eq]; omega
  · rw [S_app]; exact q
def rLenS1 : List V → Hp → VK → Prop := fun xs H Q => ∃ l : List Nat, xs = [.str (S l)] ∧ l.length ≤ 100000 ∧ Q (.int (l.length : Nat)) H
theorem call_lenS {X : Cx} : CallR X (.builtin "len") rLenS1 := by
  intro pins s σ H xs us Q I r h
  obtain ⟨l, rfl, hz, q⟩ := h
  refine call_len_str pins s σ H _ us Q I r ⟨S l, rfl, S_le hz, ?_⟩
  rw [S_len]
  exact q
def rInS (neg : Bool) : R2 := fun x y H Q => ∃ (c : Nat) (l : List Nat), x = .str (S [c]) ∧ y = .str (S l) ∧ Q (.bl (if neg then !decide (c ∈ l) else decide (c ∈ l))) H
theorem op_inS {X : Cx} : OpR X (compareOp .In) (rInS false) := by
  intro pins s σ H x y v u Q I rx ry h
  obtain ⟨c, l, rfl, rfl, q⟩ := h
  exact op_in_sign pins s σ H _ _ v u Q I rx ry ⟨c, S l, rfl, rfl, by simpa [S_cps] using q⟩
theorem op_notInS {X : Cx} : OpR X (compareOp .NotIn) (rInS true) := by
  intro pins s σ H x y v u Q I rx ry h
  obtain ⟨c, l, rfl, rfl, q⟩ := h
  exact op_notIn_sign pins s σ H _ _ v u Q I rx ry ⟨c, S l, rfl, rfl, by simpa [S_cps] using q⟩
/-! the place of a sign -/
def n1 (l : List Nat) (c : Nat) : Nat := (l.takeWhile (· != c)).length
theorem n1_le (l : List Nat) (c : Nat) : n1 l c ≤ l.length := (List.takeWhile_prefix _).length_le
theorem n1_nil (c : Nat) : n1 [] c = 0 := rfl
theorem n1_cons (x : Nat) (l : List Nat) (c : Nat) : n1 (x :: l) c = if x = c then 0 else n1 l c + 1 := by
  unfold n1
  rw [List.takeWhile_cons]
  by_cases h : x = c
  · rw [if_pos h]
    simp [h]
  · rw [if_neg h]
    simp [h]
theorem n1_mem {l : List Nat} {c : Nat} : c ∈ l ↔ n1 l c < l.length := by
  induction l with
  | nil => simp [n1]
  | cons x r ih =>
    rw [n1_cons, List.mem_cons, List.length_cons]
    by_cases h : x = c
    · rw [if_pos h]
      simp [h]
    · rw [if_neg h]
      have h2 : ¬ c = x := fun z => h z.symm
      simp only [h2, false_or, ih]
      omega
theorem n1_not {l : List Nat} {c : Nat} (h : c ∉ l) : n1 l c = l.length := by
  have h1 := n1_le l c
  have h2 : ¬ n1 l c < l.length := fun z => h (n1_mem.mpr z)
  omega
theorem n1_at {l : List Nat} {c : Nat} (h : c ∈ l) : l[n1 l c]? = some c := by
  induction l with
  | nil => cases h
  | cons x r ih =>
    rw [n1_cons]
    by_cases hx : x = c
    · rw [if_pos hx, hx]
      rfl
    · rw [if_neg hx, List.getElem?_cons_succ]
      refine ih ?_
      rcases List.mem_cons.mp h with h | h
      · exact absurd h.symm hx
      · exact h
theorem n1_before {l : List Nat} {c k : Nat} (h : k < n1 l c) : l[k]? ≠ some c := by
  induction l generalizing k with
  | nil => simp
  | cons x r ih =>
    rw [n1_cons] at h
    by_cases hx : x = c
    · rw [if_pos hx] at h
      omega
    · rw [if_neg hx] at h
      cases k with
      | zero => simpa using hx
      | succ k =>
        rw [List.getElem?_cons_succ]
        exact ih (by omega)
theorem n1_eq {l : List Nat} {c k : Nat} (h : l[k]? = some c) (hb : ∀ j, j < k → l[j]? ≠ some c) : n1 l c = k := by
  have hm : c ∈ l := List.mem_of_getElem? h
  have h1 := n1_at hm
  rcases Nat.lt_trichotomy (n1 l c) k with h2 | h2 | h2
  · exact absurd h1 (hb _ h2)
  · exact h2
  · exact absurd h (n1_before h2)
theorem at_one (l : List Nat) (c i : Nat) : StrLaws.At (S l) (S [c]) (S l).length i ↔ l[i]? = some c := by
  have h := StrLaws.subAt_one (S l) c i
  rw [show (⟨#[c]⟩ : Str) = S [c] from rfl] at h
  rw [S_cps] at h
  exact h
theorem findS (l : List Nat) (c : Nat) : Txt.find (S l) (S [c]) = if c ∈ l then (n1 l c : Int) else -1 := by
  unfold Txt.find
  rcases StrLaws.occ_head (S l) (S [c]) 1 (Nat.le_refl 1) with ⟨h0, hn⟩ | ⟨i, r, h0, hi, hn⟩
  · rw [h0]
    have hc : c ∉ l := fun hm => by
      obtain ⟨j, hj⟩ := List.getElem?_of_mem hm
      exact hn j ((at_one l c j).mpr hj)
    rw [if_neg hc]
  · rw [h0]
    have h1 := (at_one l c i).mp hi
    rw [if_pos (List.mem_of_getElem? h1), n1_eq h1 fun j hj e => hn j hj ((at_one l c j).mpr e)]
theorem startsS (l : List Nat) (c : Nat) : Txt.startswith (S l) (S [c]) = decide (l[0]? = some c) := by
  have h := at_one l c 0
  unfold StrLaws.At at h
  unfold Txt.startswith
  rw [Bool.eq_iff_iff, Bool.and_eq_true, decide_eq_true_eq, decide_eq_true_eq]
  exact h
theorem partS (l : List Nat) (c : Nat) : (Txt.partition (S l) (S [c])).1 = S (l.take (n1 l c)) := by
  have ey : TL.tl (S [c]) = c :: [] := by simp [TL.tl, S]
  by_cases h : c ∈ l
  · have h1 := n1_at h
    have hlt : n1 l c < l.length := n1_mem.mp h
    have e : S l = S (l.take (n1 l c)) ++ S [c] ++ S (l.drop (n1 l c + 1)) := by
      rw [S_app, S_app]
      congr 1
      have e2 : l.drop (n1 l c) = c :: l.drop (n1 l c + 1) := by
        rw [List.drop_eq_getElem_cons hlt]
        rw [List.getElem?_eq_getElem hlt] at h1
        rw [Option.some.inj h1]
      rw [List.append_assoc, List.singleton_append, ← e2, List.take_append_drop]
    have hno : c ∉ TL.tl (S (l.take (n1 l c))) := by
      have : TL.tl (S (l.take (n1 l c))) = l.take (n1 l c) := by simp [TL.tl, S]
      rw [this]
      intro hm
      obtain ⟨j, hj⟩ := List.getElem?_of_mem hm
      have hj2 : j < n1 l c := by
        have := (List.getElem?_eq_some_iff.mp hj).1
        rw [List.length_take] at this
        omega
      rw [List.getElem?_take_of_lt hj2] at hj
      exact n1_before hj2 hj
    have q := TL.partition_app (y := S [c]) ey (a := S (l.take (n1 l c))) (b := S (l.drop (n1 l c + 1))) hno
    rw [← e] at q
    rw [q]
  · have hno : c ∉ TL.tl (S l) := by
      have : TL.tl (S l) = l := by simp [TL.tl, S]
      rw [this]
      exact h
    rw [TL.partition_none ey hno, n1_not h, List.take_length]
/-! cuts -/
section
variable {H : Hp} {Q : VK} {l : List Nat} {i j : Int} {m n : Nat}
theorem iSlTo (hz : l.length ≤ 100000) (e : i = (n : Int)) (h : Q (.str (S (l.take n))) H) : rSlS (.str (S l)) none (some i) H Q := by
  subst e
  refine ⟨S l, rfl, S_le hz, ?_⟩
  rw [S_to]
  exact h
theorem iSlFrom (hz : l.length ≤ 100000) (e : i = (n : Int)) (h : Q (.str (S (l.drop n))) H) : rSlS (.str (S l)) (some i) none H Q := by
  subst e
  refine ⟨S l, rfl, S_le hz, ?_⟩
  rw [S_from]
  exact h
theorem S_mid (l : List Nat) (m n : Nat) : cutS (S l) (some (m : Int)) (some (n : Int)) = S ((l.take n).drop m) := by
  rw [S_cut]
  have e1 : HT.sIx l.length 0 (some (m : Int)) = min m l.length := by
    have q := S_from l m
    unfold HT.sIx
    simp only []
    split
    · omega
    · omega
  have e2 : HT.sIx l.length l.length (some (n : Int)) = min n l.length := by
    unfold HT.sIx
    simp only []
    split
    · omega
    · omega
  rw [e1, e2]
  congr 1
  rw [List.drop_take]
  by_cases h : m ≤ l.length
  · rw [Nat.min_eq_left h]
    by_cases h2 : n ≤ l.length
    · rw [Nat.min_eq_left h2]
    · rw [Nat.min_eq_right (Nat.le_of_not_le h2)]
      have h3 : (l.drop m).length = l.length - m := List.length_drop
      rw [List.take_of_length_le (Nat.le_of_eq h3), List.take_of_length_le (by omega)]
  · rw [Nat.min_eq_right (Nat.le_of_not_le h), List.drop_of_length_le (Nat.le_refl _), List.drop_of_length_le (Nat.le_of_not_le h)]
    simp
theorem iSlMid (hz : l.length ≤ 100000) (e1 : i = (m : Int)) (e2 : j = (n : Int)) (h : Q (.str (S ((l.take n).drop m))) H) : rSlS (.str (S l)) (some i) (some j) H Q := by
  subst e1 e2
  refine ⟨S l, rfl, S_le hz, ?_⟩
  rw [S_mid]
  exact h
end
theorem iAddS {a b : List Nat} {H : Hp} {Q : VK} (hz : a.length + b.length ≤ 100000) (h : Q (.str (S (a ++ b))) H) : rAddS (.str (S a)) (.str (S b)) H Q := ⟨a, b, rfl, rfl, hz, h⟩
theorem iLenS1 {l : List Nat} {H : Hp} {Q : VK} (hz : l.length ≤ 100000) (h : Q (.int (l.length : Nat)) H) : rLenS1 [.str (S l)] H Q := ⟨l, rfl, hz, h⟩
theorem iInS {c : Nat} {l : List Nat} {H : Hp} {Q : VK} (h : Q (.bl (decide (c ∈ l))) H) : rInS false (.str (S [c])) (.str (S l)) H Q := ⟨c, l, rfl, rfl, by simpa using h⟩
theorem iNotInS {c : Nat} {l : List Nat} {H : Hp} {Q : VK} (h : Q (.bl (!decide (c ∈ l))) H) : rInS true (.str (S [c])) (.str (S l)) H Q := ⟨c, l, rfl, rfl, by simpa using h⟩
def rFindS : V → List V → Hp → VK → Prop := fun x xs H Q => ∃ (l : List Nat) (c : Nat), x = .str (S l) ∧ xs = [.str (S [c])] ∧ Q (.int (if c ∈ l then (n1 l c : Int) else -1)) H
theorem mt_findS {X : Cx} : MtR X "str.find" rFindS := by
  intro pins s σ H x xs v us Q I rx rs h
  obtain ⟨l, c, rfl, rfl, q⟩ := h
  exact mt_find pins s σ H _ _ v us Q I rx rs ⟨_, _, rfl, rfl, by rw [findS]; exact q⟩
def rStartS : V → List V → Hp → VK → Prop := fun x xs H Q => ∃ (l : List Nat) (c : Nat), x = .str (S l) ∧ xs = [.str (S [c])] ∧ Q (.bl (decide (l[0]? = some c))) H
theorem mt_startS {X : Cx} : MtR X "str.startswith" rStartS := by
  intro pins s σ H x xs v us Q I rx rs h
  obtain ⟨l, c, rfl, rfl, q⟩ := h
  exact mt_startswith pins s σ H _ _ v us Q I rx rs ⟨_, _, rfl, rfl, by rw [startsS]; exact q⟩
def rPartS : V → List V → Hp → VK → Prop := fun x xs H Q => ∃ (l : List Nat) (c : Nat), x = .str (S l) ∧ xs = [.str (S [c])] ∧ l.length ≤ 100000 ∧ ∀ p, H p = none → ∀ y z : V, Q (.ref p) (upd H p (.tup [.str (S (l.take (n1 l c))), y, z]))
theorem mt_partS {X : Cx} : MtR X "str.partition" rPartS := by
  intro pins s σ H x xs v us Q I rx rs h
  obtain ⟨l, c, rfl, rfl, hz, q⟩ := h
  exact mt_partition pins s σ H _ _ v us Q I rx rs ⟨_, _, rfl, rfl, rfl, S_le hz, fun p hp => by rw [partS]; exact q p hp _ _⟩
theorem iFindS {c : Nat} {l : List Nat} {H : Hp} {Q : VK} (h : Q (.int (if c ∈ l then (n1 l c : Int) else -1)) H) : rFindS (.str (S l)) [.str (S [c])] H Q := ⟨l, c, rfl, rfl, h⟩
theorem iFindYes {c : Nat} {l : List Nat} {H : Hp} {Q : VK} (hc : c ∈ l) (h : Q (.int (n1 l c : Nat)) H) : rFindS (.str (S l)) [.str (S [c])] H Q := iFindS (by rw [if_pos hc]; exact h)
theorem iFindNo {c : Nat} {l : List Nat} {H : Hp} {Q : VK} (hc : ¬ c ∈ l) (h : Q (.int (-1)) H) : rFindS (.str (S l)) [.str (S [c])] H Q := iFindS (by rw [if_neg hc]; exact h)
theorem iStartS {c : Nat} {l : List Nat} {H : Hp} {Q : VK} (h : Q (.bl (decide (l[0]? = some c))) H) : rStartS (.str (S l)) [.str (S [c])] H Q := ⟨l, c, rfl, rfl, h⟩
theorem iPartS {c : Nat} {l : List Nat} {H : Hp} {Q : VK} (hz : l.length ≤ 100000) (h : ∀ p, H p = none → ∀ y z : V, Q (.ref p) (upd H p (.tup [.str (S (l.take (n1 l c))), y, z]))) : rPartS (.str (S l)) [.str (S [c])] H Q := ⟨l, c, rfl, rfl, hz, h⟩
theorem inV_S (t : List Nat) : ∀ us : List (List Nat), inV (.str (S t)) (us.map fun l => V.str (S l)) = decide (t ∈ us)
  | [] => rfl
  | u :: r => by
    have ih := inV_S t r
    unfold inV at ih ⊢
    rw [List.map_cons, List.any_cons, ih]
    have e : eqV (V.str (S u)) (V.str (S t)) = decide (t = u) := by
      show (S u == S t) = _
      by_cases h : t = u
      · subst h
        simp
      · have h2 : S u ≠ S t := fun e => h (S_inj.mp e).symm
        rw [beq_eq_false_iff_ne.mpr h2, decide_eq_false h]
    rw [e, Bool.eq_iff_iff]
    simp
/-- a text among written texts -/
theorem iInL {K : PySem.W.Frag} {p : Addr} {t : List Nat} {us : List (List Nat)} {xs : List V} {H : Hp} {Q : VK} (hq : SqL K H p xs ∨ SqT K H p xs) (hx : xs = us.map fun l => V.str (S l)) (h : Q (.bl (decide (t ∈ us))) H) : rIn K false (.str (S t)) (.ref p) H Q := by
  subst hx
  refine ⟨p, _, rfl, hq, rfl, ?_, ?_⟩
  · rw [List.all_map]
    simp [flatV]
  · rw [if_neg Bool.false_ne_true, inV_S]
    exact h
theorem iNInL {K : PySem.W.Frag} {p : Addr} {t : List Nat} {us : List (List Nat)} {xs : List V} {H : Hp} {Q : VK} (hq : SqL K H p xs ∨ SqT K H p xs) (hx : xs = us.map fun l => V.str (S l)) (h : Q (.bl (!decide (t ∈ us))) H) : rIn K true (.str (S t)) (.ref p) H Q := by
  subst hx
  refine ⟨p, _, rfl, hq, rfl, ?_, ?_⟩
  · rw [List.all_map]
    simp [flatV]
  · rw [if_pos rfl, inV_S]
    exact h
end Vk

set_option Elab.async false
set_option linter.all false
set_option maxRecDepth 100000
set_option maxHeartbeats 4000000
namespace Vk
open PySem PySem.Spec PyProof.Rows L2
/-! V2: isinstance -/
section
variable {K : PySem.W.Frag} {H : Hp} {Q : VK}
theorem isi_int_int {i : Int} (h : Q (.bl true) H) : rIsi K [.int i, .ty "int"] H Q := ⟨_, _, _, _, true, rfl, .ty "int", .base (.int i), rfl, h⟩
theorem isi_int_bool {i : Int} (h : Q (.bl false) H) : rIsi K [.int i, .ty "bool"] H Q := ⟨_, _, _, _, false, rfl, .ty "bool", .base (.int i), rfl, h⟩
theorem isi_int_str {i : Int} (h : Q (.bl false) H) : rIsi K [.int i, .ty "str"] H Q := ⟨_, _, _, _, false, rfl, .ty "str", .base (.int i), rfl, h⟩
theorem isi_str_str {z : Str} (h : Q (.bl true) H) : rIsi K [.str z, .ty "str"] H Q := ⟨_, _, _, _, true, rfl, .ty "str", .base (.str z), rfl, h⟩
theorem isi_str_int {z : Str} (h : Q (.bl false) H) : rIsi K [.str z, .ty "int"] H Q := ⟨_, _, _, _, false, rfl, .ty "int", .base (.str z), rfl, h⟩
theorem isi_str_bool {z : Str} (h : Q (.bl false) H) : rIsi K [.str z, .ty "bool"] H Q := ⟨_, _, _, _, false, rfl, .ty "bool", .base (.str z), rfl, h⟩
theorem isi_bl_bool {b : Bool} (h : Q (.bl true) H) : rIsi K [.bl b, .ty "bool"] H Q := ⟨_, _, _, _, true, rfl, .ty "bool", .base (.bl b), rfl, h⟩
theorem isi_bl_int {b : Bool} (h : Q (.bl true) H) : rIsi K [.bl b, .ty "int"] H Q := ⟨_, _, _, _, true, rfl, .ty "int", .base (.bl b), rfl, h⟩
theorem isi_bl_str {b : Bool} (h : Q (.bl false) H) : rIsi K [.bl b, .ty "str"] H Q := ⟨_, _, _, _, false, rfl, .ty "str", .base (.bl b), rfl, h⟩
end
end Vk

set_option Elab.async false
set_option linter.all false
set_option maxRecDepth 100000
set_option maxHeartbeats 4000000
namespace Vk
open PySem PySem.Spec PyProof.Rows L2
/-! V3: comprehensions, loops, texts joined -/
theorem SqL.off {K : PySem.W.Frag} {H1 H2 : Hp} {a D : Addr} {xs : List V} (h : SqL K H1 a xs) (hD : H1 D = none) (off : ∀ b, b ≠ D → H2 b = H1 b) : SqL K H2 a xs := by
  rcases h with h | h
  · refine .inl ?_
    rcases h with h | ⟨o, h⟩
    · exact .inl ((off a (ne_of_none h hD)).trans h)
    · exact .inr ⟨o, (off a (ne_of_none h hD)).trans h⟩
  · exact .inr h
theorem SqL.same {K : PySem.W.Frag} {H1 H2 : Hp} {a : Addr} {xs : List V} (h : SqL K H1 a xs) (s : Same H1 H2) : SqL K H2 a xs := by
  rcases h with h | h
  · refine .inl ?_
    rcases h with h | ⟨o, h⟩
    · exact .inl (s _ _ h)
    · exact .inr ⟨o, s _ _ h⟩
  · exact .inr h
section
variable {K : PySem.W.Frag} {σ : L2.St} {H H1 : Hp} {Q : VK} {te tl : TE} {tt : TT} {vs : List Nat} {g : TG} {ta : TA}
/-- the loop of a comprehension, for the walk to stop at -/
def LcG (J : It) (g : TG) (tt : TT) (te : TE) (vs : List Nat) (σ : L2.St) (H1 : Hp) (D : Addr) (Q : VK) : Prop := ∃ W : Nat → Nat → Hp → Prop, (∃ m, W 0 m (upd H1 D (.lst []))) ∧ ∀ i m H, W i m H →
  (J.stop i H ∧ Q (.ref D) H) ∨ (J.go i H ∧ ∃ Nx : Hp → Prop, (∀ H', Nx H' → ∃ m', m' < m ∧ W (i + 1) m' H') ∧ ∀ x H', J.yld i H x H' → g x (wipe σ vs) H' fun σ2 H2 => wipe σ2 vs = wipe σ vs ∧ tt σ2 H2 fun b H3 =>
    if b = true then te σ2 H3 fun y H4 => ∃ acc, H4 D = some (.lst acc) ∧ acc.length < sizeLine ∧ Nx (upd H4 D (.lst (acc ++ [y]))) else Nx H3)
theorem iLcL (h : tl σ H fun x H1 => ∃ a, x = .ref a ∧ (∃ xs, SqL K H1 a xs) ∧ ∀ D, H1 D = none → LcG (Itl K a) g tt te vs σ H1 D Q) : tLc (iList K tl) g tt te vs σ H Q := h
theorem iLcS (h : tl σ H fun x H1 => ∃ z, x = .str z ∧ ∀ D, H1 D = none → LcG (Its z) g tt te vs σ H1 D Q) : tLc (iStr tl) g tt te vs σ H Q := h
theorem iLcR1 (h : ta σ H fun ws H1 => ∃ j : Int, ws = [.int j] ∧ -(2 ^ 62) ≤ j ∧ j < 2 ^ 62 ∧ ∀ D, H1 D = none → LcG (Itr 0 j.toNat) g tt te vs σ H1 D Q) : tLc (iRng1 ta) g tt te vs σ H Q := h
/-- a comprehension over a list that stands still, nothing else done -/
theorem lcg_list {a D : Addr} {xs : List V} {j : Nat} (p : V → Bool) (v : V → V) (hl : xs.length ≤ 4000) (hx : SqL K H1 a xs) (hD : H1 D = none)
    (hw : ∀ x, wipe ((wipe σ vs).set j (some x)) vs = wipe σ vs)
    (ht : ∀ x ∈ xs, ∀ (H2 : Hp) (Q : Bool → Hp → Prop), (∀ b, b ≠ D → H2 b = H1 b) → Q (p x) H2 → tt ((wipe σ vs).set j (some x)) H2 Q)
    (he : ∀ x ∈ xs, p x = true → ∀ (H2 : Hp) (Q : VK), (∀ b, b ≠ D → H2 b = H1 b) → Q (v x) H2 → te ((wipe σ vs).set j (some x)) H2 Q)
    (hq : Q (.ref D) (upd H1 D (.lst ((xs.filter p).map v)))) : LcG (Itl K a) (gName j) tt te vs σ H1 D Q := by
  refine lc_it (walk_list (K := K) (a := a) (xs := xs)) (fun i H => H = upd H1 D (.lst (((xs.take i).filter p).map v))) rfl (fun i H hi e => ?_) ?_ ?_
  · subst e
    exact SqL.off hx hD fun b hb => upd_ne hb
  · rintro i x H H' hi hP ⟨rfl, hc⟩
    subst hP
    have hm : x ∈ xs := List.mem_of_getElem? hc
    have off : ∀ b, b ≠ D → (upd H1 D (.lst (((xs.take i).filter p).map v))) b = H1 b := fun b hb => upd_ne hb
    have e1 : xs.take (i + 1) = xs.take i ++ [x] := by
      rw [List.take_add_one, hc]
      rfl
    refine ⟨hw _, ht x hm _ _ off ?_⟩
    by_cases hp : p x = true
    · rw [if_pos hp]
      refine he x hm hp _ _ off ⟨_, upd_same, ?_, ?_⟩
      · rw [List.length_map, sizeLine_eq]
        have h1 := List.length_filter_le p (xs.take i)
        rw [List.length_take] at h1
        omega
      · rw [upd_upd, e1, List.filter_append, List.filter_cons_of_pos hp, List.filter_nil, List.map_append]
        rfl
    · rw [if_neg hp, e1, List.filter_append, List.filter_cons_of_neg hp, List.filter_nil, List.append_nil]
  · rintro H rfl
    rw [List.take_length]
    exact hq
/-! for -/
/-- the loop of a for, for the walk to stop at -/
def ForG (J : It) (g : TG) (tb : TS) (D : Ends) (σ : L2.St) (H1 : Hp) : Prop := ∃ W : Nat → Nat → L2.St → Hp → Prop, (∃ m, W 0 m σ H1) ∧ ∀ i m σ H, W i m σ H →
  (J.stop i H ∧ D.nx σ H) ∨ (J.go i H ∧ ∃ N : L2.St → Hp → Prop, (∀ σ' H', N σ' H' → ∃ m', m' < m ∧ W (i + 1) m' σ' H') ∧ ∀ x H', J.yld i H x H' → g x σ H' fun σ2 H2 => tb { D with nx := N, ct := N, bk := D.nx } σ2 H2)
theorem iForL {D : Ends} {tb : TS} (h : tl σ H fun x H1 => ∃ a, x = .ref a ∧ (∃ xs, SqL K H1 a xs) ∧ ForG (Itl K a) g tb D σ H1) : tFor (iList K tl) g tb D σ H := h
theorem iForS {D : Ends} {tb : TS} (h : tl σ H fun x H1 => ∃ z, x = .str z ∧ ForG (Its z) g tb D σ H1) : tFor (iStr tl) g tb D σ H := h
theorem iForR1 {D : Ends} {tb : TS} (h : ta σ H fun ws H1 => ∃ j : Int, ws = [.int j] ∧ -(2 ^ 62) ≤ j ∧ j < 2 ^ 62 ∧ ForG (Itr 0 j.toNat) g tb D σ H1) : tFor (iRng1 ta) g tb D σ H := h
theorem iForR2 {D : Ends} {tb : TS} (h : ta σ H fun ws H1 => ∃ i j : Int, ws = [.int i, .int j] ∧ (-(2 ^ 62) ≤ i ∧ i < 2 ^ 62 ∧ -(2 ^ 62) ≤ j ∧ j < 2 ^ 62) ∧ ForG (Itr i (j - i).toNat) g tb D σ H1) : tFor (iRng2 ta) g tb D σ H := h
/-- a loop over a text -/
theorem for_S {D : Ends} {tb : TS} {l : List Nat} (Pv : Nat → L2.St → Hp → Prop) (h0 : Pv 0 σ H)
    (hs : ∀ i c σ H, l[i]? = some c → Pv i σ H → g (.str (S [c])) σ H fun σ2 H2 => tb { nx := Pv (i + 1), rt := D.rt, bk := D.nx, ct := Pv (i + 1) } σ2 H2) (hd : ∀ σ H, Pv l.length σ H → D.nx σ H) : ForG (Its (S l)) g tb D σ H := by
  refine for_it walk_str Pv h0 (fun _ _ _ _ _ => trivial) ?_ ?_
  · rintro i x σ H H' hi hP ⟨rfl, c, hc, rfl⟩
    exact hs i c σ _ (S_get.mp hc) hP
  · intro σ H h
    rw [S_size] at h
    exact hd σ H h
/-- a loop over range(n) -/
theorem for_R {D : Ends} {tb : TS} {lo : Int} {n : Nat} (Pv : Nat → L2.St → Hp → Prop) (h0 : Pv 0 σ H)
    (hs : ∀ i σ H, i < n → Pv i σ H → g (.int (lo + (i : Int))) σ H fun σ2 H2 => tb { nx := Pv (i + 1), rt := D.rt, bk := D.nx, ct := Pv (i + 1) } σ2 H2) (hd : ∀ σ H, Pv n σ H → D.nx σ H) : ForG (Itr lo n) g tb D σ H :=
  for_range Pv h0 hs hd
/-- a loop over a list -/
theorem for_L {D : Ends} {tb : TS} {a : Addr} {xs : List V} (Pv : Nat → L2.St → Hp → Prop) (h0 : Pv 0 σ H) (hl : ∀ i σ H, i ≤ xs.length → Pv i σ H → SqL K H a xs)
    (hs : ∀ i x σ H, xs[i]? = some x → Pv i σ H → g x σ H fun σ2 H2 => tb { nx := Pv (i + 1), rt := D.rt, bk := D.nx, ct := Pv (i + 1) } σ2 H2) (hd : ∀ σ H, Pv xs.length σ H → D.nx σ H) : ForG (Itl K a) g tb D σ H :=
  for_list Pv h0 hl hs hd
/-- a comprehension over range(n), which may change the heap -/
theorem lcg_R {D : Addr} {n j : Nat} {lo : Int} (Pv : Nat → Hp → Prop) (h0 : Pv 0 (upd H1 D (.lst []))) (hw : ∀ x, wipe ((wipe σ vs).set j (some x)) vs = wipe σ vs)
    (hs : ∀ i H, i < n → Pv i H → tt ((wipe σ vs).set j (some (.int (lo + (i : Int))))) H fun b H3 => if b = true then te ((wipe σ vs).set j (some (.int (lo + (i : Int))))) H3 fun y H4 => ∃ acc, H4 D = some (.lst acc) ∧ acc.length < sizeLine ∧ Pv (i + 1) (upd H4 D (.lst (acc ++ [y]))) else Pv (i + 1) H3)
    (hd : ∀ H, Pv n H → Q (.ref D) H) : LcG (Itr lo n) (gName j) tt te vs σ H1 D Q := by
  refine lc_it walk_range Pv h0 (fun _ _ _ _ => trivial) ?_ hd
  rintro i x H H' hi hP ⟨rfl, rfl⟩
  exact ⟨hw _, hs i _ hi hP⟩
/-- .. over a text -/
theorem lcg_S {D : Addr} {j : Nat} {l : List Nat} (Pv : Nat → Hp → Prop) (h0 : Pv 0 (upd H1 D (.lst []))) (hw : ∀ x, wipe ((wipe σ vs).set j (some x)) vs = wipe σ vs)
    (hs : ∀ i c H, l[i]? = some c → Pv i H → tt ((wipe σ vs).set j (some (.str (S [c])))) H fun b H3 => if b = true then te ((wipe σ vs).set j (some (.str (S [c])))) H3 fun y H4 => ∃ acc, H4 D = some (.lst acc) ∧ acc.length < sizeLine ∧ Pv (i + 1) (upd H4 D (.lst (acc ++ [y]))) else Pv (i + 1) H3)
    (hd : ∀ H, Pv l.length H → Q (.ref D) H) : LcG (Its (S l)) (gName j) tt te vs σ H1 D Q := by
  refine lc_it walk_str Pv h0 (fun _ _ _ _ => trivial) ?_ ?_
  · rintro i x H H' hi hP ⟨rfl, c, hc, rfl⟩
    exact ⟨hw _, hs i c _ (S_get.mp hc) hP⟩
  · intro H h
    rw [S_size] at h
    exact hd H h
theorem iYes {Q : Bool → Hp → Prop} (h : Q true H) : tYes σ H Q := h
end
/-- what was new is forgotten -/
theorem Fr.forget {L M : List Addr} {H H' : Hp} (f : Fr M H H') (h : ∀ x ∈ M, x ∈ L ∨ H x = Option.none) : Fr L H H' := fun x u hx e => f x u (fun hm => by
  rcases h x hm with h | h
  · exact hx h
  · rw [e] at h
    cases h) e
theorem Fr.forget2 {b D : Addr} {H H' : Hp} (f : Fr [b, D] H H') (h : H D = Option.none) : Fr [b] H H' := f.forget fun x hx => by
  rcases List.mem_cons.mp hx with rfl | hx
  · exact .inl List.mem_cons_self
  · rw [List.mem_singleton] at hx
    subst hx
    exact .inr h
theorem Fr.forget1 {D : Addr} {H H' : Hp} (f : Fr [D] H H') (h : H D = Option.none) : Same H H' := (f.forget (L := []) fun x hx => by
    rw [List.mem_singleton] at hx
    subst hx
    exact .inr h).same
/-- '' joins signs -/
theorem join_S {l : List Nat} (hl : l.length ≤ 4000) : (((l.map fun c => S [c]).map (·.length)).sum + (l.map fun c => S [c]).length * (S []).length ≤ 16777216) ∧ Txt.join (S []) (l.map fun c => S [c]) = S l := by
  refine ⟨?_, join_signs _⟩
  rw [S_len, List.length_nil, Nat.mul_zero, Nat.add_zero, List.map_map]
  have e1 : l.map ((fun x : Str => x.length) ∘ fun c => S [c]) = l.map fun _ => 1 := List.map_congr_left fun c _ => S_len [c]
  rw [e1]
  have e2 : (l.map fun _ => 1).sum = l.length := by
    clear hl e1
    induction l with
    | nil => rfl
    | cons x xs ih => rw [List.map_cons, List.sum_cons, ih, List.length_cons, Nat.add_comm]
  rw [e2]
  omega
theorem iJoinS {K : PySem.W.Frag} {p : Addr} {l : List Nat} {H : Hp} {Q : VK} (hq : SqL K H p (l.map fun c => V.str (S [c]))) (hl : l.length ≤ 4000) (h : Q (.str (S l)) H) :
    ∃ (a : Str) (q : Addr) (ys : List Str), V.str (S []) = .str a ∧ [V.ref p] = [.ref q] ∧ (SqL K H q (ys.map V.str) ∨ SqT K H q (ys.map V.str)) ∧ (ys.map (·.length)).sum + ys.length * a.length ≤ 16777216 ∧ Q (.str (Txt.join a ys)) H := by
  obtain ⟨h1, h2⟩ := join_S hl
  refine ⟨S [], p, l.map fun c => S [c], rfl, rfl, .inl ?_, h1, ?_⟩
  · rw [List.map_map]
    exact hq
  · rw [h2]
    exact h
end Vk

set_option Elab.async false
set_option linter.all false
set_option maxRecDepth 100000
set_option maxHeartbeats 4000000
namespace Vk
open PySem PySem.Spec PyProof.Rows L2
section
variable {K : PySem.W.Frag} {H : Hp} {Q : VK} {a : Addr} {xs : List V}
theorem iSlL {lo hi : Option Int} (hq : SqL K H a xs) (h : ∀ p, H p = none → Q (.ref p) (upd H p (.lst (cutV xs lo hi)))) : rSlL K (.ref a) lo hi H Q := ⟨a, xs, rfl, hq, h⟩
theorem iCat {b : Addr} {ys : List V} (ha : H a = some (.lst xs)) (hb : H b = some (.lst ys)) (hz : xs.length + ys.length ≤ sizeLine) (h : ∀ p, H p = none → Q (.ref p) (upd H p (.lst (xs ++ ys)))) : rCat (.ref a) (.ref b) H Q := ⟨a, b, xs, ys, rfl, rfl, ha, hb, hz, h⟩
theorem iAppend {y : V} (ha : H a = some (.lst xs)) (hz : xs.length < sizeLine) (h : Q .non (upd H a (.lst (xs ++ [y])))) : rAppend (.ref a) [y] H Q := ⟨a, xs, y, rfl, rfl, ha, hz, h⟩
theorem iTruL {R : Bool → Prop} (hq : SqL K H a xs) (h : R (!xs.isEmpty)) : ∃ k, TruV K (.ref a) H k ∧ R k := ⟨_, .inl ⟨xs, hq, rfl⟩, h⟩
theorem iTruNil {R : Bool → Prop} (hq : SqL K H a []) (h : R false) : ∃ k, TruV K (.ref a) H k ∧ R k := ⟨_, .inl ⟨[], hq, rfl⟩, h⟩
theorem iTruCons {R : Bool → Prop} {x : V} (hq : SqL K H a (x :: xs)) (h : R true) : ∃ k, TruV K (.ref a) H k ∧ R k := ⟨_, .inl ⟨_, hq, rfl⟩, h⟩
theorem iListT {l : List Nat} (hl : l.length ≤ 4000) (h : ∀ p, H p = none → Q (.ref p) (upd H p (.lst (l.map fun c => V.str (S [c]))))) : rListT [.str (S l)] H Q := by
  refine ⟨S l, rfl, (by rw [S_len]; exact hl), fun p hp => ?_⟩
  have e : (signsOf (S l)).map V.str = l.map fun c => V.str (S [c]) := by
    rw [signs_S, List.map_map]
    rfl
  rw [e]
  exact h p hp
end
end Vk

set_option Elab.async false
set_option linter.all false
set_option maxRecDepth 100000
set_option maxHeartbeats 4000000
namespace Vk
open PySem PySem.Spec PyProof.Rows L2
/-! o.m(e, ..) whose def may raise, in a try -/
def tMethS (C : Addr) (m : Str) (sp : Sp) (E : L2.St → XK) (ta : TE) (t : TA) : TE := fun σ H Q => ta σ H fun x H1 => ∃ a dx fs, x = .ref a ∧ H1 a = some (.ins C dx fs) ∧ fs.lookup m = none ∧ t σ H1 fun vs H2 => sp (x :: vs) H2 Q (E σ)
section
variable {X : Cx} {CX : CXT} {k : Nat} {f C : Addr} {fd : FuncData} {ps : List Str} {sp : Sp} {E : L2.St → XK} {m : Str} {apos pos : Pos} {o e : Expr} {es : List Expr} {ta : TE} {t : TA}
theorem pe_methS {pl : Sem Bool} (he : PE X o ta) (c : Cls X.K C) (hm : Meth X.K C m f) (F : FnOk X.prog X.w X.K X.mg X.base CX k f fd ps sp) (hr : Room k X.A) (hb : Binds X.K fd ps []) (hx : ∀ σ, PassesAt CX X σ (E σ)) (ha : PA X (e :: es) t)
    (hst : starEach (e :: es) X.env = (false, eval e X.env) :: starEach es X.env := by rfl) (hpl : (backTo pos (starEach es X.env)).any (·.1) = false := by rfl)
    (ht : eval (.Call (.Attribute o m apos) (e :: es) [] pos) X.env = (do
      let ov ← eval o X.env
      standAt apos.atName
      let (f, first) ← holding [ov] (getMethod ov m pl)
      callWith pos f first (backTo pos (starEach (e :: es) X.env)) (backToKw pos (keywordEach [] X.env))) := by rfl) :
    PE X (.Call (.Attribute o m apos) (e :: es) [] pos) (tMethS C m sp E ta t) := by
  refine ⟨fun pins s σ H Q I h => ?_⟩
  refine PySem.W.methodCall_KW (pl := pl) (thn (he.run pins s σ H _ I h) fun u s1 ⟨x, H1, I1, rx, a, dx, fs, ex, ea, l, q⟩ => ?_) ht
  subst ex
  obtain rfl : u = Value.ref a := rx
  refine getmeth_ok I1 ea c hm l ?_
  refine PySem.W.callWith_K (first := [.ref a]) (h₀ := X.base) I.ok.mod.kin hm.kp (thn (ha.run pos pins s1 σ H1 _ I1 q) fun us s2 ⟨vs, H2, I2, r, q2⟩ => ⟨I2.kIn, ?_⟩) hst hpl
  exact run_fnS (us := .ref a :: us) (vs := .ref a :: vs) F hr hb (hx σ) I2 (.cons rfl r) q2
end
end Vk

set_option Elab.async false
set_option linter.all false
set_option maxRecDepth 100000
set_option maxHeartbeats 4000000
namespace Vk
open PySem PySem.Spec PyProof.Rows L2
theorem ns_fun {h : Heap} {a : Addr} {m m' : Str → Option Value} (x : h.Ns a m) (y : h.Ns a m') (n : Str) : m n = m' n := by
  obtain ⟨o, es, ep, ho, hd, _, f⟩ := x
  obtain ⟨o', es', ep', ho', hd', _, f'⟩ := y
  rw [ho] at ho'
  cases ho'
  rw [hd] at hd'
  cases hd'
  rw [← f, f']
/-- the local y holds this very value -/
def RawAt (X : Cx) (s : Shared) (y : Str) (u : Value) : Prop := ∃ m, s.heap.Ns X.env.locals m ∧ m y = some u
section
variable {X : Cx} {pins : List (Addr × Obj)} {σ : L2.St} {H : Hp} {s : Shared}
theorem set_raw {M : Model} {A : Around} {E : Value → Shared → Prop} {i : Nat} {x : Str} {v : V} {u : Value} {Q : Unit → Shared → Prop} (I : Inv X pins σ H s) (hN : X.N.Nodup) (hi : X.N[i]? = some x) (hk : X.env.kindOf x = some .local) (r : RelV v u)
    (h : ∀ s', Inv X pins (σ.set i (some v)) H s' → RawAt X s' x u → (∀ y w, y ≠ x → RawAt X s y w → RawAt X s' y w) → s'.toks = s.toks + 1 → Q () s') : wpAny M A (storeName X.env x u) Q E s := by
  obtain ⟨m, hn, hl⟩ := id I.loc
  have hcls : (X.env.scope.kind == .class || (X.env.scope.kind == .module && X.env.locals != X.env.globals)) = false := by rw [I.ok.kind]; rfl
  have hiσ : i < σ.length := by rw [I.len]; exact (List.getElem?_eq_some_iff.mp hi).1
  refine wpAny_storeName_local hk hn (fun h' hn' hs => ?_) hcls
  obtain ⟨oL, _, _, hoL, _⟩ := id hn
  have old : ∀ b o, X.s_0.heap.get? b = some o → b ≠ X.env.locals := fun b o e => Nat.ne_of_lt (Nat.lt_of_lt_of_le (Heap.lt_size e) I.ok.above)
  refine h _ ⟨I.ok, I.os, I.bare, ⟨fun b o e n hb hx => (hs.2 b (old b o e)).trans (I.base.keep b o e n hb hx), fun b o e n hb hx => ?_, I.base.free, fun b o e hx => ?_, I.base.tups, I.base.frzs, I.base.tbls⟩, ⟨_, hn', fun j y v' e1 e2 e3 => ?_⟩, fun y c e => ?_, I.free, I.freeC, fun p hp => ?_, fun b ob e => ?_, by simpa using I.len⟩
    ⟨_, hn', if_pos rfl⟩ (fun y w hne ⟨m2, hn2, e2⟩ => ⟨_, hn', by rw [if_neg hne, ns_fun hn hn2 y, e2]⟩) rfl
  · obtain ⟨sl, e1⟩ := I.base.slot b o e n hb hx
    exact ⟨sl, (hs.2 b (old b o e)).trans e1⟩
  · obtain ⟨o', e1⟩ := I.base.there b o e hx
    exact ⟨o', (hs.2 b (old b o e)).trans e1⟩
  · by_cases hj : j = i
    · subst hj
      rw [hi] at e1
      cases e1
      rw [List.getElem?_set_self hiσ] at e2
      cases e2
      exact ⟨u, r, .inl ⟨hk, if_pos rfl⟩⟩
    · rw [List.getElem?_set_ne (Ne.symm hj)] at e2
      obtain ⟨u', r', q⟩ := hl j y v' e1 e2 e3
      refine ⟨u', r', ?_⟩
      rcases q with ⟨k, e⟩ | ⟨k, c, e, z⟩
      · have ny : y ≠ x := fun e => hj (nodup_ix hN e1 (e ▸ hi))
        exact .inl ⟨k, (if_neg ny).trans e⟩
      · exact .inr ⟨k, c, e, z.sameBut hs (I.cne y c e)⟩
  · obtain ⟨w', z⟩ := I.cell y c e
    exact ⟨w', z.sameBut hs (I.cne y c e)⟩
  · obtain ⟨e, n, ne, nf, d⟩ := I.pin p hp
    exact ⟨(hs.2 p.1 ne).trans e, n, ne, nf, d⟩
  · refine (I.hok b ob e).stay (fun c w' hc q => (hs.2 c ?_).trans q) (fun _ q => q) fun _ _ q => q
    intro z
    subst z
    rcases hc with hc | hc
    · rw [← hc, I.free] at e
      cases e
    · rw [I.free] at hc
      cases hc
theorem raw_var {M : Model} {A : Around} {y : Str} {u : Value} {pos : Pos} {Q E : Value → Shared → Prop} (I : Inv X pins σ H s) (r : RawAt X s y u) (hk : X.env.kindOf y = some .local) (h : Q u s) (hd : (y == ("__debug__" : Str)) = false := by decide) : wpAny M A (eval (.Name y pos) X.env) Q E s := by
  obtain ⟨m, hn, hm⟩ := r
  exact wpAny_Name (wpAny_loadName_local I.ok.kind hk hn hm h) hd
end
/-! a for whose body may know that a token is out -/
section
variable {X : Cx}
theorem pst_forT {tg iter : Expr} {body : List Stmt} {wi : TI} {g : TG} {tb : TS} {pos : Pos} (hp : PassesOwn (model X.prog X.w) X.A X.env X.xe) (hc : X.calm = true) (hi : PI X tg iter wi) (hg : PG X tg g) (hb : PSsT X body tb)
    (hs : ∀ x, foldedSetIterable iter X.env x = pure x := by intro _; rfl) : PST X (.For tg iter body [] pos) (tFor wi g tb) := by
  intro pins s σ H D h0 I h
  refine wpAny_For (wpAny_mono (PySem.wpAny_toks_of h0 (hi.run pins s σ H _ I h)) (fun v s1 h1 => wpAny_mono (PySem.wpAny_toks_of h1.1 h1.2) (fun itv s2 h2 => ?_) fun _ _ z => z.2) fun _ _ z => z.2) hs
  obtain ⟨k2, it, fp, tn, J, H2, e, I2, T, st2, f2, W, ⟨m0, w0⟩, turn⟩ := h2
  subst e
  have stat : ∀ {H' : Hp}, (∀ b ∈ fp, H' b = none) → ∀ b ∈ fp, FpOk X pins H' b := fun hn b hb => ⟨hn b hb, (f2 b hb).2⟩
  refine codeAny_forLoop_any (fun n s' => 1 ≤ s'.toks ∧ ∃ i σ' H', Inv X pins σ' H' s' ∧ tn i s'.heap ∧ (∀ b ∈ fp, H' b = none) ∧ W i n σ' H') ?_ m0 ⟨k2, 0, σ, H2, I2, st2, fun b hb => (f2 b hb).1, w0⟩
  rintro n s3 ⟨k3, i, σ3, H3, I3, st3, fr3, w3⟩
  rcases turn i n σ3 H3 w3 with ⟨stop, qn⟩ | ⟨go, N, hN, step⟩
  · refine wpAny_passesOwn hp (thn (T.done X rfl rfl rfl hc i pins s3 σ3 H3 X.xe I3 (stat fr3) st3 stop) fun r s4 ⟨hr, I4⟩ => ?_)
    subst hr
    exact wpAny_execs_nil ⟨σ3, H3, I4, qn⟩
  · refine wpAny_passesOwn hp (wpAny_mono (PySem.wpAny_toks_of k3 (T.item X rfl rfl rfl hc i pins s3 σ3 H3 X.xe I3 (stat fr3) st3 go)) (fun r s4 h4 => ?_) fun _ _ z => z.2)
    obtain ⟨k4, u, hr, h4⟩ := h4
    subst hr
    refine wpAny_passesOwn hp (wpAny_mono (PySem.wpAny_toks_of k4 h4) (fun _ s5 h5 => ?_) fun _ _ z => z.2)
    obtain ⟨k5, x, H5, I5, r5, y5, st5, fr5⟩ := h5
    have I5' := I5.pinned (stat fr5) (T.obj _ _ st5)
    refine wpAny_passesOwn hp (wpAny_mono (PySem.wpAny_toks_of k5 (hg.run _ s5 σ3 H5 x u _ I5' r5 (step x H5 y5))) (fun _ s6 h6 => ?_) fun _ _ z => z.2)
    obtain ⟨k6, σ6, H6, I6, q6⟩ := h6
    refine wpAny_passesOwn hp (wpAny_mono (PySem.wpAny_toks_of k6 (hb _ s6 σ6 H6 _ k6 I6 q6)) (fun f s7 q7 => ?_) fun _ _ z => z.2)
    obtain ⟨k7, q7⟩ := q7
    have again : ∀ {σ7 : L2.St} {H7 : Hp}, Inv X (pins ++ pinsAt fp s5.heap) σ7 H7 s7 → N σ7 H7 → ∃ m, m < n ∧ 1 ≤ s7.toks ∧ ∃ i σ' H', Inv X pins σ' H' s7 ∧ tn i s7.heap ∧ (∀ b ∈ fp, H' b = none) ∧ W i m σ' H' := fun {σ7 H7} I7 n7 => by
      obtain ⟨m', hm, w7⟩ := hN σ7 H7 n7
      refine ⟨m', hm, k7, i + 1, σ7, H7, I7.unpinned, T.keep _ _ _ st5 fun b hb o e => (I7.pin (b, o) (List.mem_append_right _ (List.mem_append_right _ (mem_pinsAt hb e)))).1, fun b hb => ?_, w7⟩
      obtain ⟨o, e, d⟩ := T.obj _ _ st5 b hb
      exact (I7.pin (b, o) (List.mem_append_right _ (List.mem_append_right _ (mem_pinsAt hb e)))).2.1
    cases f with
    | next => obtain ⟨σ7, H7, I7, n7⟩ := q7; exact again I7 n7
    | cont => obtain ⟨σ7, H7, I7, n7⟩ := q7; exact again I7 n7
    | brk => obtain ⟨σ7, H7, I7, q7⟩ := q7; exact ⟨σ7, H7, I7.unpinned, q7⟩
    | ret v => obtain ⟨x7, σ7, H7, I7, r7, q7⟩ := q7; exact ⟨x7, σ7, H7, I7.unpinned, r7, q7⟩
/-- letter = pool[e]; pool = pool.replace(letter, '') -/
def tPool (ip il : Nat) (te : TE) (u : TS) : TS := fun D σ H => ∃ l : List Nat, σ[ip]? = some (some (.str (S l))) ∧ l.length ≤ 1000 ∧ te σ H fun v H1 => ∃ (r c : Nat), v = .int (r : Int) ∧ l[r]? = some c ∧
  u D ((σ.set il (some (.str (S [c])))).set ip (some (.str (Txt.replace (S l) (S [c]) (S []))))) H1
theorem pss_pool {ip il : Nat} {xp xl : Str} {e : Expr} {te : TE} {rest : List Stmt} {u : TS} {j : Nat} {a1 a2 a3 a4 b1 b2 b3 b4 b5 b6 b7 : Pos} (hNd : X.N.Nodup) (hip : X.N[ip]? = some xp) (hil : X.N[il]? = some xl) (hne : ip ≠ il)
    (hvp : Vis X.env.scope xp) (hkp : X.env.kindOf xp = some .local) (hkl : X.env.kindOf xl = some .local) (he : PE X e te) (h2 : PSs X rest u)
    (hsl : PlainIx e) (dp : (xp == ("__debug__" : Str)) = false) (cp : (xp == ("__classdict__" : Str)) = false) (dl : (xl == ("__debug__" : Str)) = false)
    (hs1 : swapsWith (.Subscript (.Name xp a3) e a4) (some (.Name xl a1)) a2.line X.env = pure false := by rfl)
    (hs2 : swapsWith (.Call (.Attribute (.Name xp b3) "replace" b4) [.Name xl b5, .Constant (.str "") j b6] [] b7) (some (.Name xp b1)) b2.line X.env = pure false := by rfl) (hline : (b4.endLine == b7.line) = true := by rfl) :
    PSsT X (.Assign [.Name xl a1] (.Subscript (.Name xp a3) e a4) a2 :: .Assign [.Name xp b1] (.Call (.Attribute (.Name xp b3) "replace" b4) [.Name xl b5, .Constant (.str "") j b6] [] b7) b2 :: rest) (tPool ip il te u) := by
  intro pins s σ H D k0 I h
  obtain ⟨l, hl, hlen, h⟩ := h
  refine wpAny_execs_cons (wpAny_Assign_Name (Subscript_ (raw_name hip hvp I hl (fun u0 r0 => ?_) dp cp)) hs1)
  obtain ⟨tz, rfl⟩ := r0
  refine wpAny_mono (PySem.wpAny_toks_of k0 (he.run pins s σ H _ I h)) (fun u1 s1 h1 => ?_) fun _ _ z => z.2
  obtain ⟨k1, v, H1, I1, r1, r, c, rfl, hr, h⟩ := h1
  obtain ⟨t1, rfl⟩ := r1
  have hlt : r < l.length := (List.getElem?_eq_some_iff.mp hr).1
  have e1 : decide ((r : Int) < -(2 ^ 63 : Int)) = false := decide_eq_false (by omega)
  have e2 : decide ((r : Int) ≥ 2 ^ 63) = false := decide_eq_false (by omega)
  refine tail_any (typeIs_str s1 (S l) tz) slot_str_getitem.lookup (getItem_str (c := c) (by rw [e1, e2]; rfl) ?_ ?_) (hsl _ _)
  · obtain ⟨q, q1, q2, _⟩ := atI_get (atI_nat hr)
    rw [S_len, q1]
    exact S_get.mpr q2
  · refine set_raw (i := il) (v := .str (S [c])) (I1.tok _) hNd hil hkl ⟨_, rfl⟩ (fun s2 I2 ra ro ht => ?_)
    have ht' : s2.toks = s1.toks + 1 + 1 := ht
    have hl2 : (σ.set il (some (.str (S [c]))))[ip]? = some (some (.str (S l))) := by rw [List.getElem?_set_ne (fun z => hne z.symm)]; exact hl
    refine wpAny_execs_cons (wpAny_Assign_Name (PySem.Call_method2 rfl rfl hline (raw_name hip hvp I2 hl2 (fun u3 r3 => ?_) dp cp)) hs2)
    obtain ⟨tx, rfl⟩ := r3
    refine ⟨"str", _, F.plainAttrs_str, F.slot_str_replace, F.type_str_replace, typeIs_str _ _ _, (fun _ e => nomatch e), Calls.callWith_builtin rfl (Calls.evalArgs_plain (Calls.spliced_cons ?_))⟩
    refine raw_var I2 ra hkl (Calls.spliced_cons (Calls.Constant_str (Calls.spliced_nil ?_))) dl
    have e0 : (PySem.Str.ofString "") = S [] := by decide +kernel
    have h0 : (PySem.Str.ofString "").length = 0 := by rw [e0]; exact S_len []
    have z1 : s1.toks ≠ 0 := by omega
    have z2 : s2.toks ≠ 0 := by omega
    have z3 : s1.toks ≠ s2.toks := by omega
    refine PySem.SC.replace z1 z2 z3 ?_ (by rw [S_len, h0]; omega) fun t' k' => ?_
    · refine beq_eq_false_iff_ne.mpr fun e => ?_
      rw [e0] at e
      have e3 : [c] = [] := S_inj.mp e
      cases e3
    · rw [e0]
      exact set_raw (i := ip) (v := .str (Txt.replace (S l) (S [c]) (S []))) (I2.tok _) hNd hip hkp ⟨_, rfl⟩ (fun s4 I4 _ _ _ => h2.run pins s4 _ H1 D I4 h)
end
theorem joinL_nil (p : List Nat) (r : List (List Nat)) : TL.joinL [] (p :: r) = p ++ TL.joinL [] r := by
  cases r with
  | nil => show p = p ++ []; rw [List.append_nil]
  | cons q r => rfl
theorem spl_del {c : Nat} : ∀ (l acc : List Nat), (TL.joinL [] (TL.spl [c] 0 acc l)) = acc ++ l.filter (· != c)
  | [], acc => by
    show acc = acc ++ []
    rw [List.append_nil]
  | x :: r, acc => by
    show TL.joinL [] (if TL.pre [c] (x :: r) = true then acc :: TL.spl [c] 0 [] r else TL.spl [c] 0 (acc ++ [x]) r) = _
    have hp : TL.pre [c] (x :: r) = decide (x = c) := by
      show ([x] == [c]) = _
      by_cases h : x = c <;> simp [h]
    rw [hp]
    by_cases h : x = c
    · rw [decide_eq_true h, if_pos rfl, joinL_nil, spl_del r []]
      simp [h]
    · rw [decide_eq_false h, if_neg Bool.false_ne_true, spl_del r (acc ++ [x]), List.filter_cons_of_pos (by simpa using h)]
      simp
theorem repl_S {l : List Nat} {c : Nat} (hc : c < 256) : Txt.replace (S l) (S [c]) (S []) = S (l.filter (· != c)) := by
  have h := StrLaws.replace_one (S l) (S []) c
  rw [show (⟨#[c]⟩ : Str) = S [c] from rfl] at h
  rw [h]
  have e1 : TL.tl (S [c]) = [c] := by simp [TL.tl, S]
  have e2 : TL.tl (S l) = l := by simp [TL.tl, S]
  have e3 : TL.tl (S ([] : List Nat)) = [] := by simp [TL.tl, S]
  have q := TL.tl_join (S []) (Txt.split (S l) (S [c]))
  rw [TL.split_spl _ _ (by rw [e1]; simp) (TL.kind_ok (by simp [S, hc])), e1, e2, e3, spl_del, List.nil_append] at q
  rw [S_of (Str.join (S []) (Txt.split (S l) (S [c])))]
  congr 1
end Vk

set_option Elab.async false
set_option linter.all false
set_option maxRecDepth 100000
set_option maxHeartbeats 4000000
namespace Vk
open PySem PySem.Spec PyProof.Rows L2
def top (i : Nat) : Stmt := PySem.Challenge.pw_talepost_k45_marks_and_kept.main.body.getD i (.Pass ⟨0, 0, 0, 0⟩)
abbrev sDiff : Stmt := top 15
/-- the built-in names stand for themselves -/
structure Zs (mg : Str → Option Value) : Prop where
  z_len : mg "len" = none
  z_set : mg "set" = none
  z_all : mg "all" = none
  z_abs : mg "abs" = none
  z_int : mg "int" = none
  z_range : mg "range" = none
  z_sorted : mg "sorted" = none
  z_isinstance : mg "isinstance" = none
  z_str : mg "str" = none
  z_bool : mg "bool" = none
  z_list : mg "list" = none
  z_tuple : mg "tuple" = none
  z_any : mg "any" = none
  z_enum : mg "enumerate" = none
  z_min : mg "min" = none
  z_max : mg "max" = none
  z_VE : mg "ValueError" = none
structure TxA (K : PySem.W.Frag) (mg : Str → Option Value) (aDiff : Addr) : Prop extends Zs mg where
  gDiff : mg "differ_within" = some (.ref aDiff)
theorem sz4 {n : Nat} (h : n ≤ 4000) : n ≤ sizeLine := by rw [sizeLine_eq]; omega
section
variable {P : Program} {w : World} {K : PySem.W.Frag} {mg : Str → Option Value} {base : Heap} {aDiff : Addr}
/-! differ_within -/
def Differ (t a : List Nat) : Prop := t.Nodup ∧ ∀ c ∈ t, c ∈ a
instance (t a : List Nat) : Decidable (Differ t a) := inferInstanceAs (Decidable (_ ∧ _))
def spDiff : Sp := fun vs H Q _ => ∃ t a : List Nat, vs = [.str (S t), .str (S a)] ∧ t.length ≤ 4000 ∧ ∀ H', Same H H' → Q (.bl (decide (Differ t a))) H'
theorem scDiff : FnScope ["text", "allowed", "letter"] ["text", "allowed"] (defScope sDiff) := ⟨rfl, rfl, rfl, by decide +kernel, rfl, by decide +kernel, by decide +kernel⟩
theorem ok_diff {f : Addr} {fd : FuncData} (F : Fun K "differ_within" "differ_within" sDiff f fd) (T : TxA K mg aDiff) : FnOk P w K mg base CX0 1 f fd ["text", "allowed"] spDiff := by
  refine F.ok scDiff (fun vs H Q E h => ?_) (fun cdv A outer s H vs Q E hr h => ?_)
  · obtain ⟨t, a, rfl, _⟩ := h
    rfl
  · obtain ⟨t, a, rfl, hl, k⟩ := h
    refine ⟨_, (pss_one (ps_ret (pe_and (pe_cmpR op_eq (pe_lenSetT (by rfl) T.z_len (by rfl) T.z_set (pv 0)) (pe_callB call_len_str (by rfl) T.z_len (by decide +kernel) (pa_cons (pv 0) pa_nil)) (nomark _)) (pe_one (pe_callB (cr_all rfl) (by rfl) T.z_all (by decide +kernel) (pa_cons (pe_lc (own := [("letter", 2)]) (g := gName 2) (by rfl) scDiff.nd (pi_str (pv 0)) (blkOk_by (own := [("letter", 2)]) (N := ["text", "allowed", "letter"]) (sc := defScope sDiff) (by decide +kernel)) (fun _ _ _ _ _ => pg_name (i := 2) scDiff.nd rfl (Or.inl rfl)) (fun _ _ _ _ _ => pts_nil) (fun _ _ _ _ _ => (pe_cmpR op_in_sign (pv 2) (pv 1) rfl))) pa_nil)))))), ?_⟩
    have e1 : ((metAt (S t).cps.toList (S t).cps.toList.length).length = t.length) ↔ t.Nodup := by
      rw [S_cps]
      exact metAt_end t
    refine ⟨_, rfl, _, rfl, by rw [S_len]; exact hl, _, rfl, _, rfl, sz4 (by rw [S_len]; exact hl), rfl, _, rfl, ?_⟩
    have e2 : ((V.int ((metAt (S t).cps.toList (S t).cps.toList.length).length : Nat)) = V.int ((S t).length : Nat)) ↔ t.Nodup := by
      rw [S_len, ← e1]
      constructor
      · intro h
        have h2 := V.int.inj h
        omega
      · intro h
        rw [h]
    refine ite2 (fun hn => ?_) (fun hn => ?_)
    · have hnd : t.Nodup := e2.mp (of_decide_eq_true hn)
      refine ⟨_, rfl, _, rfl, fun D hD => lc_text (fun _ => true) (fun c => V.bl (decide (c ∈ a))) hl (fun _ => rfl) (fun _ _ _ _ _ q => q) (fun c hc _ H2 Q2 _ q => ⟨_, rfl, _, rfl, c, S a, rfl, rfl, by rw [S_cps]; exact q⟩) ?_⟩
      refine ⟨D, t.map (fun c => decide (c ∈ a)), rfl, ?_, ?_⟩
      · rw [List.map_map]
        refine SqL.of ?_
        rw [upd_same, List.filter_eq_self.mpr (fun _ _ => rfl)]
        rfl
      · have e3 : (t.map fun c => decide (c ∈ a)).all id = decide (Differ t a) := by
          rw [Bool.eq_iff_iff]
          simp [Differ, hnd]
        rw [e3]
        exact k _ fun b o e => by rw [upd_ne (ne_of_none e hD)]; exact e
    · have hnd : ¬ t.Nodup := fun z => hn (decide_eq_true (e2.mpr z))
      have e3 : decide (Differ t a) = false := decide_eq_false fun z => hnd z.1
      have q := k H (Same.refl H)
      rw [e3] at q
      exact q
end
def Kp (b : Addr) (H H' : Hp) : Prop := ∀ c o, c ≠ b → H c = some o → H' c = some o
theorem Kp.refl (b : Addr) (H : Hp) : Kp b H H := fun _ _ _ h => h
theorem Kp.trans {b : Addr} {H H1 H2 : Hp} (a : Kp b H H1) (c : Kp b H1 H2) : Kp b H H2 := fun d o h e => c d o h (a d o h e)
theorem Kp.upd (b : Addr) (H : Hp) (o : HO) : Kp b H (upd H b o) := fun c u h e => by rw [upd_ne h]; exact e
def azL : List Nat := (PySem.Str.ofString "abcdefghijklmnopqrstuvwxyz").cps.toList
theorem az_S : PySem.Str.ofString "abcdefghijklmnopqrstuvwxyz" = S azL := S_of _
theorem az_len : azL.length = 26 := by decide +kernel
theorem az_nodup : azL.Nodup := by decide +kernel
theorem Differ.take {l a : List Nat} (h : Differ l a) (i : Nat) : Differ (l.take i) a := ⟨h.1.sublist (List.take_sublist i l), fun c hc => h.2 c (List.mem_of_mem_take hc)⟩
theorem differ_step {l a : List Nat} {i c : Nat} (hc : l[i]? = some c) : Differ (l.take (i + 1)) a ↔ (Differ (l.take i) a ∧ c ∈ a ∧ c ∉ l.take i) := by
  have hi : i < l.length := (List.getElem?_eq_some_iff.mp hc).1
  have e : l.take (i + 1) = l.take i ++ [c] := by
    rw [List.take_succ, hc]
    rfl
  unfold Differ
  rw [e, List.nodup_append]
  constructor
  · rintro ⟨⟨h1, _, h3⟩, h2⟩
    refine ⟨⟨h1, fun d hd => h2 d (List.mem_append_left _ hd)⟩, h2 c (List.mem_append_right _ (List.mem_singleton.mpr rfl)), fun z => h3 c z c (List.mem_singleton.mpr rfl) rfl⟩
  · rintro ⟨⟨h1, h2⟩, h3, h4⟩
    refine ⟨⟨h1, by simp, fun x hx y hy exy => ?_⟩, fun d hd => ?_⟩
    · rw [List.mem_singleton] at hy
      subst hy exy
      exact h4 hx
    · rcases List.mem_append.mp hd with h | h
      · exact h2 d h
      · rw [List.mem_singleton] at h
        subst h
        exact h3
def dueT (l v : List Nat) : Str := if l.length < 1 ∨ 4 < l.length ∨ ¬ Differ l azL then "letters" else if ¬ Differ v l then "vowels" else ""
abbrev sAlph : Stmt := top 14
abbrev sEq : Stmt := inClass (top 14) 3
def consL (l v : List Nat) : List Nat := (srtL l).filter fun c => !decide (c ∈ v)
/-- what an alphabet shows: letters, vowels, consonants, signs -/
def four (l v : List Nat) : List Str := [S (srtL l), S (srtL v), S (consL l v), S (45 :: srtL l)]
def alF (l v : List Nat) : List (Str × V) := [("letters", .str (S (srtL l))), ("vowels", .str (S (srtL v))), ("consonants", .str (S (consL l v))), ("signs", .str (S (45 :: srtL l)))]
def IsAl (C : Addr) (H : Hp) (a : Addr) (l v : List Nat) : Prop := ∃ dx, H a = some (.ins C dx (alF l v))
theorem IsAl.same {C a : Addr} {H H' : Hp} {l v : List Nat} (h : IsAl C H a l v) (s : Same H H') : IsAl C H' a l v := by
  obtain ⟨dx, e⟩ := h
  exact ⟨dx, s _ _ e⟩
structure AlF (K : PySem.W.Frag) (C : Addr) : Prop where
  cl : Cls K C
  nL : NoAttr K C "letters"
  nV : NoAttr K C "vowels"
  nC : NoAttr K C "consonants"
  nS : NoAttr K C "signs"
  ic : PySem.W.findIn K (.ref C) "__class__" = some (some (.builtin "object.__class__"))
  ig : PySem.W.specialIn K (.builtin "object.__class__") "__get__" = some (some (.builtin "getset_descriptor.__get__"))
  it : PySem.W.takesIn K (.builtin "object.__class__") = some true
  im : PySem.W.mroIn K C (.type "object") = some true
theorem joined {l : List Nat} {ys : List Str} (hl : l.length < 64) (hp : ys.Perm (signsOf (S l))) (hs : sortedS ys = true) :
    ((ys.map (·.length)).sum + ys.length * (PySem.Str.ofString "").length ≤ 16777216) ∧ Txt.join (PySem.Str.ofString "") ys = S (srtL l) := by
  rw [signs_S] at hp
  have e := sorted_signs hp hs
  subst e
  have e0 : PySem.Str.ofString "" = S [] := by decide +kernel
  rw [e0]
  refine ⟨?_, join_signs _⟩
  rw [S_len, List.length_nil, Nat.mul_zero, Nat.add_zero, List.map_map]
  have e1 : (srtL l).map ((fun x : Str => x.length) ∘ fun c => S [c]) = (srtL l).map fun _ => 1 := List.map_congr_left fun c _ => S_len [c]
  rw [e1]
  have e2 : ((srtL l).map fun _ => 1).sum = (srtL l).length := by
    induction srtL l with
    | nil => rfl
    | cons x xs ih => rw [List.map_cons, List.sum_cons, ih, List.length_cons, Nat.add_comm]
  rw [e2, srtL_len]
  omega
theorem joinedL {l : List Nat} (hl : l.length < 1000) : (((l.map fun c => S [c]).map (·.length)).sum + (l.map fun c => S [c]).length * (PySem.Str.ofString "").length ≤ 16777216) ∧ Txt.join (PySem.Str.ofString "") (l.map fun c => S [c]) = S l := by
  have e0 : PySem.Str.ofString "" = S [] := by decide +kernel
  rw [e0]
  refine ⟨?_, join_signs _⟩
  rw [S_len, List.length_nil, Nat.mul_zero, Nat.add_zero, List.map_map]
  have e1 : l.map ((fun x : Str => x.length) ∘ fun c => S [c]) = l.map fun _ => 1 := List.map_congr_left fun c _ => S_len [c]
  rw [e1]
  have e2 : (l.map fun _ => 1).sum = l.length := by
    clear hl e1
    induction l with
    | nil => rfl
    | cons x xs ih => rw [List.map_cons, List.sum_cons, ih, List.length_cons, Nat.add_comm]
  rw [e2]
  omega
theorem upd_laid {H : Hp} {p : Addr} {o : HO} (h : H p = none) : Same H (upd H p o) := fun b u e => by rw [upd_ne (ne_of_none e h)]; exact e
theorem Same.trans {A B C : Hp} (h : Same A B) (k : Same B C) : Same A C := fun b u e => k b u (h b u e)
section
variable {P : Program} {w : World} {K : PySem.W.Frag} {mg : Str → Option Value} {base : Heap} {aDiff : Addr}
end
theorem S_eq_iff {a b : List Nat} : decide ((V.str (S a)) = V.str (S b)) = decide (a = b) := by
  have e : ((V.str (S a)) = V.str (S b)) ↔ a = b := ⟨fun h => S_inj.mp (V.str.inj h), fun h => by rw [h]⟩
  rw [Bool.eq_iff_iff, decide_eq_true_iff, decide_eq_true_iff]
  exact e
def AlEq (l v l2 v2 : List Nat) : Bool := decide (srtL l = srtL l2) && decide (srtL v = srtL v2)
section
variable {P : Program} {w : World} {K : PySem.W.Frag} {mg : Str → Option Value} {base : Heap} {aDiff : Addr}
def spEq (C : Addr) : Sp := fun vs H Q _ => ∃ (a b : Addr) (l v l2 v2 : List Nat), vs = [.ref a, .ref b] ∧ IsAl C H a l v ∧ IsAl C H b l2 v2 ∧ Q (.bl (AlEq l v l2 v2)) H
theorem scEq : FnScope ["self", "other"] ["self", "other"] (defScope sEq) := ⟨rfl, rfl, rfl, by decide +kernel, rfl, by decide +kernel, by decide +kernel⟩
theorem ok_eq {f C : Addr} {fd : FuncData} (F : Fun K "__eq__" "Alphabet.__eq__" sEq f fd) (T : TxA K mg aDiff) (A : AlF K C) (hC : mg "Alphabet" = some (.ref C)) : FnOk P w K mg base CX0 1 f fd ["self", "other"] (spEq C) := by
  refine F.ok scEq (fun vs H Q E h => ?_) (fun cdv A0 outer s H vs Q E hr h => ?_)
  · obtain ⟨a, b, l, v, l2, v2, rfl, _⟩ := h
    rfl
  · obtain ⟨a, b, l, v, l2, v2, rfl, ⟨dx, ha⟩, ⟨dy, hb⟩, k⟩ := h
    refine ⟨_, pss_one (ps_ret (pe_and (pe_callB call_isi (by rfl) T.z_isinstance (by decide +kernel) (pa_cons (pv 1) (pa_cons (pe_glob (v := .ref C) (by rfl) hC rfl) pa_nil)))
      (pe_and (pe_cmpR op_eq (pe_fld (pv 0) rfl) (pe_fld (pv 1) rfl) (nomark _)) (pe_one (pe_cmpR op_eq (pe_fld (pv 0) rfl) (pe_fld (pv 1) rfl) (nomark _)))))), ?_⟩
    refine ⟨_, rfl, _, _, _, _, true, rfl, .own C, .base (.ins hb A.cl A.ic A.ig A.it A.im), ?_, true, rfl, iteT ?_⟩
    · show PySem.W.kitOne K (.ref C) (.ref C) = some true
      unfold PySem.W.kitOne
      rw [if_pos (beq_iff_eq.mpr rfl)]
    refine ⟨_, rfl, a, C, dx, _, _, rfl, ha, A.cl, A.nL, rfl, _, rfl, b, C, dy, _, _, rfl, hb, A.cl, A.nL, rfl, rfl, _, rfl, ?_⟩
    have q := k
    unfold AlEq at q
    rw [← S_eq_iff, ← S_eq_iff] at q
    refine ite2 (fun h => ?_) (fun h => ?_)
    · refine ⟨_, rfl, a, C, dx, _, _, rfl, ha, A.cl, A.nV, rfl, _, rfl, b, C, dy, _, _, rfl, hb, A.cl, A.nV, rfl, rfl, ?_⟩
      rw [h, Bool.true_and] at q
      exact q
    · rw [Bool.eq_false_iff.mpr h, Bool.false_and] at q
      exact q
end
abbrev sBA : Stmt := inClass (top 3) 0
def spBA (C : Addr) : Sp := fun vs H Q _ => ∃ (a : Addr) (z : Str), vs = [.ref a, .str z] ∧ z.length ≤ 100 ∧ H a = some (exo a C none) ∧
  ∀ dx, H dx = none → dx ≠ a → Q .non (upd (upd H dx (exd dx [("part", .str z)])) a (exo a C (some dx)))
theorem scBA : SScope ["self", "part"] (defScope sBA) := ⟨rfl, rfl, rfl, by decide +kernel, by decide +kernel, by decide +kernel, fun x h => (show ∀ y ∈ (defScope sBA).names, y.2 = .free → y.1 = "__class__" by decide +kernel) _ (PySem.mem_of_lookup h) rfl, by decide +kernel, by decide +kernel⟩
section
variable {P : Program} {w : World} {K : PySem.W.Frag} {mg : Str → Option Value} {base : Heap}
theorem ok_ba {f C cc cda : Addr} {dV kV doc pm ct oc : Value} {an od : Option Addr} {osl : Array (Option Value)} (T : SupC P K mg C cc cda) (hp : PySem.W.findIn K (.ref C) "part" = some none)
    (lk : K.lookup f = some ⟨oc, od, .func (PySem.W.ksFn "__init__" "BadAlphabet.__init__" (defArgs sBA) (defBody sBA) (defScope sBA) dV kV doc pm an (.ref cda) ct cc), osl⟩) (hcd : PySem.W.codeIn K (.ref cda) "BadAlphabet.__init__" = true) :
    FnOk P w K mg base CX0 1 f (PySem.W.ksFn "__init__" "BadAlphabet.__init__" (defArgs sBA) (defBody sBA) (defScope sBA) dV kV doc pm an (.ref cda) ct cc) ["self", "part"] (spBA C) := by
  refine fn_super (self := "self") (N' := ["part"]) T lk hcd scBA rfl rfl rfl rfl (fun _ => rfl) (fun _ => rfl) (fun vs H Q E h => ?_) (fun A outer s H vs Q E hr h => ?_)
  · obtain ⟨a, z, rfl, _⟩ := h
    rfl
  · obtain ⟨a, z, rfl, hz, ha, k⟩ := h
    refine ⟨_, _, pe_joined (.cons pe_str (.cons (pe_fmt (pv 1)) (.cons pe_str .nil))), pss_one (ps_ost (pv 0) (pv 1)), ⟨a, rfl, ha⟩, ?_⟩
    have e1 : (PySem.Str.ofString "not the ").length = 8 := by decide +kernel
    have e2 : (PySem.Str.ofString " of an alphabet").length = 15 := by decide +kernel
    have e3 : Str.empty.length = 0 := by decide +kernel
    have sl : ∀ {n : Nat}, n ≤ 1000 → n ≤ sizeLine := fun h => by rw [sizeLine_eq]; omega
    have al : ∀ a b : Str, (a ++ b).length = a.length + b.length := fun a b => by
      show (a.cps ++ b.cps).size = _
      rw [Array.size_append]
      rfl
    refine ⟨_, rfl, sl ?_, _, rfl, .inl ⟨z, rfl, sl (by omega), _, rfl, sl ?_, _, rfl, sl ?_, ⟨a, rfl, ha⟩, ?_⟩⟩
    · rw [al, e1, e3]
      decide
    · rw [al, al, e1, e3]
      omega
    · rw [al, al, al, e1, e2, e3]
      omega
    · exact ⟨_, rfl, _, rfl, a, C, rfl, T.oex, hp, .inl ⟨ha, fun dx hd hn => k dx hd hn⟩⟩
end
abbrev sAI : Stmt := inClass (top 14) 2
/-- BadAlphabet as the written part holds it -/
structure BaF (P : Program) (K : PySem.W.Frag) (mg : Str → Option Value) (B fB : Addr) : Prop where
  ox : OexC K B
  iC : PySem.W.findIn K (.ref B) "__init__" = some (some (.ref fB))
  tI : PySem.W.typeIn K (.ref fB) = some (.type "function")
  gB : mg "BadAlphabet" = some (.ref B)
/-- what else stands of Alphabet: its class values -/
structure AlV (K : PySem.W.Frag) (mg : Str → Option Value) (C : Addr) (mc : Value) (tm tj tl : Tok) : Prop where
  gC : mg "Alphabet" = some (.ref C)
  gL : mg "SMALL_LETTERS" = some (.str (S azL) tl)
  rd : ClX.CRead K C mc
  most : ClX.CVal K C mc "MOST" (.int 4) (.int 4 tm)
  joint : ClX.CVal K C mc "JOINT" (.str "-") (.str "-" tj)
def spAl (C B : Addr) : Sp := fun vs H Q E => ∃ (a dx : Addr) (l v : List Nat), vs = [.ref a, .str (S l), .str (S v)] ∧ H a = some (.ins C dx []) ∧ l.length ≤ 1000 ∧ v.length ≤ 1000 ∧
  (dueT l v = "" → ∀ H', IsAl C H' a l v → Kp a H H' → Q .non H') ∧
  (dueT l v ≠ "" → ∀ d H', H d = none → H' d = some (.xd [("part", .str (dueT l v))]) → Kp a H H' → E (.ref B) (some d) H')
theorem kp_exc {H : Hp} {b dx : Addr} {o : HO} {e0 e1 e2 : HO} (ha : H b = none) (hd : (upd H b e0) dx = none) (hn : dx ≠ b) : Same H (upd (del (upd (upd (upd H b e0) dx e1) b e2) b) dx o) := fun c u e => by
  have h1 : c ≠ b := ne_of_none e ha
  have h2 : c ≠ dx := fun z => by
    subst z
    rw [upd_ne h1, e] at hd
    cases hd
  rw [upd_ne h2, del_ne h1, upd_ne h1, upd_ne h2, upd_ne h1]
  exact e
theorem Same.kp {H H' : Hp} (h : Same H H') (a : Addr) : Kp a H H' := fun c o _ e => h c o e
theorem len_of_sub : ∀ {v l : List Nat}, v.Nodup → (∀ c ∈ v, c ∈ l) → v.length ≤ l.length
  | [], l, _, _ => Nat.zero_le _
  | c :: v, l, hn, hs => by
    obtain ⟨h1, h2⟩ := List.nodup_cons.mp hn
    have hc : c ∈ l := hs c List.mem_cons_self
    have ih := len_of_sub (v := v) (l := l.erase c) h2 fun d hd => (List.mem_erase_of_ne (fun (z : d = c) => h1 (z ▸ hd))).mpr (hs d (List.mem_cons_of_mem _ hd))
    rw [List.length_erase_of_mem hc] at ih
    have := List.length_pos_of_mem hc
    rw [List.length_cons]
    omega
theorem differ_len {v l : List Nat} (h : Differ v l) : v.length ≤ l.length := len_of_sub h.1 h.2
theorem put2 (x y : V) : putF "vowels" y [("letters", x)] = ([("letters", x), ("vowels", y)] : List (Str × V)) := by
  show (if ("letters" : Str) = "vowels" then _ else (("letters" : Str), x) :: putF "vowels" y []) = _
  rw [if_neg (by decide +kernel)]
  rfl
theorem put3 (x y z : V) : putF "consonants" z [("letters", x), ("vowels", y)] = ([("letters", x), ("vowels", y), ("consonants", z)] : List (Str × V)) := by
  show (if ("letters" : Str) = "consonants" then _ else (("letters" : Str), x) :: (if ("vowels" : Str) = "consonants" then _ else (("vowels" : Str), y) :: putF "consonants" z [])) = _
  rw [if_neg (by decide +kernel), if_neg (by decide +kernel)]
  rfl
theorem put4 (x y z t : V) : putF "signs" t [("letters", x), ("vowels", y), ("consonants", z)] = ([("letters", x), ("vowels", y), ("consonants", z), ("signs", t)] : List (Str × V)) := by
  show (if ("letters" : Str) = "signs" then _ else (("letters" : Str), x) :: (if ("vowels" : Str) = "signs" then _ else (("vowels" : Str), y) :: (if ("consonants" : Str) = "signs" then _ else (("consonants" : Str), z) :: putF "signs" t []))) = _
  rw [if_neg (by decide +kernel), if_neg (by decide +kernel), if_neg (by decide +kernel)]
  rfl
theorem scAI : FnScope ["self", "letters", "vowels", "letter"] ["self", "letters", "vowels"] (defScope sAI) := ⟨rfl, rfl, rfl, by decide +kernel, rfl, by decide +kernel, by decide +kernel⟩
section
variable {P : Program} {w : World} {K : PySem.W.Frag} {mg : Str → Option Value} {base : Heap} {aDiff : Addr}
theorem ok_alph {f C B fB : Addr} {mc : Value} {tm tj tl : Tok} {fd fdD fdB : FuncData} (F : FunD K "__init__" "Alphabet.__init__" (defArgs sAI) (defBody sAI) (defScope sAI) [.str ""] [] f fd) (T : TxA K mg aDiff) (A : AlF K C) (AV : AlV K mg C mc tm tj tl) (BA : BaF P K mg B fB)
    (FDiff : Fun K "differ_within" "differ_within" sDiff aDiff fdD) (bDiff : Binds K fdD ["text", "allowed"] []) (GB : FnOk P w K mg base CX0 1 fB fdB ["self", "part"] (spBA B)) (bB : Binds K fdB ["self", "part"] []) :
    FnOk P w K mg base (L2.CX P w) 3 f fd ["self", "letters", "vowels"] (spAl C B) := by
  have GDiff : FnOk P w K mg base CX0 1 aDiff fdD ["text", "allowed"] spDiff := ok_diff FDiff T
  refine F.ok scAI (fun vs H Q E h => ?_) (fun cdv A0 outer s H vs Q E hr h => ?_)
  · obtain ⟨a, dx, l, v, rfl, _⟩ := h
    rfl
  · obtain ⟨a, dx, l, v, rfl, ha, hl, hv, kq, ke⟩ := h
    refine ⟨_, (pss_cons (ps_if (PW.pt (pw_or (pt_not (pt_chain op_le op_le pe_int (pe_callB call_len_str (by rfl) T.z_len (by decide +kernel) (pa_cons (pv 1) pa_nil)) (ClX.pe_cval (pe_glob (v := .ref C) (by rfl) AV.gC rfl)))) (pw_or1 (pt_not (pt_val (pe_call GDiff (hr.mono (by decide)) (by rfl) T.gDiff FDiff.kp bDiff .nil pass0 (pa_cons (pv 1) (pa_cons (pe_glob (v := .str (S azL)) (by rfl) AV.gL ⟨_, rfl⟩) pa_nil)))))))) (pss_one (ps_raise rfl (takes_of rfl rfl rfl rfl) (pmk_oex BA.ox BA.iC BA.tI GB (hr.mono (by decide)) bB .nil pass0 (by rfl) BA.gB (pa_cons pe_str pa_nil)))) pss_nil)
      (pss_cons (ps_if (pt_not (pt_val (pe_call GDiff (hr.mono (by decide)) (by rfl) T.gDiff FDiff.kp bDiff .nil pass0 (pa_cons (pv 2) (pa_cons (pv 1) pa_nil))))) (pss_one (ps_raise rfl (takes_of rfl rfl rfl rfl) (pmk_oex BA.ox BA.iC BA.tI GB (hr.mono (by decide)) bB .nil pass0 (by rfl) BA.gB (pa_cons pe_str pa_nil)))) pss_nil)
      (pss_cons (ps_fld (pv 0) (pe_join pe_str (pe_callB (cr_sortT rfl) (by rfl) T.z_sorted (by decide +kernel) (pa_cons (pv 1) pa_nil))) rfl)
      (pss_cons (ps_fld (pv 0) (pe_join pe_str (pe_callB (cr_sortT rfl) (by rfl) T.z_sorted (by decide +kernel) (pa_cons (pv 2) pa_nil))) rfl)
      (pss_cons (ps_fld (pv 0) (pe_join pe_str (pe_lc (own := [("letter", 3)]) (g := gName 3) (by rfl) scAI.nd (pi_str (pe_fld (pv 0) rfl)) (blkOk_by (own := [("letter", 3)]) (N := ["self", "letters", "vowels", "letter"]) (sc := defScope sAI) (by decide +kernel)) (fun _ _ _ _ _ => pg_name (i := 3) scAI.nd rfl (Or.inl rfl)) (fun _ _ _ _ _ => (pts_one (pt_cmpR op_notIn_sign (pv 3) (pv 2) rfl))) (fun _ _ _ _ _ => (pv 3)))) rfl)
      (pss_one (ps_fld (pv 0) (pe_op op_add_str (ClX.pe_cval (pe_glob (v := .ref C) (by rfl) AV.gC rfl)) (pe_fld (pv 0) rfl)) rfl))))))), ?_⟩
    have hll : (S l).length ≤ sizeLine := sz4 (by rw [S_len]; omega)
    -- what a raise leaves
    have rz : ∀ (z : Str) (H1 : Hp), z.length ≤ 100 → z ≠ "" → dueT l v = z → Same H H1 → ∀ b, H1 b = none → spBA B [.ref b, .str z] (upd H1 b (exo b B none)) (fun v H2 => v = .non ∧ ∃ (d : Addr) (fs : List (Str × V)), H2 b = some (exo b B (some d)) ∧ H2 d = some (exd d fs) ∧ H1 d = none ∧ E (.ref B) (some d) (upd (del H2 b) d (.xd fs))) (fun _ _ _ => False) := by
      intro z H1 hz hne hdue hs b hb
      refine ⟨b, z, rfl, hz, upd_same, fun d hd hn => ⟨rfl, d, [("part", .str z)], upd_same, ?_, ?_, ?_⟩⟩
      · rw [upd_ne hn, upd_same]
      · rw [upd_ne hn] at hd
        exact hd
      · have h0 : H d = none := by
          cases e : H d with
          | none => rfl
          | some u =>
            have q := hs _ _ e
            rw [upd_ne hn, q] at hd
            cases hd
        refine ke (by rw [hdue]; exact hne) d _ h0 ?_ (Same.kp (Same.trans hs (kp_exc hb hd hn)) a)
        rw [hdue]
        exact upd_same
    have rl : dueT l v = "letters" → ∀ H1, Same H H1 → ([V.str "letters"] : List V).length ≤ 1000 ∧ ∀ b, H1 b = none → spBA B [.ref b, .str "letters"] (upd H1 b (exo b B none)) (fun v H2 => v = .non ∧ ∃ (d : Addr) (fs : List (Str × V)), H2 b = some (exo b B (some d)) ∧ H2 d = some (exd d fs) ∧ H1 d = none ∧ E (.ref B) (some d) (upd (del H2 b) d (.xd fs))) (fun _ _ _ => False) :=
      fun hd H1 hs => ⟨by show 1 ≤ 1000; decide, rz "letters" H1 (by decide +kernel) (by decide +kernel) hd hs⟩
    have rv : dueT l v = "vowels" → ∀ H1, Same H H1 → ([V.str "vowels"] : List V).length ≤ 1000 ∧ ∀ b, H1 b = none → spBA B [.ref b, .str "vowels"] (upd H1 b (exo b B none)) (fun v H2 => v = .non ∧ ∃ (d : Addr) (fs : List (Str × V)), H2 b = some (exo b B (some d)) ∧ H2 d = some (exd d fs) ∧ H1 d = none ∧ E (.ref B) (some d) (upd (del H2 b) d (.xd fs))) (fun _ _ _ => False) :=
      fun hd H1 hs => ⟨by show 1 ≤ 1000; decide, rz "vowels" H1 (by decide +kernel) (by decide +kernel) hd hs⟩
    have dl : (l.length < 1 ∨ 4 < l.length ∨ ¬ Differ l azL) → dueT l v = "letters" := fun h => if_pos h
    refine ⟨_, rfl, _, rfl, hll, _, _, rfl, rfl, _, rfl, ite2 (fun h1 => ⟨C, mc, _, _, rfl, AV.rd, AV.most, _, _, rfl, rfl, _, rfl, ?_⟩) (fun h1 => ⟨_, rfl, iteT (iteT (rl (dl (.inl ?_)) H (Same.refl H)))⟩)⟩
    rotate_left
    · have : ¬ (1 : Int) ≤ ((S l).length : Int) := fun z => h1 (decide_eq_true z)
      rw [S_len] at this
      omega
    refine ite2 (fun h2 => iteT (rl (dl (.inr (.inl ?_))) H (Same.refl H))) (fun h2 => ?_)
    · have h3 : decide (((S l).length : Int) ≤ 4) = false := by
        cases e : decide (((S l).length : Int) ≤ 4) with
        | false => rfl
        | true =>
          have h2' : (!decide (((S l).length : Int) ≤ 4)) = true := h2
          rw [e] at h2'
          cases h2'
      have := of_decide_eq_false h3
      rw [S_len] at this
      omega
    have g1 : 1 ≤ l.length := by
      have := of_decide_eq_true h1
      rw [S_len] at this
      omega
    have g2 : l.length ≤ 4 := by
      have h3 : decide (((S l).length : Int) ≤ 4) = true := by
        cases e : decide (((S l).length : Int) ≤ 4) with
        | true => rfl
        | false => exact absurd (show (!decide (((S l).length : Int) ≤ 4)) = true by rw [e]; rfl) h2
      have := of_decide_eq_true h3
      rw [S_len] at this
      omega
    refine ⟨_, rfl, l, azL, rfl, by omega, fun H1 s1 => ⟨_, rfl, ite2 (fun h3 => rl (dl (.inr (.inr ?_))) H1 s1) (fun h3 => ?_)⟩⟩
    · intro z
      rw [decide_eq_true z] at h3
      cases h3
    have hDl : Differ l azL := Classical.byContradiction fun z => h3 (by rw [decide_eq_false z]; rfl)
    have hnl : ¬ (l.length < 1 ∨ 4 < l.length ∨ ¬ Differ l azL) := fun z => z.elim (fun z => by omega) fun z => z.elim (fun z => by omega) fun z => z hDl
    refine ⟨_, rfl, _, rfl, v, l, rfl, by omega, fun H2 s2' => ⟨_, rfl, ite2 (fun h4 => rv ?_ H2 (Same.trans s1 s2')) (fun h4 => ?_)⟩⟩
    · unfold dueT
      rw [if_neg hnl, if_pos ?_]
      intro z
      rw [decide_eq_true z] at h4
      cases h4
    have hDv : Differ v l := Classical.byContradiction fun z => h4 (by rw [decide_eq_false z]; rfl)
    have hdue : dueT l v = "" := by
      unfold dueT
      rw [if_neg hnl, if_neg (fun z => z hDv)]
    have hvl := differ_len hDv
    have s2 := Same.trans s1 s2'
    have ha2 := s2 _ _ ha
    -- letters
    refine ⟨⟨_, rfl⟩, _, rfl, S l, rfl, (by rw [S_len]; omega), fun ys p1 hp hs n1 => ?_⟩
    obtain ⟨b1, e1⟩ := joined (by omega) hp hs
    refine ⟨_, p1, ys, rfl, rfl, .inl (SqL.of upd_same), b1, ?_⟩
    rw [e1]
    have k3 := Same.kp (Same.trans s2 (upd_laid (o := .lst (ys.map V.str)) n1)) a
    have ha3 : (upd H2 p1 (.lst (ys.map V.str))) a = some (.ins C dx []) := upd_laid n1 _ _ ha2
    generalize upd H2 p1 (.lst (ys.map V.str)) = H3 at k3 ha3
    refine ⟨_, rfl, a, C, dx, [], rfl, ha3, A.cl, A.nL, (by show 0 < 1000; decide), ?_⟩
    have k4 := k3.trans (Kp.upd a H3 (.ins C dx (putF "letters" (.str (S (srtL l))) [])))
    have ha4 : (upd H3 a (.ins C dx (putF "letters" (.str (S (srtL l))) []))) a = some (.ins C dx [("letters", .str (S (srtL l)))]) := upd_same
    generalize upd H3 a (.ins C dx (putF "letters" (.str (S (srtL l))) [])) = H4 at k4 ha4
    -- vowels
    refine ⟨⟨_, rfl⟩, _, rfl, S v, rfl, (by rw [S_len]; omega), fun zs p2 hp2 hs2 n2 => ?_⟩
    obtain ⟨b2, e2⟩ := joined (by omega) hp2 hs2
    refine ⟨_, p2, zs, rfl, rfl, .inl (SqL.of upd_same), b2, ?_⟩
    rw [e2]
    have k5 := k4.trans (Same.kp (upd_laid (o := .lst (zs.map V.str)) n2) a)
    have ha5 : (upd H4 p2 (.lst (zs.map V.str))) a = some (.ins C dx [("letters", .str (S (srtL l)))]) := upd_laid n2 _ _ ha4
    generalize upd H4 p2 (.lst (zs.map V.str)) = H5 at k5 ha5
    refine ⟨_, rfl, a, C, dx, _, rfl, ha5, A.cl, A.nV, (by show 1 < 1000; decide), ?_⟩
    rw [put2]
    have k6 := k5.trans (Kp.upd a H5 (.ins C dx [("letters", .str (S (srtL l))), ("vowels", .str (S (srtL v)))]))
    have ha6 : (upd H5 a (.ins C dx [("letters", .str (S (srtL l))), ("vowels", .str (S (srtL v)))])) a = some (.ins C dx [("letters", .str (S (srtL l))), ("vowels", .str (S (srtL v)))]) := upd_same
    generalize upd H5 a (.ins C dx [("letters", .str (S (srtL l))), ("vowels", .str (S (srtL v)))]) = H6 at k6 ha6
    -- consonants
    have hk4 : (srtL l).length ≤ 4000 := by rw [srtL_len]; omega
    refine ⟨⟨_, rfl⟩, _, rfl, a, C, dx, _, _, rfl, ha6, A.cl, A.nL, rfl, _, rfl, fun D hD => lc_text (fun c => !decide (c ∈ v)) (fun c => V.str (S [c])) hk4 (fun _ => rfl) (fun c hc H3 Q3 _ q => ⟨_, rfl, _, rfl, c, S v, rfl, rfl, _, rfl, by rw [S_cps]; exact q⟩) (fun c hc _ H3 Q3 _ q => ⟨_, rfl, q⟩) ?_⟩
    have hc64 : (consL l v).length < 1000 := by
      have := List.length_filter_le (fun c => !decide (c ∈ v)) (srtL l)
      rw [srtL_len] at this
      unfold consL
      omega
    obtain ⟨b3, e3⟩ := joinedL hc64
    refine ⟨_, D, (consL l v).map fun c => S [c], rfl, rfl, .inl (SqL.of (by rw [List.map_map]; exact upd_same)), b3, ?_⟩
    rw [e3]
    have k7 := k6.trans (Same.kp (upd_laid (o := .lst (((srtL l).filter fun c => !decide (c ∈ v)).map fun c => V.str (S [c]))) hD) a)
    have ha7 := upd_laid (o := .lst (((srtL l).filter fun c => !decide (c ∈ v)).map fun c => V.str (S [c]))) hD _ _ ha6
    generalize upd H6 D (.lst (((srtL l).filter fun c => !decide (c ∈ v)).map fun c => V.str (S [c]))) = H7 at k7 ha7
    refine ⟨_, rfl, a, C, dx, _, rfl, ha7, A.cl, A.nC, (by show 2 < 1000; decide), ?_⟩
    rw [put3]
    have k8 := k7.trans (Kp.upd a H7 (.ins C dx [("letters", .str (S (srtL l))), ("vowels", .str (S (srtL v))), ("consonants", .str (S (consL l v)))]))
    have ha8 : (upd H7 a (.ins C dx [("letters", .str (S (srtL l))), ("vowels", .str (S (srtL v))), ("consonants", .str (S (consL l v)))])) a = some (.ins C dx [("letters", .str (S (srtL l))), ("vowels", .str (S (srtL v))), ("consonants", .str (S (consL l v)))]) := upd_same
    generalize upd H7 a (.ins C dx [("letters", .str (S (srtL l))), ("vowels", .str (S (srtL v))), ("consonants", .str (S (consL l v)))]) = H8 at k8 ha8
    -- signs
    refine ⟨C, mc, _, _, rfl, AV.rd, AV.joint, _, rfl, a, C, dx, _, _, rfl, ha8, A.cl, A.nL, rfl, _, _, rfl, rfl, ?_, _, rfl, a, C, dx, _, rfl, ha8, A.cl, A.nS, (by show 3 < 1000; decide), ?_⟩
    · refine sz4 ?_
      rw [S_len, srtL_len]
      have : (PySem.Str.ofString "-").length = 1 := by decide +kernel
      omega
    have e4 : PySem.Str.ofString "-" ++ S (srtL l) = S (45 :: srtL l) := by
      have : PySem.Str.ofString "-" = S [45] := by decide +kernel
      rw [this, S_app]
      rfl
    rw [e4, put4]
    exact kq hdue _ ⟨dx, upd_same⟩ (k8.trans (Kp.upd a H8 _))
end
end Vk

set_option Elab.async false
set_option linter.all false
set_option maxRecDepth 100000
set_option maxHeartbeats 4000000
namespace Vk
open PySem PySem.Spec PyProof.Rows L2
/-! the walk over a reading -/
open L2 in
local macro_rules | `(tactic| walk_at "lk") => `(tactic| first
  | assumption
  | exact upd_same
  | (refine upd_old (by assumption) ?_; walk_at "lk")
  | (refine upd_oth (by first | assumption | (apply Ne.symm; assumption)) ?_; walk_at "lk")
  | (refine Same.get (by assumption) ?_; walk_at "lk")
  | (refine Fr.get (by assumption) (by first | assumption | (simp only [List.mem_cons, List.not_mem_nil, or_false, not_or]; first | assumption | (refine ⟨?_, ?_⟩ <;> assumption) | (apply Ne.symm; assumption))) ?_; walk_at "lk"))
local macro_rules | `(tactic| walk_at "len") => `(tactic| first
  | (simp only [List.length_cons, List.length_nil, sizeLine_eq]; omega)
  | (simp only [S_len, sizeLine_eq]; omega)
  | (simp only [S_len, sizeLine_eq, List.length_take, List.length_drop, List.length_append, List.length_cons, List.length_nil]; omega))
local macro_rules | `(tactic| walk_at "num") => `(tactic| first | assumption | omega | (simp only [List.length_take, List.length_drop, List.length_append, List.length_cons, List.length_nil]; omega))
local macro_rules | `(tactic| walk_at "ix") => `(tactic| first | exact rfl | assumption | exact atI_nat (by assumption))
local macro_rules | `(tactic| walk_at "putq") => `(tactic| exact rfl)
local macro_rules | `(tactic| walk_at "sq") => `(tactic| first
  | exact .inr (by assumption)
  | exact .inl (by assumption)
  | exact .inl (SqL.of (by walk_at "lk"))
  | exact .inr (SqT.of (by walk_at "lk")))
local macro_rules | `(tactic| walk_at "mapq") => `(tactic| first
  | exact rfl
  | exact (rfl : _ = List.map (fun l => V.str (S l)) [_])
  | exact (rfl : _ = List.map (fun l => V.str (S l)) [_, _])
  | exact (rfl : _ = List.map (fun l => V.str (S l)) [_, _, _])
  | exact (rfl : _ = List.map (fun l => V.str (S l)) [_, _, _, _])
  | exact (rfl : _ = List.map (fun l => V.str (S l)) [_, _, _, _, _]))
local macro_rules | `(tactic| walk_at "setq") => `(tactic| ((try simp only [Int.reduceToNat, List.set_cons_succ, List.set_cons_zero]); exact rfl))
local macro_rules | `(tactic| walk_at "toN") => `(tactic| first | exact rfl | exact (Int.natCast_add _ _).symm | exact (Int.natCast_add _ 1).symm)
local macro_rules | `(tactic| walk_at "cond") => `(tactic| first | omega | (simp only [List.length_map]; omega) | (refine Or.inl ⟨?_, ?_⟩ <;> omega) | (refine Or.inr ⟨?_, ?_⟩ <;> omega) | (refine ⟨?_, ?_⟩ <;> omega))
local macro_rules | `(tactic| walk_at "side") => `(tactic| first
  | rfl
  | (walk_at "lk")
  | exact SqL.of (by walk_at "lk")
  | exact SqT.of (by walk_at "lk")
  | exact .inl (SqL.of (by walk_at "lk"))
  | exact .inr (SqT.of (by walk_at "lk"))
  | exact .inl ⟨rfl, _, SqL.of (by walk_at "lk")⟩
  | exact ⟨_, rfl⟩
  | exact ⟨_, SqL.of (by walk_at "lk")⟩
  | exact ⟨_, by assumption⟩
  | (walk_at "len")
  | omega)
local macro_rules | `(tactic| walk_at "go1") => `(tactic| first
  | (with_reducible refine iSeq ?_)
  | ((with_reducible apply iVar); exact rfl)
  | (with_reducible refine iC ?_)
  | (with_reducible refine iOp ?_)
  | (with_reducible refine iAsg ?_)
  | (with_reducible refine iName ?_)
  | (with_reducible refine iSub ?_)
  | (with_reducible refine iCons ?_)
  | (with_reducible refine iNil ?_)
  | (with_reducible refine iCB ?_)
  | (with_reducible refine iCall0 ?_)
  | (with_reducible refine iCall ?_)
  | (with_reducible refine iI0 ?_)
  | (with_reducible refine iU ?_)
  | (with_reducible refine iUn ?_)
  | (with_reducible refine iIfS ?_)
  | (with_reducible refine iB ?_)
  | (with_reducible refine iTest ?_)
  | (with_reducible refine iAnd ?_)
  | (with_reducible refine iOr ?_)
  | (with_reducible refine iNot ?_)
  | (with_reducible refine iAndV ?_)
  | (with_reducible refine iOrV ?_)
  | (with_reducible refine iNotV ?_)
  | (with_reducible refine iIfE ?_)
  | (with_reducible refine iRet ?_)
  | (with_reducible refine iRetN ?_)
  | (with_reducible refine iDrop ?_)
  | (with_reducible refine iNext ?_)
  | ((with_reducible apply iEq); exact rfl)
  | ((with_reducible apply iNe); exact rfl)
  | ((with_reducible apply iI); walk_at "cond")
  | (with_reducible refine iM1 ?_)
  | (with_reducible refine iBM ?_)
  | (with_reducible refine iSl ?_)
  | ((with_reducible apply iIxL); exact SqL.of (by walk_at "lk"); walk_at "ix")
  | ((with_reducible apply iIxT); exact SqT.of (by walk_at "lk"); walk_at "ix")
  | ((with_reducible apply iIxS); walk_at "num"; walk_at "ix")
  | ((with_reducible apply iSlTo); walk_at "num"; walk_at "toN")
  | ((with_reducible apply iSlFrom); walk_at "num"; walk_at "toN")
  | ((with_reducible apply iSlMid); walk_at "num"; walk_at "toN"; walk_at "toN")
  | ((with_reducible apply iSlS); walk_at "num")
  | ((with_reducible apply iAddS); walk_at "num")
  | ((with_reducible apply iLenS1); walk_at "num")
  | (with_reducible refine iInS ?_)
  | (with_reducible refine iNotInS ?_)
  | ((with_reducible apply iFindYes); assumption)
  | ((with_reducible apply iFindNo); assumption)
  | (with_reducible refine iFindS ?_)
  | (with_reducible refine iStartS ?_)
  | ((with_reducible apply iPartS); walk_at "num")
  | ((with_reducible apply iSetL); (walk_at "lk"); exact rfl; (walk_at "setq"))
  | (with_reducible refine iNoPart ?_)
  | (with_reducible refine iPart ?_)
  | (with_reducible refine iTup ?_)
  | (with_reducible refine iLst ?_)
  | (with_reducible refine isi_int_int ?_)
  | (with_reducible refine isi_int_bool ?_)
  | (with_reducible refine isi_int_str ?_)
  | (with_reducible refine isi_str_str ?_)
  | (with_reducible refine isi_str_int ?_)
  | (with_reducible refine isi_str_bool ?_)
  | (with_reducible refine isi_bl_bool ?_)
  | (with_reducible refine isi_bl_int ?_)
  | (with_reducible refine isi_bl_str ?_)
  | (with_reducible refine iFld ?_)
  | (with_reducible refine iSFld ?_)
  | (with_reducible refine iCon ?_)
  | (with_reducible refine iProp ?_)
  | (with_reducible refine iMeth0 ?_)
  | (with_reducible refine iMeth ?_)
  | (with_reducible refine iWT ?_)
  | (with_reducible refine iWF ?_)
  | ((with_reducible apply iInL); (walk_at "sq"); (walk_at "mapq"))
  | ((with_reducible apply iNInL); (walk_at "sq"); (walk_at "mapq"))
  | (with_reducible refine iLcL ?_)
  | (with_reducible refine iLcS ?_)
  | (with_reducible refine iLcR1 ?_)
  | (with_reducible refine iForL ?_)
  | (with_reducible refine iForS ?_)
  | (with_reducible refine iForR1 ?_)
  | (with_reducible refine iForR2 ?_)
  | (with_reducible refine iYes ?_)
  | ((with_reducible apply iSlL); (first | assumption | exact SqL.of (by walk_at "lk")))
  | ((with_reducible apply iCat); (walk_at "lk"); (walk_at "lk"); (walk_at "len"))
  | ((with_reducible apply iAppend); (walk_at "lk"); (walk_at "len"))
  | ((with_reducible apply iTruNil); exact SqL.of (by walk_at "lk"))
  | ((with_reducible apply iTruCons); exact SqL.of (by walk_at "lk"))
  | ((with_reducible apply iTruL); (first | assumption | exact SqL.of (by walk_at "lk")))
  | ((with_reducible apply iListT); (walk_at "num"))
  | (with_reducible refine iTT ?_)
  | (with_reducible refine iFF ?_)
  | (with_reducible refine iNTT ?_)
  | (with_reducible refine iNFF ?_)
  | ((with_reducible apply eSFld); (walk_at "lk"); assumption; assumption; (simp only [List.length_cons, List.length_nil]; decide); (walk_at "putq"))
  | (walk_at "proj")
  | (with_reducible apply Exists.intro)
  | ((with_reducible apply And.intro); exact rfl)
  | ((with_reducible apply And.intro); walk_at "side")
  | ((with_reducible apply Or.inl); (with_reducible apply Exists.intro); (with_reducible apply And.intro); exact rfl)
  | ((with_reducible apply Or.inr); (with_reducible apply Exists.intro); (with_reducible apply And.intro); exact rfl))
local macro_rules | `(tactic| walk_at "fr") => `(tactic| first
  | exact Fr.refl _ _
  | assumption
  | (refine Fr.trans ?_ Fr.in0; walk_at "fr")
  | (refine Fr.trans ?_ Fr.in1; walk_at "fr")
  | (refine Fr.trans ?_ Fr.in2; walk_at "fr")
  | (refine Fr.trans ?_ (Fr.upd_new (by assumption)); walk_at "fr")
  | (refine Fr.trans ?_ (Fr.of_same (by assumption)); walk_at "fr")
  | (refine Fr.trans ?_ (by assumption); walk_at "fr")
  | (refine Fr.trans ?_ (Fr.wk (by assumption)); walk_at "fr")
  | (refine Fr.trans ?_ (Fr.wk1 (by assumption)); walk_at "fr")
  | (refine Fr.trans ?_ (Fr.wk (Fr.wk (by assumption))); walk_at "fr"))
local macro_rules | `(tactic| walk_at "proj") => `(tactic| first
  | (with_reducible refine (show (Ends.mk _ _ _ _).nx _ _ from ?_); dsimp only)
  | (with_reducible refine (show (Ends.mk _ _ _ _).rt _ _ from ?_); dsimp only))
local macro_rules | `(tactic| walk_at "br0") => `(tactic| first
  | (with_reducible apply iBd)
  | (with_reducible apply iBnd)
  | (with_reducible apply iBb)
  | (with_reducible apply iBbn)
  | (with_reducible apply iWD)
  | (with_reducible apply iWDN))
local macro_rules | `(tactic| walk_at "dead") => `(tactic| first | (exfalso; omega) | contradiction)
local macro_rules | `(tactic| walk_at "br") => `(tactic| (walk_at "br0" <;> (intro hbr; (try simp only [V.str.injEq, V.int.injEq, V.bl.injEq, Vk.S_inj, reduceCtorEq, List.cons.injEq, and_true, not_true_eq_false, not_false_eq_true, decide_eq_true_eq, decide_eq_false_iff_not, Nat.reduceEqDiff, List.length_cons, List.length_nil, and_false, false_and, eq_self] at hbr); (try walk_at "dead"))))
local macro_rules | `(tactic| walk_at "new") => `(tactic| (refine fun (p : Addr) (hp : _ = none) => ?_))
local macro_rules | `(tactic| walk_at "go") => `(tactic| repeat' (first | walk_at "go1" | walk_at "br" | walk_at "new" | (refine fun (y z : V) => ?_)))
/-- an error class and its own __init__ -/
structure EF (K : PySem.W.Frag) (mg : Str → Option Value) (N : Str) (B fB : Addr) (fd : FuncData) (ps : List Str) : Prop where
  ox : OexC K B
  iC : PySem.W.findIn K (.ref B) "__init__" = some (some (.ref fB))
  tI : PySem.W.typeIn K (.ref fB) = some (.type "function")
  gB : mg N = some (.ref B)
  bB : Binds K fd ps []
structure Ad where
  aDiff : Addr
  aBox : Addr
  aTake : Addr
  aWhole : Addr
  aLetters : Addr
  aVowels : Addr
  aSize : Addr
  aText : Addr
  aPass : Addr
  aInsert : Addr
  aPress : Addr
  aSame : Addr
  aWorked : Addr
  aGoOn : Addr
  aPutIn : Addr
  aUntil : Addr
  aWillWork : Addr
  aCarry : Addr
  aHeld : Addr
  aPress2 : Addr
  aIsText : Addr
  aCheck : Addr
  aPIsKey : Addr
  aKey : Addr
  aRestored : Addr
  aChain : Addr
  aWorld : Addr
  aLaw : Addr
  aAlEq : Addr
  cPage : Addr
  cAlphabet : Addr
  kPlain : Addr
  kSign : Addr
  kHeld : Addr
  cBadKey : Addr
  eBadKey : Addr
  fPI : Addr
  cTale : Addr
  tHold : Tok
  tJoint : Tok
structure Fd where
  dDiff : FuncData
  dBox : FuncData
  dTake : FuncData
  dWhole : FuncData
  dLetters : FuncData
  dVowels : FuncData
  dSize : FuncData
  dText : FuncData
  dPass : FuncData
  dInsert : FuncData
  dPress : FuncData
  dSame : FuncData
  dWorked : FuncData
  dGoOn : FuncData
  dPutIn : FuncData
  dUntil : FuncData
  dWillWork : FuncData
  dCarry : FuncData
  dHeld : FuncData
  dPress2 : FuncData
  dIsText : FuncData
  dCheck : FuncData
  dPIsKey : FuncData
  dKey : FuncData
  dRestored : FuncData
  dChain : FuncData
  dWorld : FuncData
  dLaw : FuncData
  dAlEq : FuncData
  eBadKey : FuncData
  fPI : FuncData
abbrev sBox : Stmt := top 17
abbrev sTake : Stmt := top 18
abbrev sWhole : Stmt := top 19
abbrev sLetters : Stmt := top 20
abbrev sVowels : Stmt := top 21
abbrev sSize : Stmt := top 22
abbrev sText : Stmt := top 23
abbrev sPass : Stmt := top 25
abbrev sInsert : Stmt := top 26
abbrev sPress : Stmt := top 27
abbrev sSame : Stmt := top 28
abbrev sWorked : Stmt := top 29
abbrev sGoOn : Stmt := inClass (top 10) 5
abbrev sPutIn : Stmt := inClass (top 10) 6
abbrev sUntil : Stmt := inClass (top 10) 7
abbrev sWillWork : Stmt := inClass (top 10) 3
abbrev sCarry : Stmt := inClass (top 10) 4
abbrev sHeld : Stmt := inClass (top 10) 1
abbrev sPress2 : Stmt := inClass (top 10) 2
abbrev sIsText : Stmt := inClass (top 14) 7
abbrev sCheck : Stmt := inClass (top 14) 8
abbrev sPIsKey : Stmt := top 11
abbrev sKey : Stmt := top 24
abbrev sRestored : Stmt := top 30
abbrev sChain : Stmt := top 31
abbrev sWorld : Stmt := top 32
abbrev sLaw : Stmt := top 33
abbrev sAlEq : Stmt := inClass (top 14) 3
structure Fns (K : PySem.W.Frag) (mg : Str → Option Value) (a : Ad) (d : Fd) : Prop extends TxA K mg a.aDiff where
  FDiff : Fun K "differ_within" "differ_within" sDiff a.aDiff d.dDiff
  bDiff : Binds K d.dDiff ["text", "allowed"] []
  gBox : mg "_law_box" = some (.ref a.aBox)
  FBox : Fun K "_law_box" "_law_box" sBox a.aBox d.dBox
  bBox : Binds K d.dBox ["_law_script", "_law_k"] []
  gTake : mg "_law_take" = some (.ref a.aTake)
  FTake : Fun K "_law_take" "_law_take" sTake a.aTake d.dTake
  bTake : Binds K d.dTake ["_law_box_here", "_law_size_here"] []
  gWhole : mg "_law_whole" = some (.ref a.aWhole)
  FWhole : Fun K "_law_whole" "_law_whole" sWhole a.aWhole d.dWhole
  bWhole : Binds K d.dWhole ["_law_told", "_law_due"] []
  gLetters : mg "_law_letters" = some (.ref a.aLetters)
  FLetters : Fun K "_law_letters" "_law_letters" sLetters a.aLetters d.dLetters
  bLetters : Binds K d.dLetters ["_law_box_here", "_law_count"] []
  gVowels : mg "_law_vowels" = some (.ref a.aVowels)
  FVowels : Fun K "_law_vowels" "_law_vowels" sVowels a.aVowels d.dVowels
  bVowels : Binds K d.dVowels ["_law_box_here", "_law_letters_here"] []
  gSize : mg "_law_size" = some (.ref a.aSize)
  FSize : Fun K "_law_size" "_law_size" sSize a.aSize d.dSize
  bSize : Binds K d.dSize ["_law_box_here", "_law_small"] []
  gText : mg "_law_text" = some (.ref a.aText)
  FText : Fun K "_law_text" "_law_text" sText a.aText d.dText
  bText : Binds K d.dText ["_law_box_here", "_law_signs", "_law_size_here"] []
  gPass : mg "_law_pass" = some (.ref a.aPass)
  FPass : Fun K "_law_pass" "_law_pass" sPass a.aPass d.dPass
  bPass : Binds K d.dPass ["_law_page", "_law_count"] []
  gInsert : mg "_law_insert" = some (.ref a.aInsert)
  FInsert : Fun K "_law_insert" "_law_insert" sInsert a.aInsert d.dInsert
  bInsert : Binds K d.dInsert ["_law_page", "_law_signs"] []
  gPress : mg "_law_press" = some (.ref a.aPress)
  FPress : Fun K "_law_press" "_law_press" sPress a.aPress d.dPress
  bPress : Binds K d.dPress ["_law_page", "_law_key_here"] []
  gSame : mg "_law_same" = some (.ref a.aSame)
  FSame : Fun K "_law_same" "_law_same" sSame a.aSame d.dSame
  bSame : Binds K d.dSame ["_law_page", "_law_own"] []
  gWorked : mg "_law_worked" = some (.ref a.aWorked)
  FWorked : Fun K "_law_worked" "_law_worked" sWorked a.aWorked d.dWorked
  bWorked : Binds K d.dWorked ["_law_page", "_law_own", "_law_key_here"] []
  mGoOn : Meth K a.cPage "go_on" a.aGoOn
  FGoOn : Fun K "go_on" "Page.go_on" sGoOn a.aGoOn d.dGoOn
  bGoOn : Binds K d.dGoOn ["self"] []
  mPutIn : Meth K a.cPage "put_in" a.aPutIn
  FPutIn : Fun K "put_in" "Page.put_in" sPutIn a.aPutIn d.dPutIn
  bPutIn : Binds K d.dPutIn ["self", "signs"] []
  mUntil : Meth K a.cPage "pass_until" a.aUntil
  FUntil : Fun K "pass_until" "Page.pass_until" sUntil a.aUntil d.dUntil
  bUntil : Binds K d.dUntil ["self", "sign"] []
  mWillWork : Meth K a.cPage "will_work" a.aWillWork
  FWillWork : Fun K "will_work" "Page.will_work" sWillWork a.aWillWork d.dWillWork
  bWillWork : Binds K d.dWillWork ["self", "key"] []
  mCarry : Meth K a.cPage "carry_out" a.aCarry
  FCarry : Fun K "carry_out" "Page.carry_out" sCarry a.aCarry d.dCarry
  bCarry : Binds K d.dCarry ["self", "key"] []
  FHeld : Fun K "held" "Page.held" sHeld a.aHeld d.dHeld
  bHeld : Binds K d.dHeld ["self"] []
  mPress2 : Meth K a.cPage "press" a.aPress2
  FPress2 : Fun K "press" "Page.press" sPress2 a.aPress2 d.dPress2
  bPress2 : Binds K d.dPress2 ["self", "key"] []
  mIsText : Meth K a.cAlphabet "is_text" a.aIsText
  FIsText : Fun K "is_text" "Alphabet.is_text" sIsText a.aIsText d.dIsText
  bIsText : Binds K d.dIsText ["self", "text"] []
  mCheck : Meth K a.cAlphabet "check" a.aCheck
  FCheck : Fun K "check" "Alphabet.check" sCheck a.aCheck d.dCheck
  bCheck : Binds K d.dCheck ["self", "text"] []
  gPIsKey : mg "is_key" = some (.ref a.aPIsKey)
  FPIsKey : Fun K "is_key" "is_key" sPIsKey a.aPIsKey d.dPIsKey
  bPIsKey : Binds K d.dPIsKey ["alphabet", "key"] []
  gKey : mg "_law_key" = some (.ref a.aKey)
  FKey : Fun K "_law_key" "_law_key" sKey a.aKey d.dKey
  bKey : Binds K d.dKey ["_law_box_here", "_law_signs", "_law_menu"] []
  gRestored : mg "_law_restored" = some (.ref a.aRestored)
  FRestored : Fun K "_law_restored" "_law_restored" sRestored a.aRestored d.dRestored
  bRestored : Binds K d.dRestored ["_law_page", "_law_own"] []
  gChain : mg "_law_chain" = some (.ref a.aChain)
  FChain : Fun K "_law_chain" "_law_chain" sChain a.aChain d.dChain
  bChain : Binds K d.dChain ["_law_page", "_law_own", "_law_one", "_law_two"] []
  gWorld : mg "_law_world" = some (.ref a.aWorld)
  FWorld : Fun K "_law_world" "_law_world" sWorld a.aWorld d.dWorld
  bWorld : Binds K d.dWorld ["_law_script", "_law_k"] []
  gLaw : mg "law" = some (.ref a.aLaw)
  FLaw : Fun K "law" "law" sLaw a.aLaw d.dLaw
  bLaw : Binds K d.dLaw ["_law_script"] []
  mAlEq : Meth K a.cAlphabet "__eq__" a.aAlEq
  FAlEq : Fun K "__eq__" "Alphabet.__eq__" sAlEq a.aAlEq d.dAlEq
  bAlEq : Binds K d.dAlEq ["self", "other"] []
  mkPage : Mk K a.cPage a.fPI
  gPage : mg "Page" = some (.ref a.cPage)
  eqN : PySem.W.notFirst K a.cAlphabet (.ref a.cAlphabet) = true
  gTale : mg "TaleError" = some (.ref a.cTale)
  xBadKey : EF K mg "BadKey" a.cBadKey a.eBadKey d.eBadKey ["self", "key"]
  clP : Cls K a.cPage
  nA : NoAttr K a.cPage "alphabet"
  nT : NoAttr K a.cPage "text"
  nC : NoAttr K a.cPage "caret"
  nM : NoAttr K a.cPage "mark"
  nK : NoAttr K a.cPage "kept"
  prHeld : PropOf K a.cPage "held" a.kHeld a.aHeld
  gHold : mg "HOLD" = some (.int 2 a.tHold)
  tPlain : ∀ H : Hp, SqT K H a.kPlain ([[62], [120], [119], [94], [109], [107], [99], [112]].map fun l => V.str (S l))
  tSign : ∀ H : Hp, SqT K H a.kSign ([[39], [61], [47]].map fun l => V.str (S l))
  clA : Cls K a.cAlphabet
  nS : NoAttr K a.cAlphabet "signs"
  tj : Con K a.cAlphabet "JOINT" (.str (S [45])) (.str "-" a.tJoint)
  gPlain : mg "PLAIN_KEYS" = some (.ref a.kPlain)
  gSign : mg "SIGN_KEYS" = some (.ref a.kSign)
/-- the box of draws -/
def BoxI (cs : List Int) (m : Int) : Prop := 0 ≤ m ∧ 0 < cs.length ∧ cs.length ≤ 64 ∧ ∀ c ∈ cs, 0 ≤ c ∧ c < 2305843009213693951
def IsBox (H : Hp) (b g : Addr) : Prop := b ≠ g ∧ ∃ (x m : Int) (cs : List Int), H b = some (.lst [.int x, .int m, .ref g]) ∧ H g = some (.lst (cs.map V.int)) ∧ BoxI cs m
theorem IsBox.fr {H H' : Hp} {b g : Addr} {L : List Addr} (h : IsBox H b g) (f : Fr L H H') (h1 : b ∉ L) (h2 : g ∉ L) : IsBox H' b g := by
  obtain ⟨n, x, m, cs, e1, e2, k⟩ := h
  exact ⟨n, x, m, cs, f _ _ h1 e1, f _ _ h2 e2, k⟩
theorem IsBox.same {H H' : Hp} {b g : Addr} (h : IsBox H b g) (f : Same H H') : IsBox H' b g := h.fr (L := []) (Fr.of_same f) (by simp) (by simp)
theorem IsBox.laid {H : Hp} {b g p : Addr} {o : HO} (h : IsBox H b g) (hp : H p = none) : IsBox (upd H p o) b g := h.same (Same.upd_new hp)
theorem IsBox.upd {H : Hp} {b g p : Addr} {o : HO} (h : IsBox H b g) (h1 : b ≠ p) (h2 : g ≠ p) : IsBox (upd H p o) b g := by
  obtain ⟨n, x, m, cs, e1, e2, k⟩ := h
  exact ⟨n, x, m, cs, upd_oth h1 e1, upd_oth h2 e2, k⟩
theorem atI_modI {cs : List Int} (h : 0 < cs.length) (z : Int) : ∃ c, atI (cs.map V.int) (z % ((cs.map V.int).length : Int)) = some (.int c) ∧ c ∈ cs := by
  rw [List.length_map]
  have h1 : 0 ≤ z % (cs.length : Int) := Int.emod_nonneg _ (by omega)
  have h2 : z % (cs.length : Int) < cs.length := Int.emod_lt_of_pos _ (by omega)
  obtain ⟨j, hj⟩ : ∃ j : Nat, z % (cs.length : Int) = (j : Int) := ⟨(z % (cs.length : Int)).toNat, by omega⟩
  have hlt : j < cs.length := by omega
  refine ⟨cs[j], ?_, List.getElem_mem hlt⟩
  rw [hj]
  exact atI_nat (by rw [List.getElem?_map, List.getElem?_eq_getElem hlt]; rfl)
/-! a page -/
structure Pg where
  t : List Nat
  c : Nat
  m : Option Nat
  k : List Nat
def optV : Option Nat → V
  | none => .non
  | some i => .int (i : Int)
def Pg.vs (p : Pg) : List V := [.str (S p.t), .int (p.c : Int), optV p.m, .str (S p.k)]
/-- a page that stands -/
def Pg.ok (p : Pg) : Prop := p.c ≤ p.t.length ∧ (∀ i, p.m = some i → i ≤ p.c ∧ p.c ≤ i + 2) ∧ p.t.length ≤ 5000 ∧ p.k.length ≤ 2
def IsOwn (H : Hp) (o : Addr) (p : Pg) : Prop := H o = some (.lst p.vs)
/-- the mark behind n signs -/
def mk (m : Option Nat) (c : Nat) : Option Nat := match m with
  | none => none
  | some i => if i + 2 < c then none else some i
def passP (p : Pg) (n : Nat) : Pg := { p with c := p.c + n, m := mk p.m (p.c + n) }
def insP (p : Pg) (s : List Nat) : Pg := passP { p with t := p.t.take p.c ++ s ++ p.t.drop p.c } s.length
theorem mk_none (c : Nat) : mk none c = none := rfl
theorem mk_lt {i c : Nat} (h : i + 2 < c) : mk (some i) c = none := if_pos h
theorem mk_ge {i c : Nat} (h : ¬ i + 2 < c) : mk (some i) c = some i := if_neg h
theorem mk_mk (m : Option Nat) {a b : Nat} (h : a ≤ b) : mk (mk m a) b = mk m b := by
  cases m with
  | none => rfl
  | some i =>
    by_cases h1 : i + 2 < a
    · rw [mk_lt h1, mk_lt (show i + 2 < b by omega), mk_none]
    · rw [mk_ge h1]
theorem own_mk {H : Hp} {o : Addr} {t k : List Nat} {c : Nat} {m : Option Nat} {ci : Int} {mv : V} (h : H o = some (.lst [.str (S t), .int ci, mv, .str (S k)])) (hc : ci = (c : Int)) (hm : mv = optV m) : IsOwn H o ⟨t, c, m, k⟩ := by
  subst hc hm
  exact h
theorem own_get {H : Hp} {o : Addr} {p : Pg} (h : IsOwn H o p) : H o = some (.lst [.str (S p.t), .int (p.c : Int), optV p.m, .str (S p.k)]) := h
theorem IsOwn.fr {H H' : Hp} {o : Addr} {p : Pg} {L : List Addr} (h : IsOwn H o p) (f : Fr L H H') (h1 : o ∉ L) : IsOwn H' o p := f _ _ h1 h
/-- what a key does: its head, and its second sign (0: none) -/
def pressP (p : Pg) (h c : Nat) : Bool × Pg :=
  if h = 109 then (true, { p with m := some p.c })
  else if h = 39 then (true, insP p [c])
  else if h = 119 then (true, passP p (n1 (p.t.drop p.c) 45))
  else if h = 47 then (decide (c ∈ p.t.drop p.c), passP p (n1 (p.t.drop p.c) c))
  else if h = 61 then (decide ((p.t.drop p.c).take 1 = [c]), p)
  else if h = 94 then (decide (p.c = 0 ∨ p.t[p.c - 1]? = some 45), p)
  else if h = 112 then (if p.k = [] then (false, p) else (true, insP p p.k))
  else if h = 62 then (if p.t.drop p.c = [] then (false, p) else (true, passP p 1))
  else if h = 120 then (if p.t.drop p.c = [] then (false, p) else (true, { p with t := p.t.take p.c ++ (p.t.drop p.c).drop 1 }))
  else match p.m with
    | none => (false, p)
    | some i => if h = 99 then (true, { t := p.t.take i ++ p.t.drop p.c, c := i, m := some i, k := (p.t.take p.c).drop i }) else (true, { p with k := (p.t.take p.c).drop i })
section
variable {P : Program} {w : World} {K : PySem.W.Frag} {mg : Str → Option Value} {base : Heap} {a : Ad} {d : Fd}
def spTake : Sp := fun vs H Q _ => ∃ (b g : Addr) (n : Nat), vs = [.ref b, .int (n : Int)] ∧ IsBox H b g ∧ 0 < n ∧ n < 2 ^ 30 ∧ ∀ (r : Nat) (H' : Hp), r < n → IsBox H' b g → Fr [b] H H' → Q (.int (r : Int)) H'
theorem scTake : FnScope ["_law_box_here", "_law_size_here", "_law_digit", "_law_cells", "_law_mixed"] ["_law_box_here", "_law_size_here"] (defScope sTake) := ⟨rfl, rfl, rfl, by decide +kernel, rfl, by decide +kernel, by decide +kernel⟩
theorem ok_take (T : Fns K mg a d) : FnOk P w K mg base CX0 1 a.aTake d.dTake ["_law_box_here", "_law_size_here"] spTake := by
  refine T.FTake.ok scTake (fun vs H Q E h => ?_) (fun cdv A outer s H vs Q E hr h => ?_)
  · obtain ⟨b, g, n, rfl, _⟩ := h
    rfl
  · obtain ⟨b, g, n, rfl, ⟨hbg, x, m, cs, hb, hg, hm0, hc0, hc1, hcs⟩, hn, hn2, k⟩ := h
    have fin : ∀ (z : Int) (H' : Hp), IsBox H' b g → Fr [b] H H' → Q (.int (z % (n : Int))) H' := fun z H' h1 h2 => by
      have e0 := Int.emod_nonneg z (b := (n : Int)) (by omega)
      have e1 := Int.emod_lt_of_pos z (b := (n : Int)) (by omega)
      obtain ⟨r, hr⟩ : ∃ r : Nat, z % (n : Int) = (r : Int) := ⟨(z % (n : Int)).toNat, by omega⟩
      rw [hr]
      exact k r H' (by omega) h1 h2
    obtain ⟨c, hc, hcm⟩ := atI_modI hc0 (m + 1)
    have hcb := hcs c hcm
    refine ⟨_, ((pss_cons (ps_if (pt_cmpR op_gt (pe_ix (r := rIxL K) ix_list (pv 0) pe_int (fun _ _ => rfl)) pe_int (nomark _)) (pss_cons (ps_set (i := 2) scTake.nd rfl (Or.inl rfl) (pe_op op_mod (pe_callTy call_int1 (by rfl) T.z_int (by decide +kernel) (pa_cons (pe_ix (r := rIxL K) ix_list (pv 0) pe_int (fun _ _ => rfl)) pa_nil)) (pv 1)))
      (pss_cons (ps_asg (pe_op op_fdivN (pe_callTy call_int1 (by rfl) T.z_int (by decide +kernel) (pa_cons (pe_ix (r := rIxL K) ix_list (pv 0) pe_int (fun _ _ => rfl)) pa_nil)) (pv 1)) (pg_sub (pv 0) pe_int set_list))
      (pss_one (ps_ret (pv 2))))) pss_nil)
      (pss_cons (ps_asg (pe_op op_add (pe_ix (r := rIxL K) ix_list (pv 0) pe_int (fun _ _ => rfl)) pe_int) (pg_sub (pv 0) pe_int set_list))
      (pss_cons (ps_set (i := 3) scTake.nd rfl (Or.inl rfl) (pe_ix (r := rIxL K) ix_list (pv 0) pe_int (fun _ _ => rfl)))
      (pss_cons (ps_set (i := 4) scTake.nd rfl (Or.inl rfl) (pe_op op_mod (pe_callTy call_int1 (by rfl) T.z_int (by decide +kernel) (pa_cons (pe_op op_mul (pe_ix (r := rIxL K) ix_list (pv 3) (pe_op op_mod (pe_callTy call_int1 (by rfl) T.z_int (by decide +kernel) (pa_cons (pe_ix (r := rIxL K) ix_list (pv 0) pe_int (fun _ _ => rfl)) pa_nil)) (pe_callB call_len_seq (by rfl) T.z_len (by decide +kernel) (pa_cons (pv 3) pa_nil))) (fun _ _ => rfl)) (pe_op op_add pe_int (pe_op op_mul (pe_ix (r := rIxL K) ix_list (pv 0) pe_int (fun _ _ => rfl)) pe_int))) pa_nil)) pe_int))
      (pss_cons (ps_set (i := 4) scTake.nd rfl (Or.inl rfl) (pe_op op_mod (pe_callTy call_int1 (by rfl) T.z_int (by decide +kernel) (pa_cons (pe_op op_mul (pv 4) (pe_op op_add (pe_op op_fdiv (pv 4) pe_int) (pe_ix (r := rIxL K) ix_list (pv 0) pe_int (fun _ _ => rfl)))) pa_nil)) pe_int))
      (pss_one (ps_ret (pe_op op_mod (pe_callTy call_int1 (by rfl) T.z_int (by decide +kernel) (pa_cons (pe_op op_fdiv (pv 4) pe_int) pa_nil)) (pv 1)))))))))), ?_⟩
    walk_at "go"
    · exact fin _ _ ⟨hbg, _, _, _, upd_same, by walk_at "lk", hm0, hc0, hc1, hcs⟩ (by walk_at "fr")
    · exact fin _ _ ⟨hbg, _, _, _, upd_same, by walk_at "lk", by omega, hc0, hc1, hcs⟩ (by walk_at "fr")
def spPass : Sp := fun vs H Q _ => ∃ (o : Addr) (p : Pg) (n : Nat), vs = [.ref o, .int (n : Int)] ∧ IsOwn H o p ∧ ∀ (H' : Hp), IsOwn H' o (passP p n) → Fr [o] H H' → Q .non H'
theorem scPass : FnScope ["_law_page", "_law_count"] ["_law_page", "_law_count"] (defScope sPass) := ⟨rfl, rfl, rfl, by decide +kernel, rfl, by decide +kernel, by decide +kernel⟩
theorem ok_pass (T : Fns K mg a d) : FnOk P w K mg base CX0 1 a.aPass d.dPass ["_law_page", "_law_count"] spPass := by
  refine T.FPass.ok scPass (fun vs H Q E h => ?_) (fun cdv A outer s H vs Q E hr h => ?_)
  · obtain ⟨o, p, n, rfl, _⟩ := h
    rfl
  · obtain ⟨o, ⟨t, c, m, kk⟩, n, rfl, ho, k⟩ := h
    have fin : ∀ (m' : Option Nat) (H' : Hp), mk m (c + n) = m' → H' o = some (.lst [.str (S t), .int ((c : Int) + (n : Int)), optV m', .str (S kk)]) → Fr [o] H H' → Q .non H' := fun m' H' e h1 h2 => by
      subst e
      refine k H' ?_ h2
      show IsOwn H' o ⟨t, c + n, mk m (c + n), kk⟩
      exact own_mk h1 (by omega) rfl
    refine ⟨_, ((pss_cons (ps_asg (pe_op op_add (pe_ix (r := rIxL K) ix_list (pv 0) pe_int (fun _ _ => rfl)) (pv 1)) (pg_sub (pv 0) pe_int set_list))
      (pss_one (ps_if (PW.pt (pw_and (pt_cmpR op_notN (pe_ix (r := rIxL K) ix_list (pv 0) pe_int (fun _ _ => rfl)) pe_non (nomark _)) (pw_and1 (pt_cmpR op_gt (pe_op op_sub (pe_ix (r := rIxL K) ix_list (pv 0) pe_int (fun _ _ => rfl)) (pe_ix (r := rIxL K) ix_list (pv 0) pe_int (fun _ _ => rfl))) pe_int (nomark _))))) (pss_one (ps_asg pe_non (pg_sub (pv 0) pe_int set_list))) pss_nil)))), ?_⟩
    cases m with
    | none =>
      have ho : H o = some (.lst [.str (S t), .int (c : Int), .non, .str (S kk)]) := ho
      walk_at "go"
      exact fin none _ (mk_none _) upd_same (by walk_at "fr")
    | some i =>
      have ho : H o = some (.lst [.str (S t), .int (c : Int), .int (i : Int), .str (S kk)]) := ho
      walk_at "go"
      · exact fin none _ (mk_lt (by omega)) upd_same (by walk_at "fr")
      · exact fin (some i) _ (mk_ge (by omega)) upd_same (by walk_at "fr")
def spInsert : Sp := fun vs H Q _ => ∃ (o : Addr) (p : Pg) (s : List Nat), vs = [.ref o, .str (S s)] ∧ IsOwn H o p ∧ p.t.length ≤ 6000 ∧ s.length ≤ 1000 ∧ ∀ (H' : Hp), IsOwn H' o (insP p s) → Fr [o] H H' → Q .non H'
theorem scInsert : FnScope ["_law_page", "_law_signs"] ["_law_page", "_law_signs"] (defScope sInsert) := ⟨rfl, rfl, rfl, by decide +kernel, rfl, by decide +kernel, by decide +kernel⟩
theorem ok_insert (T : Fns K mg a d) : FnOk P w K mg base CX0 2 a.aInsert d.dInsert ["_law_page", "_law_signs"] spInsert := by
  have GPass : FnOk P w K mg base CX0 1 a.aPass d.dPass ["_law_page", "_law_count"] spPass := ok_pass T
  refine T.FInsert.ok scInsert (fun vs H Q E h => ?_) (fun cdv A outer s H vs Q E hr h => ?_)
  · obtain ⟨o, p, s, rfl, _⟩ := h
    rfl
  · obtain ⟨o, ⟨t, c, m, kk⟩, s, rfl, ho, ht, hs, k⟩ := h
    have ho : H o = some (.lst [.str (S t), .int (c : Int), optV m, .str (S kk)]) := ho
    have ht : t.length ≤ 6000 := ht
    refine ⟨_, ((pss_cons (ps_asg (pe_op op_addS (pe_op op_addS (pe_slice sl_str (pe_ix (r := rIxL K) ix_list (pv 0) pe_int (fun _ _ => rfl)) po_none (po_some (pe_ix (r := rIxL K) ix_list (pv 0) pe_int (fun _ _ => rfl)))) (pv 1)) (pe_slice sl_str (pe_ix (r := rIxL K) ix_list (pv 0) pe_int (fun _ _ => rfl)) (po_some (pe_ix (r := rIxL K) ix_list (pv 0) pe_int (fun _ _ => rfl))) po_none)) (pg_sub (pv 0) pe_int set_list))
      (pss_one (ps_expr (pe_call GPass (hr.mono (by decide)) (by rfl) T.gPass T.FPass.kp T.bPass .nil pass0 (pa_cons (pv 0) (pa_cons (pe_callB call_lenS (by rfl) T.z_len (by decide +kernel) (pa_cons (pv 1) pa_nil)) pa_nil))))))), ?_⟩
    walk_at "go"
    refine ⟨o, ⟨t.take c ++ s ++ t.drop c, c, m, kk⟩, s.length, rfl, own_mk upd_same rfl rfl, fun H' h1 h2 => ?_⟩
    exact k H' h1 (by walk_at "fr")
def plainL : List Nat := [62, 120, 119, 94, 109, 107, 99, 112]
def signL : List Nat := [39, 61, 47]
/-- a key: its head and its second sign -/
def IsKey (key : List Nat) (h c : Nat) : Prop := (key = [h] ∧ h ∈ plainL) ∨ (key = [h, c] ∧ h ∈ signL)
def spPress : Sp := fun vs H Q _ => ∃ (o : Addr) (p : Pg) (key : List Nat) (h c : Nat), vs = [.ref o, .str (S key)] ∧ IsOwn H o p ∧ p.ok ∧ IsKey key h c ∧ ∀ (H' : Hp), IsOwn H' o (pressP p h c).2 → Fr [o] H H' → Q (.bl (pressP p h c).1) H'
theorem scPress : FnScope ["_law_page", "_law_key_here", "_law_head", "_law_rest", "_law_count"] ["_law_page", "_law_key_here"] (defScope sPress) := ⟨rfl, rfl, rfl, by decide +kernel, rfl, by decide +kernel, by decide +kernel⟩
theorem ok_press (T : Fns K mg a d) : FnOk P w K mg base CX0 3 a.aPress d.dPress ["_law_page", "_law_key_here"] spPress := by
  have GPass : FnOk P w K mg base CX0 1 a.aPass d.dPass ["_law_page", "_law_count"] spPass := ok_pass T
  have GInsert : FnOk P w K mg base CX0 2 a.aInsert d.dInsert ["_law_page", "_law_signs"] spInsert := ok_insert T
  refine T.FPress.ok scPress (fun vs H Q E h => ?_) (fun cdv A outer s H vs Q E hr h => ?_)
  · obtain ⟨o, p, key, h, c, rfl, _⟩ := h
    rfl
  · obtain ⟨o, ⟨t, cc, m, kk⟩, key, h, x, rfl, ho, ⟨hc, hm, ht, hk⟩, hkey, k⟩ := h
    have ho : H o = some (.lst [.str (S t), .int (cc : Int), optV m, .str (S kk)]) := ho
    have ht : t.length ≤ 5000 := ht
    have hc : cc ≤ t.length := hc
    have hk : kk.length ≤ 2 := hk
    have fin : ∀ (b : Bool) (p' : Pg) (H' : Hp), pressP ⟨t, cc, m, kk⟩ h x = (b, p') → IsOwn H' o p' → Fr [o] H H' → Q (.bl b) H' := fun b p' H' e h1 h2 => by
      have q := k H'
      rw [e] at q
      exact q h1 h2
    have finB : ∀ (b : Bool) (H' : Hp), b = (pressP ⟨t, cc, m, kk⟩ h x).1 → IsOwn H' o (pressP ⟨t, cc, m, kk⟩ h x).2 → Fr [o] H H' → Q (.bl b) H' := fun b H' e h1 h2 => by
      rw [e]
      exact k H' h1 h2
    clear k
    refine ⟨_, ((pss_cons (ps_set (i := 2) scPress.nd rfl (Or.inl rfl) (pe_ix ix_str (pv 1) pe_int (fun _ _ => rfl)))
      (pss_cons (ps_set (i := 3) scPress.nd rfl (Or.inl rfl) (pe_slice sl_str (pe_ix (r := rIxL K) ix_list (pv 0) pe_int (fun _ _ => rfl)) (po_some (pe_ix (r := rIxL K) ix_list (pv 0) pe_int (fun _ _ => rfl))) po_none))
      (pss_cons (ps_if (pt_cmpR op_eq (pv 2) (pe_strS (l := [109]) (by decide +kernel)) (nomark _)) (pss_one (ps_asg (pe_ix (r := rIxL K) ix_list (pv 0) pe_int (fun _ _ => rfl)) (pg_sub (pv 0) pe_int set_list))) (pss_one (ps_if (pt_cmpR op_eq (pv 2) (pe_strS (l := [39]) (by decide +kernel)) (nomark _)) (pss_one (ps_expr (pe_call GInsert (hr.mono (by decide)) (by rfl) T.gInsert T.FInsert.kp T.bInsert .nil pass0 (pa_cons (pv 0) (pa_cons (pe_ix ix_str (pv 1) pe_int (fun _ _ => rfl)) pa_nil))))) (pss_one (ps_if (pt_cmpR op_eq (pv 2) (pe_strS (l := [119]) (by decide +kernel)) (nomark _)) (pss_one (ps_expr (pe_call GPass (hr.mono (by decide)) (by rfl) T.gPass T.FPass.kp T.bPass .nil pass0 (pa_cons (pv 0) (pa_cons (pe_callB call_lenS (by rfl) T.z_len (by decide +kernel) (pa_cons (pe_ix (r := rIxT K) ix_tup (pe_m1 F.slot_str_partition F.type_str_partition mt_partS (pv 3) (pe_strS (l := [45]) (by decide +kernel))) pe_int (fun _ _ => rfl)) pa_nil)) pa_nil))))) (pss_one (ps_if (pt_cmpR op_eq (pv 2) (pe_strS (l := [47]) (by decide +kernel)) (nomark _)) (pss_cons (ps_set (i := 4) scPress.nd rfl (Or.inl rfl) (pe_m1 F.slot_str_find F.type_str_find mt_findS (pv 3) (pe_ix ix_str (pv 1) pe_int (fun _ _ => rfl))))
      (pss_cons (ps_expr (pe_call GPass (hr.mono (by decide)) (by rfl) T.gPass T.FPass.kp T.bPass .nil pass0 (pa_cons (pv 0) (pa_cons (pe_ix (r := rIxL K) ix_list (pe_lst (pa_cons (pv 4) (pa_cons (pe_callB call_lenS (by rfl) T.z_len (by decide +kernel) (pa_cons (pv 3) pa_nil)) pa_nil))) (pe_callTy call_int1 (by rfl) T.z_int (by decide +kernel) (pa_cons (pe_cmpR op_lt (pv 4) pe_int (nomark _)) pa_nil)) (fun _ _ => rfl)) pa_nil))))
      (pss_one (ps_ret (pe_cmpR op_ge (pv 4) pe_int (nomark _)))))) (pss_one (ps_if (pt_cmpR op_eq (pv 2) (pe_strS (l := [61]) (by decide +kernel)) (nomark _)) (pss_one (ps_ret (pe_cmpR op_eq (pe_slice sl_str (pv 3) po_none (po_some pe_int)) (pe_ix ix_str (pv 1) pe_int (fun _ _ => rfl)) (nomark _)))) (pss_one (ps_if (pt_cmpR op_eq (pv 2) (pe_strS (l := [94]) (by decide +kernel)) (nomark _)) (pss_one (ps_ret (pe_or (pe_cmpR op_eq (pe_ix (r := rIxL K) ix_list (pv 0) pe_int (fun _ _ => rfl)) pe_int (nomark _)) (pe_one (pe_cmpR op_eq (pe_ix ix_str (pe_ix (r := rIxL K) ix_list (pv 0) pe_int (fun _ _ => rfl)) (pe_op op_sub (pe_ix (r := rIxL K) ix_list (pv 0) pe_int (fun _ _ => rfl)) pe_int) (fun _ _ => rfl)) (pe_strS (l := [45]) (by decide +kernel)) (nomark _)))))) (pss_one (ps_if (pt_cmpR op_eq (pv 2) (pe_strS (l := [112]) (by decide +kernel)) (nomark _)) (pss_cons (ps_if (pt_cmpR op_eq (pe_ix (r := rIxL K) ix_list (pv 0) pe_int (fun _ _ => rfl)) (pe_strS (l := []) (by decide +kernel)) (nomark _)) (pss_one (ps_ret pe_bl)) pss_nil)
      (pss_one (ps_expr (pe_call GInsert (hr.mono (by decide)) (by rfl) T.gInsert T.FInsert.kp T.bInsert .nil pass0 (pa_cons (pv 0) (pa_cons (pe_ix (r := rIxL K) ix_list (pv 0) pe_int (fun _ _ => rfl)) pa_nil)))))) (pss_one (ps_if (pt_cmpR op_inS (pv 2) (pe_strS (l := [62, 120]) (by decide +kernel)) rfl) (pss_cons (ps_if (pt_cmpR op_eq (pv 3) (pe_strS (l := []) (by decide +kernel)) (nomark _)) (pss_one (ps_ret pe_bl)) pss_nil)
      (pss_one (ps_if (pt_cmpR op_eq (pv 2) (pe_strS (l := [62]) (by decide +kernel)) (nomark _)) (pss_one (ps_expr (pe_call GPass (hr.mono (by decide)) (by rfl) T.gPass T.FPass.kp T.bPass .nil pass0 (pa_cons (pv 0) (pa_cons pe_int pa_nil))))) (pss_one (ps_asg (pe_op op_addS (pe_slice sl_str (pe_ix (r := rIxL K) ix_list (pv 0) pe_int (fun _ _ => rfl)) po_none (po_some (pe_ix (r := rIxL K) ix_list (pv 0) pe_int (fun _ _ => rfl)))) (pe_slice sl_str (pv 3) (po_some pe_int) po_none)) (pg_sub (pv 0) pe_int set_list)))))) (pss_cons (ps_if (pt_cmpR op_isN (pe_ix (r := rIxL K) ix_list (pv 0) pe_int (fun _ _ => rfl)) pe_non (nomark _)) (pss_one (ps_ret pe_bl)) pss_nil)
      (pss_cons (ps_asg (pe_slice sl_str (pe_ix (r := rIxL K) ix_list (pv 0) pe_int (fun _ _ => rfl)) (po_some (pe_ix (r := rIxL K) ix_list (pv 0) pe_int (fun _ _ => rfl))) (po_some (pe_ix (r := rIxL K) ix_list (pv 0) pe_int (fun _ _ => rfl)))) (pg_sub (pv 0) pe_int set_list))
      (pss_one (ps_if (pt_cmpR op_eq (pv 2) (pe_strS (l := [99]) (by decide +kernel)) (nomark _)) (pss_cons (ps_asg (pe_op op_addS (pe_slice sl_str (pe_ix (r := rIxL K) ix_list (pv 0) pe_int (fun _ _ => rfl)) po_none (po_some (pe_ix (r := rIxL K) ix_list (pv 0) pe_int (fun _ _ => rfl)))) (pv 3)) (pg_sub (pv 0) pe_int set_list))
      (pss_one (ps_asg (pe_ix (r := rIxL K) ix_list (pv 0) pe_int (fun _ _ => rfl)) (pg_sub (pv 0) pe_int set_list)))) pss_nil)))))))))))))))))))
      (pss_one (ps_ret pe_bl)))))), ?_⟩
    rcases hkey with ⟨rfl, hh⟩ | ⟨rfl, hh⟩
    · simp only [plainL, List.mem_cons, List.not_mem_nil, or_false] at hh
      rcases hh with rfl | rfl | rfl | rfl | rfl | rfl | rfl | rfl
      · walk_at "go"
        · exact fin false _ _ (by simp [pressP, *]) (own_mk ho rfl rfl) (by walk_at "fr")
        · refine ⟨o, ⟨t, cc, m, kk⟩, 1, rfl, own_mk ho rfl rfl, fun H' h1 h2 => ?_⟩
          walk_at "go"
          exact fin true _ _ (by simp [pressP, *]) h1 h2
      · walk_at "go"
        · exact fin false _ _ (by simp [pressP, *]) (own_mk ho rfl rfl) (by walk_at "fr")
        · exact fin true ⟨t.take cc ++ (t.drop cc).drop 1, cc, m, kk⟩ _ (by unfold pressP; simp only [Nat.reduceEqDiff, if_false, if_true, *]) (own_mk upd_same rfl rfl) (by walk_at "fr")
      · walk_at "go"
        rename_i p hp y z
        refine ⟨o, ⟨t, cc, m, kk⟩, _, rfl, own_mk (upd_old hp ho) rfl rfl, fun H' h1 h2 => ?_⟩
        walk_at "go"
        rw [List.length_take, Nat.min_eq_left (n1_le _ _)] at h1
        exact fin true _ _ (by simp [pressP]) h1 (by walk_at "fr")
      · by_cases h0 : cc = 0
        · subst h0
          walk_at "go"
          exact fin true _ _ (by simp [pressP]) (own_mk ho rfl rfl) (by walk_at "fr")
        · have hx : atI t ((cc : Int) - 1) = some (t[cc - 1]'(by omega)) := by
            have e : (cc : Int) - 1 = ((cc - 1 : Nat) : Int) := by omega
            rw [e]
            exact atI_nat (List.getElem?_eq_getElem (by omega))
          walk_at "go"
          refine (fun q => by rw [q]; exact fin _ _ _ rfl (own_mk ho rfl rfl) (by walk_at "fr")) (?_ : (decide (V.str (S [t[cc - 1]'(by omega)]) = V.str (S [45]))) = (pressP ⟨t, cc, m, kk⟩ 94 x).1)
          simp [pressP, S_inj, h0, List.getElem?_eq_getElem (show cc - 1 < t.length by omega)]
      · walk_at "go"
        exact fin true ⟨t, cc, some cc, kk⟩ _ (by simp [pressP]) (own_mk upd_same rfl rfl) (by walk_at "fr")
      · cases m with
        | none =>
          have ho : H o = some (.lst [.str (S t), .int (cc : Int), .non, .str (S kk)]) := ho
          walk_at "go"
          exact fin false ⟨t, cc, none, kk⟩ _ (by simp [pressP]) (own_mk ho rfl rfl) (by walk_at "fr")
        | some i =>
          have ho : H o = some (.lst [.str (S t), .int (cc : Int), .int (i : Int), .str (S kk)]) := ho
          walk_at "go"
          exact fin true ⟨t, cc, some i, (t.take cc).drop i⟩ _ (by simp [pressP]) (own_mk upd_same rfl rfl) (by walk_at "fr")
      · cases m with
        | none =>
          have ho : H o = some (.lst [.str (S t), .int (cc : Int), .non, .str (S kk)]) := ho
          walk_at "go"
          exact fin false ⟨t, cc, none, kk⟩ _ (by simp [pressP]) (own_mk ho rfl rfl) (by walk_at "fr")
        | some i =>
          have ho : H o = some (.lst [.str (S t), .int (cc : Int), .int (i : Int), .str (S kk)]) := ho
          walk_at "go"
          exact fin true ⟨t.take i ++ t.drop cc, i, some i, (t.take cc).drop i⟩ _ (by simp [pressP]) (own_mk upd_same rfl rfl) (by walk_at "fr")
      · walk_at "go"
        · exact fin false _ _ (by simp [pressP, *]) (own_mk ho rfl rfl) (by walk_at "fr")
        · refine ⟨o, ⟨t, cc, m, kk⟩, kk, rfl, own_mk ho rfl rfl, by show t.length ≤ 6000; omega, by omega, fun H' h1 h2 => ?_⟩
          walk_at "go"
          exact fin true _ _ (by simp [pressP, *]) h1 h2
    · simp only [signL, List.mem_cons, List.not_mem_nil, or_false] at hh
      rcases hh with rfl | rfl | rfl
      · walk_at "go"
        refine ⟨o, ⟨t, cc, m, kk⟩, [x], rfl, own_mk ho rfl rfl, by show t.length ≤ 6000; omega, by simp, fun H' h1 h2 => ?_⟩
        walk_at "go"
        exact fin true _ _ (by simp [pressP]) h1 h2
      · walk_at "go"
        refine (fun q => by rw [q]; exact fin _ _ _ rfl (own_mk ho rfl rfl) (by walk_at "fr")) (?_ : (decide (V.str (S (List.take 1 (List.drop cc t))) = V.str (S [x]))) = (pressP ⟨t, cc, m, kk⟩ 61 x).1)
        simp [pressP, S_inj]
      · by_cases hx : x ∈ t.drop cc
        · walk_at "go"
          rename_i p hp
          refine ⟨o, ⟨t, cc, m, kk⟩, n1 (t.drop cc) x, rfl, own_mk (upd_old hp ho) rfl rfl, fun H' h1 h2 => ?_⟩
          walk_at "go"
          exact finB _ _ (by simp [pressP, hx]) (by simpa [pressP] using h1) (by walk_at "fr")
        · walk_at "go"
          rename_i p hp
          refine ⟨o, ⟨t, cc, m, kk⟩, (t.drop cc).length, rfl, own_mk (upd_old hp ho) rfl rfl, fun H' h1 h2 => ?_⟩
          walk_at "go"
          rw [← n1_not hx] at h1
          exact finB _ _ (by simp [pressP, hx]) (by simpa [pressP] using h1) (by walk_at "fr")
end
end Vk

set_option Elab.async false
set_option linter.all false
set_option maxRecDepth 100000
set_option maxHeartbeats 4000000
namespace Vk
open PySem PySem.Spec PyProof.Rows L2
/-! the walk over a reading -/
open L2 in
local macro_rules | `(tactic| walk_at "lk") => `(tactic| first
  | assumption
  | exact upd_same
  | (refine upd_old (by assumption) ?_; walk_at "lk")
  | (refine upd_oth (by first | assumption | (apply Ne.symm; assumption)) ?_; walk_at "lk")
  | (refine Same.get (by assumption) ?_; walk_at "lk")
  | (refine Fr.get (by assumption) (by first | assumption | (simp only [List.mem_cons, List.not_mem_nil, or_false, not_or]; first | assumption | (refine ⟨?_, ?_⟩ <;> assumption) | (apply Ne.symm; assumption))) ?_; walk_at "lk"))
local macro_rules | `(tactic| walk_at "len") => `(tactic| first
  | (simp only [List.length_cons, List.length_nil, sizeLine_eq]; omega)
  | (simp only [S_len, sizeLine_eq]; omega)
  | (simp only [S_len, sizeLine_eq, List.length_take, List.length_drop, List.length_append, List.length_cons, List.length_nil]; omega))
local macro_rules | `(tactic| walk_at "num") => `(tactic| first | assumption | omega | (simp only [List.length_take, List.length_drop, List.length_append, List.length_cons, List.length_nil]; omega))
local macro_rules | `(tactic| walk_at "ix") => `(tactic| first | exact rfl | assumption | exact atI_nat (by assumption))
local macro_rules | `(tactic| walk_at "putq") => `(tactic| exact rfl)
local macro_rules | `(tactic| walk_at "sq") => `(tactic| first
  | exact .inr (by assumption)
  | exact .inl (by assumption)
  | exact .inl (SqL.of (by walk_at "lk"))
  | exact .inr (SqT.of (by walk_at "lk")))
local macro_rules | `(tactic| walk_at "mapq") => `(tactic| first
  | exact rfl
  | exact (rfl : _ = List.map (fun l => V.str (S l)) [_])
  | exact (rfl : _ = List.map (fun l => V.str (S l)) [_, _])
  | exact (rfl : _ = List.map (fun l => V.str (S l)) [_, _, _])
  | exact (rfl : _ = List.map (fun l => V.str (S l)) [_, _, _, _])
  | exact (rfl : _ = List.map (fun l => V.str (S l)) [_, _, _, _, _]))
local macro_rules | `(tactic| walk_at "setq") => `(tactic| ((try simp only [Int.reduceToNat, List.set_cons_succ, List.set_cons_zero]); exact rfl))
local macro_rules | `(tactic| walk_at "toN") => `(tactic| first | exact rfl | exact (Int.natCast_add _ _).symm | exact (Int.natCast_add _ 1).symm)
local macro_rules | `(tactic| walk_at "cond") => `(tactic| first | omega | (simp only [List.length_map]; omega) | (refine Or.inl ⟨?_, ?_⟩ <;> omega) | (refine Or.inr ⟨?_, ?_⟩ <;> omega) | (refine ⟨?_, ?_⟩ <;> omega))
local macro_rules | `(tactic| walk_at "side") => `(tactic| first
  | rfl
  | (walk_at "lk")
  | exact SqL.of (by walk_at "lk")
  | exact SqT.of (by walk_at "lk")
  | exact .inl (SqL.of (by walk_at "lk"))
  | exact .inr (SqT.of (by walk_at "lk"))
  | exact .inl ⟨rfl, _, SqL.of (by walk_at "lk")⟩
  | exact ⟨_, rfl⟩
  | exact ⟨_, SqL.of (by walk_at "lk")⟩
  | exact ⟨_, by assumption⟩
  | (walk_at "len")
  | omega)
local macro_rules | `(tactic| walk_at "go1") => `(tactic| first
  | (with_reducible refine iSeq ?_)
  | ((with_reducible apply iVar); exact rfl)
  | (with_reducible refine iC ?_)
  | (with_reducible refine iOp ?_)
  | (with_reducible refine iAsg ?_)
  | (with_reducible refine iName ?_)
  | (with_reducible refine iSub ?_)
  | (with_reducible refine iCons ?_)
  | (with_reducible refine iNil ?_)
  | (with_reducible refine iCB ?_)
  | (with_reducible refine iCall0 ?_)
  | (with_reducible refine iCall ?_)
  | (with_reducible refine iI0 ?_)
  | (with_reducible refine iU ?_)
  | (with_reducible refine iUn ?_)
  | (with_reducible refine iIfS ?_)
  | (with_reducible refine iB ?_)
  | (with_reducible refine iTest ?_)
  | (with_reducible refine iAnd ?_)
  | (with_reducible refine iOr ?_)
  | (with_reducible refine iNot ?_)
  | (with_reducible refine iAndV ?_)
  | (with_reducible refine iOrV ?_)
  | (with_reducible refine iNotV ?_)
  | (with_reducible refine iIfE ?_)
  | (with_reducible refine iRet ?_)
  | (with_reducible refine iRetN ?_)
  | (with_reducible refine iDrop ?_)
  | (with_reducible refine iNext ?_)
  | ((with_reducible apply iEq); exact rfl)
  | ((with_reducible apply iNe); exact rfl)
  | ((with_reducible apply iI); walk_at "cond")
  | (with_reducible refine iM1 ?_)
  | (with_reducible refine iBM ?_)
  | (with_reducible refine iSl ?_)
  | ((with_reducible apply iIxL); exact SqL.of (by walk_at "lk"); walk_at "ix")
  | ((with_reducible apply iIxT); exact SqT.of (by walk_at "lk"); walk_at "ix")
  | ((with_reducible apply iIxS); walk_at "num"; walk_at "ix")
  | ((with_reducible apply iSlTo); walk_at "num"; walk_at "toN")
  | ((with_reducible apply iSlFrom); walk_at "num"; walk_at "toN")
  | ((with_reducible apply iSlMid); walk_at "num"; walk_at "toN"; walk_at "toN")
  | ((with_reducible apply iSlS); walk_at "num")
  | ((with_reducible apply iAddS); walk_at "num")
  | ((with_reducible apply iLenS1); walk_at "num")
  | (with_reducible refine iInS ?_)
  | (with_reducible refine iNotInS ?_)
  | ((with_reducible apply iFindYes); assumption)
  | ((with_reducible apply iFindNo); assumption)
  | (with_reducible refine iFindS ?_)
  | (with_reducible refine iStartS ?_)
  | ((with_reducible apply iPartS); walk_at "num")
  | ((with_reducible apply iSetL); (walk_at "lk"); exact rfl; (walk_at "setq"))
  | (with_reducible refine iNoPart ?_)
  | (with_reducible refine iPart ?_)
  | (with_reducible refine iTup ?_)
  | (with_reducible refine iLst ?_)
  | (with_reducible refine isi_int_int ?_)
  | (with_reducible refine isi_int_bool ?_)
  | (with_reducible refine isi_int_str ?_)
  | (with_reducible refine isi_str_str ?_)
  | (with_reducible refine isi_str_int ?_)
  | (with_reducible refine isi_str_bool ?_)
  | (with_reducible refine isi_bl_bool ?_)
  | (with_reducible refine isi_bl_int ?_)
  | (with_reducible refine isi_bl_str ?_)
  | (with_reducible refine iFld ?_)
  | (with_reducible refine iSFld ?_)
  | (with_reducible refine iCon ?_)
  | (with_reducible refine iProp ?_)
  | (with_reducible refine iMeth0 ?_)
  | (with_reducible refine iMeth ?_)
  | (with_reducible refine iWT ?_)
  | (with_reducible refine iWF ?_)
  | ((with_reducible apply iInL); (walk_at "sq"); (walk_at "mapq"))
  | ((with_reducible apply iNInL); (walk_at "sq"); (walk_at "mapq"))
  | (with_reducible refine iLcL ?_)
  | (with_reducible refine iLcS ?_)
  | (with_reducible refine iLcR1 ?_)
  | (with_reducible refine iForL ?_)
  | (with_reducible refine iForS ?_)
  | (with_reducible refine iForR1 ?_)
  | (with_reducible refine iForR2 ?_)
  | (with_reducible refine iYes ?_)
  | ((with_reducible apply iSlL); (first | assumption | exact SqL.of (by walk_at "lk")))
  | ((with_reducible apply iCat); (walk_at "lk"); (walk_at "lk"); (walk_at "len"))
  | ((with_reducible apply iAppend); (walk_at "lk"); (walk_at "len"))
  | ((with_reducible apply iTruNil); exact SqL.of (by walk_at "lk"))
  | ((with_reducible apply iTruCons); exact SqL.of (by walk_at "lk"))
  | ((with_reducible apply iTruL); (first | assumption | exact SqL.of (by walk_at "lk")))
  | ((with_reducible apply iListT); (walk_at "num"))
  | (with_reducible refine iTT ?_)
  | (with_reducible refine iFF ?_)
  | (with_reducible refine iNTT ?_)
  | (with_reducible refine iNFF ?_)
  | ((with_reducible apply eSFld); (walk_at "lk"); assumption; assumption; (simp only [List.length_cons, List.length_nil]; decide); (walk_at "putq"))
  | (walk_at "proj")
  | (with_reducible apply Exists.intro)
  | ((with_reducible apply And.intro); exact rfl)
  | ((with_reducible apply And.intro); walk_at "side")
  | ((with_reducible apply Or.inl); (with_reducible apply Exists.intro); (with_reducible apply And.intro); exact rfl)
  | ((with_reducible apply Or.inr); (with_reducible apply Exists.intro); (with_reducible apply And.intro); exact rfl))
local macro_rules | `(tactic| walk_at "fr") => `(tactic| first
  | exact Fr.refl _ _
  | assumption
  | (refine Fr.trans ?_ Fr.in0; walk_at "fr")
  | (refine Fr.trans ?_ Fr.in1; walk_at "fr")
  | (refine Fr.trans ?_ Fr.in2; walk_at "fr")
  | (refine Fr.trans ?_ (Fr.upd_new (by assumption)); walk_at "fr")
  | (refine Fr.trans ?_ (Fr.of_same (by assumption)); walk_at "fr")
  | (refine Fr.trans ?_ (by assumption); walk_at "fr")
  | (refine Fr.trans ?_ (Fr.wk (by assumption)); walk_at "fr")
  | (refine Fr.trans ?_ (Fr.wk1 (by assumption)); walk_at "fr")
  | (refine Fr.trans ?_ (Fr.wk (Fr.wk (by assumption))); walk_at "fr"))
local macro_rules | `(tactic| walk_at "proj") => `(tactic| first
  | (with_reducible refine (show (Ends.mk _ _ _ _).nx _ _ from ?_); dsimp only)
  | (with_reducible refine (show (Ends.mk _ _ _ _).rt _ _ from ?_); dsimp only))
local macro_rules | `(tactic| walk_at "br0") => `(tactic| first
  | (with_reducible apply iBd)
  | (with_reducible apply iBnd)
  | (with_reducible apply iBb)
  | (with_reducible apply iBbn)
  | (with_reducible apply iWD)
  | (with_reducible apply iWDN))
local macro_rules | `(tactic| walk_at "dead") => `(tactic| first | (exfalso; omega) | contradiction)
local macro_rules | `(tactic| walk_at "br") => `(tactic| (walk_at "br0" <;> (intro hbr; (try simp only [V.str.injEq, V.int.injEq, V.bl.injEq, Vk.S_inj, reduceCtorEq, List.cons.injEq, and_true, not_true_eq_false, not_false_eq_true, decide_eq_true_eq, decide_eq_false_iff_not, Nat.reduceEqDiff, List.length_cons, List.length_nil, and_false, false_and, eq_self] at hbr); (try walk_at "dead"))))
local macro_rules | `(tactic| walk_at "new") => `(tactic| (refine fun (p : Addr) (hp : _ = none) => ?_))
local macro_rules | `(tactic| walk_at "go") => `(tactic| repeat' (first | walk_at "go1" | walk_at "br" | walk_at "new" | (refine fun (y z : V) => ?_)))
section
variable {a t c m k y : V}
theorem put_text : putF "text" y [("alphabet", a), ("text", t), ("caret", c), ("mark", m), ("kept", k)] = ([("alphabet", a), ("text", y), ("caret", c), ("mark", m), ("kept", k)] : List (Str × V)) := rfl
theorem put_caret : putF "caret" y [("alphabet", a), ("text", t), ("caret", c), ("mark", m), ("kept", k)] = ([("alphabet", a), ("text", t), ("caret", y), ("mark", m), ("kept", k)] : List (Str × V)) := rfl
theorem put_mark : putF "mark" y [("alphabet", a), ("text", t), ("caret", c), ("mark", m), ("kept", k)] = ([("alphabet", a), ("text", t), ("caret", c), ("mark", y), ("kept", k)] : List (Str × V)) := rfl
theorem put_kept : putF "kept" y [("alphabet", a), ("text", t), ("caret", c), ("mark", m), ("kept", k)] = ([("alphabet", a), ("text", t), ("caret", c), ("mark", m), ("kept", y)] : List (Str × V)) := rfl
end
local macro_rules | `(tactic| walk_at "putq") => `(tactic| first | exact put_text | exact put_caret | exact put_mark | exact put_kept)
def Pg.fs (al : Addr) (p : Pg) : List (Str × V) := [("alphabet", .ref al), ("text", .str (S p.t)), ("caret", .int (p.c : Int)), ("mark", optV p.m), ("kept", .str (S p.k))]
/-- a page of the program -/
def PgAt (C : Addr) (H : Hp) (pg dx al : Addr) (p : Pg) : Prop := H pg = some (.ins C dx (p.fs al))
theorem pg_mk {C pg dx al : Addr} {H : Hp} {t k : List Nat} {c : Nat} {m : Option Nat} {ci : Int} {mv : V} (h : H pg = some (.ins C dx [("alphabet", .ref al), ("text", .str (S t)), ("caret", .int ci), ("mark", mv), ("kept", .str (S k))])) (hc : ci = (c : Int)) (hm : mv = optV m) : PgAt C H pg dx al ⟨t, c, m, k⟩ := by
  subst hc hm
  exact h
/-- a key on its way through a page: the text so far, the rest behind -/
def insI (t s : List Nat) (c : Nat) (m : Option Nat) (k : List Nat) (i : Nat) : Pg := ⟨t.take c ++ s.take i ++ t.drop c, c + i, mk m (c + i), k⟩
def heldV (p : Pg) : V := match p.m with
  | none => .non
  | some i => .str (S ((p.t.take p.c).drop i))
theorem heldV_some {t k : List Nat} {c i : Nat} : heldV ⟨t, c, some i, k⟩ = .str (S ((t.take c).drop i)) := rfl
theorem ins_len {t z : List Nat} {c i : Nat} (hc : c ≤ t.length) (hi : i ≤ z.length) : (t.take c ++ z.take i).length = c + i := by
  rw [List.length_append, List.length_take, List.length_take]
  omega
theorem ins_step {t z : List Nat} {c i e : Nat} (hc : c ≤ t.length) (he : z[i]? = some e) :
    (t.take c ++ z.take i ++ t.drop c).take (c + i) ++ [e] ++ (t.take c ++ z.take i ++ t.drop c).drop (c + i) = t.take c ++ z.take (i + 1) ++ t.drop c := by
  have hi : i < z.length := (List.getElem?_eq_some_iff.mp he).1
  have hl := ins_len hc (Nat.le_of_lt hi)
  rw [← hl, List.take_left, List.drop_left, List.take_add_one, he]
  simp
section
variable {P : Program} {w : World} {K : PySem.W.Frag} {mg : Str → Option Value} {base : Heap} {a : Ad} {d : Fd}
def spGoOn (C : Addr) : Sp := fun vs H Q _ => ∃ (pg dx al : Addr) (p : Pg), vs = [.ref pg] ∧ PgAt C H pg dx al p ∧ ∀ (H' : Hp), PgAt C H' pg dx al (passP p 1) → Fr [pg] H H' → Q .non H'
theorem scGoOn : FnScope ["self"] ["self"] (defScope sGoOn) := ⟨rfl, rfl, rfl, by decide +kernel, rfl, by decide +kernel, by decide +kernel⟩
theorem ok_goOn (T : Fns K mg a d) : FnOk P w K mg base CX0 1 a.aGoOn d.dGoOn ["self"] (spGoOn a.cPage) := by
  have hcl := T.clP
  have hnA := T.nA
  have hnT := T.nT
  have hnC := T.nC
  have hnM := T.nM
  have hnK := T.nK
  refine T.FGoOn.ok scGoOn (fun vs H Q E h => ?_) (fun cdv A outer s H vs Q E hr h => ?_)
  · obtain ⟨pg, dx, al, p, rfl, _⟩ := h
    rfl
  · obtain ⟨pg, dx, al, ⟨t, c, m, kk⟩, rfl, ho, k⟩ := h
    have fin : ∀ (m' : Option Nat) (H' : Hp), mk m (c + 1) = m' → PgAt a.cPage H' pg dx al ⟨t, c + 1, m', kk⟩ → Fr [pg] H H' → Q .non H' := fun m' H' e h1 h2 => by
      subst e
      exact k H' h1 h2
    refine ⟨_, ((pss_cons (ps_fld (pv 0) (pe_op op_add (pe_fld (pv 0) rfl) pe_int) rfl)
      (pss_one (ps_if (PW.pt (pw_and (pt_cmpR op_notN (pe_fld (pv 0) rfl) pe_non (nomark _)) (pw_and1 (pt_cmpR op_gt (pe_op op_sub (pe_fld (pv 0) rfl) (pe_fld (pv 0) rfl)) (pe_glob (v := .int 2) (by rfl) T.gHold ⟨_, rfl⟩) (nomark _))))) (pss_one (ps_fld (pv 0) pe_non rfl)) pss_nil)))), ?_⟩
    cases m with
    | none =>
      have ho : H pg = some (.ins a.cPage dx [("alphabet", .ref al), ("text", .str (S t)), ("caret", .int (c : Int)), ("mark", .non), ("kept", .str (S kk))]) := ho
      walk_at "go"
      exact fin none _ (mk_none _) (pg_mk upd_same rfl rfl) (by walk_at "fr")
    | some i =>
      have ho : H pg = some (.ins a.cPage dx [("alphabet", .ref al), ("text", .str (S t)), ("caret", .int (c : Int)), ("mark", .int (i : Int)), ("kept", .str (S kk))]) := ho
      walk_at "go"
      · exact fin none _ (mk_lt (by omega)) (pg_mk upd_same rfl rfl) (by walk_at "fr")
      · exact fin (some i) _ (mk_ge (by omega)) (pg_mk upd_same rfl rfl) (by walk_at "fr")
def spHeld (C : Addr) : Sp := fun vs H Q _ => ∃ (pg dx al : Addr) (p : Pg), vs = [.ref pg] ∧ PgAt C H pg dx al p ∧ p.t.length ≤ 6000 ∧ Q (heldV p) H
theorem scHeld : FnScope ["self"] ["self"] (defScope sHeld) := ⟨rfl, rfl, rfl, by decide +kernel, rfl, by decide +kernel, by decide +kernel⟩
theorem ok_held (T : Fns K mg a d) : FnOk P w K mg base CX0 1 a.aHeld d.dHeld ["self"] (spHeld a.cPage) := by
  have hcl := T.clP
  have hnT := T.nT
  have hnC := T.nC
  have hnM := T.nM
  refine T.FHeld.ok scHeld (fun vs H Q E h => ?_) (fun cdv A outer s H vs Q E hr h => ?_)
  · obtain ⟨pg, dx, al, p, rfl, _⟩ := h
    rfl
  · obtain ⟨pg, dx, al, ⟨t, c, m, kk⟩, rfl, ho, ht, k⟩ := h
    have ht : t.length ≤ 6000 := ht
    refine ⟨_, ((pss_one (ps_ret (pe_ifExp (pt_cmpR op_isN (pe_fld (pv 0) rfl) pe_non (nomark _)) pe_non (pe_slice sl_str (pe_fld (pv 0) rfl) (po_some (pe_fld (pv 0) rfl)) (po_some (pe_fld (pv 0) rfl))))))), ?_⟩
    cases m with
    | none =>
      have ho : H pg = some (.ins a.cPage dx [("alphabet", .ref al), ("text", .str (S t)), ("caret", .int (c : Int)), ("mark", .non), ("kept", .str (S kk))]) := ho
      walk_at "go"
      exact k
    | some i =>
      have ho : H pg = some (.ins a.cPage dx [("alphabet", .ref al), ("text", .str (S t)), ("caret", .int (c : Int)), ("mark", .int (i : Int)), ("kept", .str (S kk))]) := ho
      walk_at "go"
      exact k
def spPutIn (C : Addr) : Sp := fun vs H Q _ => ∃ (pg dx al : Addr) (p : Pg) (s : List Nat), vs = [.ref pg, .str (S s)] ∧ PgAt C H pg dx al p ∧ p.ok ∧ s.length ≤ 1000 ∧ ∀ (H' : Hp), PgAt C H' pg dx al (insP p s) → Fr [pg] H H' → Q .non H'
theorem scPutIn : FnScope ["self", "signs", "sign"] ["self", "signs"] (defScope sPutIn) := ⟨rfl, rfl, rfl, by decide +kernel, rfl, by decide +kernel, by decide +kernel⟩
theorem ok_putIn (T : Fns K mg a d) : FnOk P w K mg base CX0 2 a.aPutIn d.dPutIn ["self", "signs"] (spPutIn a.cPage) := by
  have hcl := T.clP
  have hnT := T.nT
  have hnC := T.nC
  have GGoOn : FnOk P w K mg base CX0 1 a.aGoOn d.dGoOn ["self"] (spGoOn a.cPage) := ok_goOn T
  refine T.FPutIn.ok scPutIn (fun vs H Q E h => ?_) (fun cdv A outer s H vs Q E hr h => ?_)
  · obtain ⟨pg, dx, al, p, s, rfl, _⟩ := h
    rfl
  · obtain ⟨pg, dx, al, ⟨t, c, m, kk⟩, z, rfl, ho, ⟨hc, hm, ht, hk⟩, hz, k⟩ := h
    have ht : t.length ≤ 5000 := ht
    have hc : c ≤ t.length := hc
    have hm0 : mk m c = m := by
      cases m with
      | none => rfl
      | some i => exact mk_ge (by have := (hm i rfl).2; show ¬ i + 2 < c; exact Nat.not_lt.mpr this)
    refine ⟨_, ((pss_one (ps_for PassesOwn.never rfl (pi_str (pv 1)) (pg_name (i := 2) scPutIn.nd rfl (Or.inl rfl)) (pss_cons (ps_fld (pv 0) (pe_op op_addS (pe_op op_addS (pe_slice sl_str (pe_fld (pv 0) rfl) po_none (po_some (pe_fld (pv 0) rfl))) (pv 2)) (pe_slice sl_str (pe_fld (pv 0) rfl) (po_some (pe_fld (pv 0) rfl)) po_none)) rfl)
      (pss_one (ps_expr (pe_meth0 (pv 0) T.clP T.mGoOn GGoOn (hr.mono (by decide)) T.bGoOn .nil pass0))))))), ?_⟩
    refine ⟨_, rfl, S z, rfl, for_it walk_str (fun i σ H' => Stop (∃ v, σ = [some (.ref pg), some (.str (S z)), v] ∧ PgAt a.cPage H' pg dx al (insI t z c m kk i) ∧ Fr [pg] H H')) ⟨none, rfl, ?_, Fr.refl _ _⟩ (fun _ _ _ _ _ => trivial) ?_ ?_⟩
    · unfold insI
      rw [Nat.add_zero, hm0, List.take_zero, List.append_nil, List.take_append_drop]
      exact ho
    · rintro i x σ H1 H2 hi ⟨v, rfl, hp, hf⟩ ⟨rfl, e, he, rfl⟩
      rw [S_get] at he
      have hil : i < z.length := (List.getElem?_eq_some_iff.mp he).1
      unfold insI at hp
      rw [show (⟨#[e]⟩ : Str) = S [e] from rfl]
      have hp : H2 pg = some (.ins a.cPage dx [("alphabet", .ref al), ("text", .str (S (t.take c ++ z.take i ++ t.drop c))), ("caret", .int ((c + i : Nat) : Int)), ("mark", optV (mk m (c + i))), ("kept", .str (S kk))]) := hp
      have hl5 : (t.take c ++ z.take i ++ t.drop c).length ≤ 6000 := by
        rw [List.length_append, ins_len hc (Nat.le_of_lt hil), List.length_drop]
        omega
      walk_at "go"
      rw [ins_step hc he]
      refine ⟨pg, dx, al, ⟨t.take c ++ z.take (i + 1) ++ t.drop c, c + i, mk m (c + i), kk⟩, rfl, pg_mk upd_same rfl rfl, fun H' h1 h2 => ?_⟩
      refine ⟨some (.str (S [e])), rfl, ?_, by walk_at "fr"⟩
      have q : passP ⟨t.take c ++ z.take (i + 1) ++ t.drop c, c + i, mk m (c + i), kk⟩ 1 = insI t z c m kk (i + 1) := by
        unfold passP insI
        simp only [mk_mk m (show c + i ≤ c + i + 1 by omega)]
        rfl
      rw [← q]
      exact h1
    · rintro σ H' ⟨v, rfl, hp, hf⟩
      refine k H' ?_ hf
      rw [S_size] at hp
      have q : insI t z c m kk z.length = insP ⟨t, c, m, kk⟩ z := by
        unfold insP passP insI
        rw [List.take_length]
      rw [← q]
      exact hp
def spUntil (C : Addr) : Sp := fun vs H Q _ => ∃ (pg dx al : Addr) (p : Pg) (x : Nat), vs = [.ref pg, .str (S [x])] ∧ PgAt C H pg dx al p ∧ p.ok ∧ ∀ (H' : Hp), PgAt C H' pg dx al (passP p (n1 (p.t.drop p.c) x)) → Fr [pg] H H' → Q .non H'
theorem scUntil : FnScope ["self", "sign"] ["self", "sign"] (defScope sUntil) := ⟨rfl, rfl, rfl, by decide +kernel, rfl, by decide +kernel, by decide +kernel⟩
theorem ok_until (T : Fns K mg a d) : FnOk P w K mg base CX0 2 a.aUntil d.dUntil ["self", "sign"] (spUntil a.cPage) := by
  have hcl := T.clP
  have hnT := T.nT
  have hnC := T.nC
  have GGoOn : FnOk P w K mg base CX0 1 a.aGoOn d.dGoOn ["self"] (spGoOn a.cPage) := ok_goOn T
  refine T.FUntil.ok scUntil (fun vs H Q E h => ?_) (fun cdv A outer s H vs Q E hr h => ?_)
  · obtain ⟨pg, dx, al, p, x, rfl, _⟩ := h
    rfl
  · obtain ⟨pg, dx, al, ⟨t, c, m, kk⟩, x, rfl, ho, ⟨hc, hm, ht, hk⟩, k⟩ := h
    have ht : t.length ≤ 5000 := ht
    have hc : c ≤ t.length := hc
    have k : ∀ (H' : Hp), PgAt a.cPage H' pg dx al ⟨t, c + n1 (t.drop c) x, mk m (c + n1 (t.drop c) x), kk⟩ → Fr [pg] H H' → Q .non H' := k
    have hm0 : mk m c = m := by
      cases m with
      | none => rfl
      | some i => exact mk_ge (by have := (hm i rfl).2; show ¬ i + 2 < c; exact Nat.not_lt.mpr this)
    generalize hn : n1 (t.drop c) x = n at k
    have hnl : n ≤ t.length - c := by
      rw [← hn, ← List.length_drop]
      exact n1_le _ _
    refine ⟨_, ((pss_one (ps_while PassesOwn.never (PW.pt (pw_and (pt_cmpR op_lt (pe_fld (pv 0) rfl) (pe_callB call_lenS (by rfl) T.z_len (by decide +kernel) (pa_cons (pe_fld (pv 0) rfl) pa_nil)) (nomark _)) (pw_and1 (pt_cmpR op_ne (pe_ix ix_str (pe_fld (pv 0) rfl) (pe_fld (pv 0) rfl) (fun _ _ => rfl)) (pv 1) (nomark _))))) (pss_one (ps_expr (pe_meth0 (pv 0) T.clP T.mGoOn GGoOn (hr.mono (by decide)) T.bGoOn .nil pass0)))))), ?_⟩
    refine while_w (fun m' σ H' => Stop (∃ i, m' + i = n ∧ σ = [some (.ref pg), some (.str (S [x]))] ∧ PgAt a.cPage H' pg dx al ⟨t, c + i, mk m (c + i), kk⟩ ∧ Fr [pg] H H')) ⟨n, 0, rfl, rfl, ?_, Fr.refl _ _⟩ ?_
    · rw [Nat.add_zero, hm0]
      exact ho
    · rintro m' σ H1 ⟨i, hi, rfl, hp, hf⟩
      have hp1 : H1 pg = some (.ins a.cPage dx [("alphabet", .ref al), ("text", .str (S t)), ("caret", .int ((c + i : Nat) : Int)), ("mark", optV (mk m (c + i))), ("kept", .str (S kk))]) := hp
      have done : i = n → Q .non H1 := fun e => by
        subst e
        exact k H1 hp hf
      by_cases hlt : c + i < t.length
      · obtain ⟨e, he⟩ : ∃ e, t[c + i]? = some e := ⟨_, List.getElem?_eq_getElem hlt⟩
        have hat : atI t ((c + i : Nat) : Int) = some e := atI_nat he
        have hed : (t.drop c)[i]? = some e := by rw [List.getElem?_drop]; exact he
        walk_at "go"
        · rename_i h1 h2
          refine ⟨pg, dx, al, _, rfl, hp, fun H' h3 h4 => ?_⟩
          have hin : i < n := by
            rcases Nat.lt_or_ge i n with h | h
            · exact h
            · exfalso
              have e1 : i = n := by omega
              have hmem : x ∈ t.drop c := n1_mem.mpr (by rw [hn, List.length_drop]; omega)
              have q := n1_at hmem
              rw [hn, ← e1, hed] at q
              exact h2 (Option.some.inj q)
          refine ⟨m' - 1, by omega, i + 1, by omega, rfl, ?_, by walk_at "fr"⟩
          have q : passP ⟨t, c + i, mk m (c + i), kk⟩ 1 = ⟨t, c + (i + 1), mk m (c + (i + 1)), kk⟩ := by
            unfold passP
            simp only [mk_mk m (show c + i ≤ c + i + 1 by omega)]
            rfl
          rw [← q]
          exact h3
        · rename_i h1 h2
          refine done ?_
          rcases Nat.lt_or_ge i n with h | h
          · exfalso
            rw [← hn] at h
            refine n1_before h ?_
            rw [hed]
            exact congrArg some (by first | exact h2 | exact (List.cons.inj (S_inj.mp (V.str.inj h2))).1)
          · omega
      · walk_at "go"
        exact done (by omega)
end
end Vk

set_option Elab.async false
set_option linter.all false
set_option maxRecDepth 100000
set_option maxHeartbeats 4000000
namespace Vk
open PySem PySem.Spec PyProof.Rows L2
/-! the walk over a reading -/
open L2 in
local macro_rules | `(tactic| walk_at "lk") => `(tactic| first
  | assumption
  | exact upd_same
  | (refine upd_old (by assumption) ?_; walk_at "lk")
  | (refine upd_oth (by first | assumption | (apply Ne.symm; assumption)) ?_; walk_at "lk")
  | (refine Same.get (by assumption) ?_; walk_at "lk")
  | (refine Fr.get (by assumption) (by first | assumption | (simp only [List.mem_cons, List.not_mem_nil, or_false, not_or]; first | assumption | (refine ⟨?_, ?_⟩ <;> assumption) | (apply Ne.symm; assumption))) ?_; walk_at "lk"))
local macro_rules | `(tactic| walk_at "len") => `(tactic| first
  | (simp only [List.length_cons, List.length_nil, sizeLine_eq]; omega)
  | (simp only [S_len, sizeLine_eq]; omega)
  | (simp only [S_len, sizeLine_eq, List.length_take, List.length_drop, List.length_append, List.length_cons, List.length_nil]; omega))
local macro_rules | `(tactic| walk_at "num") => `(tactic| first | assumption | omega | (simp only [List.length_take, List.length_drop, List.length_append, List.length_cons, List.length_nil]; omega))
local macro_rules | `(tactic| walk_at "ix") => `(tactic| first | exact rfl | assumption | exact atI_nat (by assumption))
local macro_rules | `(tactic| walk_at "putq") => `(tactic| exact rfl)
local macro_rules | `(tactic| walk_at "sq") => `(tactic| first
  | exact .inr (by assumption)
  | exact .inl (by assumption)
  | exact .inl (SqL.of (by walk_at "lk"))
  | exact .inr (SqT.of (by walk_at "lk")))
local macro_rules | `(tactic| walk_at "mapq") => `(tactic| first
  | exact rfl
  | exact (rfl : _ = List.map (fun l => V.str (S l)) [_])
  | exact (rfl : _ = List.map (fun l => V.str (S l)) [_, _])
  | exact (rfl : _ = List.map (fun l => V.str (S l)) [_, _, _])
  | exact (rfl : _ = List.map (fun l => V.str (S l)) [_, _, _, _])
  | exact (rfl : _ = List.map (fun l => V.str (S l)) [_, _, _, _, _]))
local macro_rules | `(tactic| walk_at "setq") => `(tactic| ((try simp only [Int.reduceToNat, List.set_cons_succ, List.set_cons_zero]); exact rfl))
local macro_rules | `(tactic| walk_at "toN") => `(tactic| first | exact rfl | exact (Int.natCast_add _ _).symm | exact (Int.natCast_add _ 1).symm)
local macro_rules | `(tactic| walk_at "cond") => `(tactic| first | omega | (simp only [List.length_map]; omega) | (refine Or.inl ⟨?_, ?_⟩ <;> omega) | (refine Or.inr ⟨?_, ?_⟩ <;> omega) | (refine ⟨?_, ?_⟩ <;> omega))
local macro_rules | `(tactic| walk_at "side") => `(tactic| first
  | rfl
  | (walk_at "lk")
  | exact SqL.of (by walk_at "lk")
  | exact SqT.of (by walk_at "lk")
  | exact .inl (SqL.of (by walk_at "lk"))
  | exact .inr (SqT.of (by walk_at "lk"))
  | exact .inl ⟨rfl, _, SqL.of (by walk_at "lk")⟩
  | exact ⟨_, rfl⟩
  | exact ⟨_, SqL.of (by walk_at "lk")⟩
  | exact ⟨_, by assumption⟩
  | (walk_at "len")
  | omega)
local macro_rules | `(tactic| walk_at "go1") => `(tactic| first
  | (with_reducible refine iSeq ?_)
  | ((with_reducible apply iVar); exact rfl)
  | (with_reducible refine iC ?_)
  | (with_reducible refine iOp ?_)
  | (with_reducible refine iAsg ?_)
  | (with_reducible refine iName ?_)
  | (with_reducible refine iSub ?_)
  | (with_reducible refine iCons ?_)
  | (with_reducible refine iNil ?_)
  | (with_reducible refine iCB ?_)
  | (with_reducible refine iCall0 ?_)
  | (with_reducible refine iCall ?_)
  | (with_reducible refine iI0 ?_)
  | (with_reducible refine iU ?_)
  | (with_reducible refine iUn ?_)
  | (with_reducible refine iIfS ?_)
  | (with_reducible refine iB ?_)
  | (with_reducible refine iTest ?_)
  | (with_reducible refine iAnd ?_)
  | (with_reducible refine iOr ?_)
  | (with_reducible refine iNot ?_)
  | (with_reducible refine iAndV ?_)
  | (with_reducible refine iOrV ?_)
  | (with_reducible refine iNotV ?_)
  | (with_reducible refine iIfE ?_)
  | (with_reducible refine iRet ?_)
  | (with_reducible refine iRetN ?_)
  | (with_reducible refine iDrop ?_)
  | (with_reducible refine iNext ?_)
  | ((with_reducible apply iEq); exact rfl)
  | ((with_reducible apply iNe); exact rfl)
  | ((with_reducible apply iI); walk_at "cond")
  | (with_reducible refine iM1 ?_)
  | (with_reducible refine iBM ?_)
  | (with_reducible refine iSl ?_)
  | ((with_reducible apply iIxL); exact SqL.of (by walk_at "lk"); walk_at "ix")
  | ((with_reducible apply iIxT); exact SqT.of (by walk_at "lk"); walk_at "ix")
  | ((with_reducible apply iIxS); walk_at "num"; walk_at "ix")
  | ((with_reducible apply iSlTo); walk_at "num"; walk_at "toN")
  | ((with_reducible apply iSlFrom); walk_at "num"; walk_at "toN")
  | ((with_reducible apply iSlMid); walk_at "num"; walk_at "toN"; walk_at "toN")
  | ((with_reducible apply iSlS); walk_at "num")
  | ((with_reducible apply iAddS); walk_at "num")
  | ((with_reducible apply iLenS1); walk_at "num")
  | (with_reducible refine iInS ?_)
  | (with_reducible refine iNotInS ?_)
  | ((with_reducible apply iFindYes); assumption)
  | ((with_reducible apply iFindNo); assumption)
  | (with_reducible refine iFindS ?_)
  | (with_reducible refine iStartS ?_)
  | ((with_reducible apply iPartS); walk_at "num")
  | ((with_reducible apply iSetL); (walk_at "lk"); exact rfl; (walk_at "setq"))
  | (with_reducible refine iNoPart ?_)
  | (with_reducible refine iPart ?_)
  | (with_reducible refine iTup ?_)
  | (with_reducible refine iLst ?_)
  | (with_reducible refine isi_int_int ?_)
  | (with_reducible refine isi_int_bool ?_)
  | (with_reducible refine isi_int_str ?_)
  | (with_reducible refine isi_str_str ?_)
  | (with_reducible refine isi_str_int ?_)
  | (with_reducible refine isi_str_bool ?_)
  | (with_reducible refine isi_bl_bool ?_)
  | (with_reducible refine isi_bl_int ?_)
  | (with_reducible refine isi_bl_str ?_)
  | (with_reducible refine iFld ?_)
  | (with_reducible refine iSFld ?_)
  | (with_reducible refine iCon ?_)
  | (with_reducible refine iProp ?_)
  | (with_reducible refine iMeth0 ?_)
  | (with_reducible refine iMeth ?_)
  | (with_reducible refine iWT ?_)
  | (with_reducible refine iWF ?_)
  | ((with_reducible apply iInL); (walk_at "sq"); (walk_at "mapq"))
  | ((with_reducible apply iNInL); (walk_at "sq"); (walk_at "mapq"))
  | (with_reducible refine iLcL ?_)
  | (with_reducible refine iLcS ?_)
  | (with_reducible refine iLcR1 ?_)
  | (with_reducible refine iForL ?_)
  | (with_reducible refine iForS ?_)
  | (with_reducible refine iForR1 ?_)
  | (with_reducible refine iForR2 ?_)
  | (with_reducible refine iYes ?_)
  | ((with_reducible apply iSlL); (first | assumption | exact SqL.of (by walk_at "lk")))
  | ((with_reducible apply iCat); (walk_at "lk"); (walk_at "lk"); (walk_at "len"))
  | ((with_reducible apply iAppend); (walk_at "lk"); (walk_at "len"))
  | ((with_reducible apply iTruNil); exact SqL.of (by walk_at "lk"))
  | ((with_reducible apply iTruCons); exact SqL.of (by walk_at "lk"))
  | ((with_reducible apply iTruL); (first | assumption | exact SqL.of (by walk_at "lk")))
  | ((with_reducible apply iListT); (walk_at "num"))
  | (with_reducible refine iTT ?_)
  | (with_reducible refine iFF ?_)
  | (with_reducible refine iNTT ?_)
  | (with_reducible refine iNFF ?_)
  | ((with_reducible apply eSFld); (walk_at "lk"); assumption; assumption; (simp only [List.length_cons, List.length_nil]; decide); (walk_at "putq"))
  | (walk_at "proj")
  | (with_reducible apply Exists.intro)
  | ((with_reducible apply And.intro); exact rfl)
  | ((with_reducible apply And.intro); walk_at "side")
  | ((with_reducible apply Or.inl); (with_reducible apply Exists.intro); (with_reducible apply And.intro); exact rfl)
  | ((with_reducible apply Or.inr); (with_reducible apply Exists.intro); (with_reducible apply And.intro); exact rfl))
local macro_rules | `(tactic| walk_at "fr") => `(tactic| first
  | exact Fr.refl _ _
  | assumption
  | (refine Fr.trans ?_ Fr.in0; walk_at "fr")
  | (refine Fr.trans ?_ Fr.in1; walk_at "fr")
  | (refine Fr.trans ?_ Fr.in2; walk_at "fr")
  | (refine Fr.trans ?_ (Fr.upd_new (by assumption)); walk_at "fr")
  | (refine Fr.trans ?_ (Fr.of_same (by assumption)); walk_at "fr")
  | (refine Fr.trans ?_ (by assumption); walk_at "fr")
  | (refine Fr.trans ?_ (Fr.wk (by assumption)); walk_at "fr")
  | (refine Fr.trans ?_ (Fr.wk1 (by assumption)); walk_at "fr")
  | (refine Fr.trans ?_ (Fr.wk (Fr.wk (by assumption))); walk_at "fr"))
local macro_rules | `(tactic| walk_at "proj") => `(tactic| first
  | (with_reducible refine (show (Ends.mk _ _ _ _).nx _ _ from ?_); dsimp only)
  | (with_reducible refine (show (Ends.mk _ _ _ _).rt _ _ from ?_); dsimp only))
local macro_rules | `(tactic| walk_at "br0") => `(tactic| first
  | (with_reducible apply iBd)
  | (with_reducible apply iBnd)
  | (with_reducible apply iBb)
  | (with_reducible apply iBbn)
  | (with_reducible apply iWD)
  | (with_reducible apply iWDN))
local macro_rules | `(tactic| walk_at "dead") => `(tactic| first | (exfalso; omega) | contradiction)
local macro_rules | `(tactic| walk_at "br") => `(tactic| (walk_at "br0" <;> (intro hbr; (try simp only [V.str.injEq, V.int.injEq, V.bl.injEq, Vk.S_inj, reduceCtorEq, List.cons.injEq, and_true, not_true_eq_false, not_false_eq_true, decide_eq_true_eq, decide_eq_false_iff_not, Nat.reduceEqDiff, List.length_cons, List.length_nil, and_false, false_and, eq_self] at hbr); (try walk_at "dead"))))
local macro_rules | `(tactic| walk_at "new") => `(tactic| (refine fun (p : Addr) (hp : _ = none) => ?_))
local macro_rules | `(tactic| walk_at "go") => `(tactic| repeat' (first | walk_at "go1" | walk_at "br" | walk_at "new" | (refine fun (y z : V) => ?_)))
local macro_rules | `(tactic| walk_at "putq") => `(tactic| first | exact put_text | exact put_caret | exact put_mark | exact put_kept)
def plain1 : List (List Nat) := [[62], [120], [119], [94], [109], [107], [99], [112]]
def keyB (sg key : List Nat) : Bool := decide (key ∈ plain1) || (match key with | [h, c] => decide (h ∈ signL) && decide (c ∈ sg) | _ => false)
theorem keyB_of {sg key : List Nat} (h : keyB sg key = true) : (∃ x, key = [x] ∧ x ∈ plainL) ∨ ∃ x c, key = [x, c] ∧ x ∈ signL ∧ c ∈ sg := by
  unfold keyB at h
  rcases Bool.or_eq_true_iff.mp h with h | h
  · have h := of_decide_eq_true h
    simp only [plain1, List.mem_cons, List.not_mem_nil, or_false] at h
    rcases h with rfl | rfl | rfl | rfl | rfl | rfl | rfl | rfl <;> exact .inl ⟨_, rfl, by decide⟩
  · split at h
    · obtain ⟨h1, h2⟩ := Bool.and_eq_true_iff.mp h
      exact .inr ⟨_, _, rfl, of_decide_eq_true h1, of_decide_eq_true h2⟩
    · cases h
section
variable {P : Program} {w : World} {K : PySem.W.Frag} {mg : Str → Option Value} {base : Heap} {a : Ad} {d : Fd}
def spIsKey (C : Addr) : Sp := fun vs H Q _ => ∃ (al : Addr) (l v key : List Nat), vs = [.ref al, .str (S key)] ∧ IsAl C H al l v ∧ key.length ≤ 1000 ∧ Q (.bl (keyB (45 :: srtL l) key)) H
theorem scPIsKey : FnScope ["alphabet", "key"] ["alphabet", "key"] (defScope sPIsKey) := ⟨rfl, rfl, rfl, by decide +kernel, rfl, by decide +kernel, by decide +kernel⟩
theorem ok_isKey (T : Fns K mg a d) : FnOk P w K mg base CX0 1 a.aPIsKey d.dPIsKey ["alphabet", "key"] (spIsKey a.cAlphabet) := by
  have hcl := T.clA
  have hnS := T.nS
  refine T.FPIsKey.ok scPIsKey (fun vs H Q E h => ?_) (fun cdv A outer s H vs Q E hr h => ?_)
  · obtain ⟨al, l, v, key, rfl, _⟩ := h
    rfl
  · obtain ⟨al, l, v, key, rfl, ⟨dx, hal⟩, hkl, k⟩ := h
    have t1 := T.tPlain H
    have t2 := T.tSign H
    have s1 : ∀ {us : List (List Nat)} {p : Addr}, SqT K H p (us.map fun l => V.str (S l)) → SqL K H p (us.map fun l => V.str (S l)) ∨ SqT K H p (us.map fun l => V.str (S l)) := fun h => .inr h
    refine ⟨_, ((pss_one (ps_ret (pe_or (pe_cmpR op_in_seq (pv 1) (pe_glob (v := .ref a.kPlain) (by rfl) T.gPlain rfl) rfl) (pe_one (pe_and (pe_cmpR op_eq (pe_callB call_lenS (by rfl) T.z_len (by decide +kernel) (pa_cons (pv 1) pa_nil)) pe_int (nomark _)) (pe_and (pe_cmpR op_in_seq (pe_ix ix_str (pv 1) pe_int (fun _ _ => rfl)) (pe_glob (v := .ref a.kSign) (by rfl) T.gSign rfl) rfl) (pe_one (pe_cmpR op_inS (pe_ix ix_str (pv 1) pe_int (fun _ _ => rfl)) (pe_fld (pv 0) rfl) rfl))))))))), ?_⟩
    have fin : ∀ b : Bool, b = keyB (45 :: srtL l) key → Q (.bl b) H := fun b e => by
      rw [e]
      exact k
    clear k
    have hal : H al = some (.ins a.cAlphabet dx [("letters", .str (S (srtL l))), ("vowels", .str (S (srtL v))), ("consonants", .str (S (consL l v))), ("signs", .str (S (45 :: srtL l)))]) := hal
    generalize srtL l = sl at *
    rcases key with _ | ⟨k0, _ | ⟨k1, _ | ⟨k2, r⟩⟩⟩
    · walk_at "go"
      all_goals exact fin _ (by simp_all [keyB, plain1, signL])
    · walk_at "go"
      all_goals exact fin _ (by simp_all [keyB, plain1, signL])
    · have e0 : atI [k0, k1] 0 = some k0 := rfl
      have e1 : atI [k0, k1] 1 = some k1 := rfl
      walk_at "go"
      all_goals exact fin _ (by simp_all [keyB, plain1, signL])
    · walk_at "go"
      all_goals exact fin _ (by simp_all [keyB, plain1, signL])
def spWill (C CA : Addr) : Sp := fun vs H Q _ => ∃ (pg dx al : Addr) (p : Pg) (l v key : List Nat) (h c : Nat), vs = [.ref pg, .str (S key)] ∧ PgAt C H pg dx al p ∧ p.ok ∧ IsAl CA H al l v ∧ IsKey key h c ∧ ∀ H', Same H H' → Q (.bl (pressP p h c).1) H'
theorem scWillWork : FnScope ["self", "key", "ahead"] ["self", "key"] (defScope sWillWork) := ⟨rfl, rfl, rfl, by decide +kernel, rfl, by decide +kernel, by decide +kernel⟩
theorem ok_will (T : Fns K mg a d) : FnOk P w K mg base CX0 1 a.aWillWork d.dWillWork ["self", "key"] (spWill a.cPage a.cAlphabet) := by
  have hcl := T.clP
  have hnA := T.nA
  have hnT := T.nT
  have hnC := T.nC
  have hnM := T.nM
  have hnK := T.nK
  have hcA := T.clA
  have hjt := T.tj
  refine T.FWillWork.ok scWillWork (fun vs H Q E h => ?_) (fun cdv A outer s H vs Q E hr h => ?_)
  · obtain ⟨pg, dx, al, p, l, v, key, h, c, rfl, _⟩ := h
    rfl
  · obtain ⟨pg, dx, al, ⟨t, cc, m, kk⟩, l, v, key, h, x, rfl, ho, ⟨hc, hm, ht, hk⟩, ⟨dxa, hal⟩, hkey, k⟩ := h
    have ht : t.length ≤ 5000 := ht
    have hc : cc ≤ t.length := hc
    have fin : ∀ (b : Bool) (H' : Hp), b = (pressP ⟨t, cc, m, kk⟩ h x).1 → Fr [] H H' → Q (.bl b) H' := fun b H' e s => by
      rw [e]
      exact k H' s.same
    clear k
    have hal : H al = some (.ins a.cAlphabet dxa [("letters", .str (S (srtL l))), ("vowels", .str (S (srtL v))), ("consonants", .str (S (consL l v))), ("signs", .str (S (45 :: srtL l)))]) := hal
    refine ⟨_, ((pss_cons (ps_set (i := 2) scWillWork.nd rfl (Or.inl rfl) (pe_slice sl_str (pe_fld (pv 0) rfl) (po_some (pe_fld (pv 0) rfl)) po_none))
      (pss_cons (ps_if (pt_cmpR op_in_seq (pv 1) (pe_tup (pa_cons (pe_strS (l := [62]) (by decide +kernel)) (pa_cons (pe_strS (l := [120]) (by decide +kernel)) pa_nil))) rfl) (pss_one (ps_ret (pe_cmpR op_ne (pv 2) (pe_strS (l := []) (by decide +kernel)) (nomark _)))) pss_nil)
      (pss_cons (ps_if (pt_cmpR op_eq (pe_ix ix_str (pv 1) pe_int (fun _ _ => rfl)) (pe_strS (l := [61]) (by decide +kernel)) (nomark _)) (pss_one (ps_ret (pe_m1 F.slot_str_startswith F.type_str_startswith mt_startS (pv 2) (pe_ix ix_str (pv 1) pe_int (fun _ _ => rfl))))) pss_nil)
      (pss_cons (ps_if (pt_cmpR op_eq (pe_ix ix_str (pv 1) pe_int (fun _ _ => rfl)) (pe_strS (l := [47]) (by decide +kernel)) (nomark _)) (pss_one (ps_ret (pe_cmpR op_inS (pe_ix ix_str (pv 1) pe_int (fun _ _ => rfl)) (pv 2) rfl))) pss_nil)
      (pss_cons (ps_if (pt_cmpR op_eq (pv 1) (pe_strS (l := [94]) (by decide +kernel)) (nomark _)) (pss_one (ps_ret (pe_or (pe_cmpR op_eq (pe_fld (pv 0) rfl) pe_int (nomark _)) (pe_one (pe_cmpR op_eq (pe_ix ix_str (pe_fld (pv 0) rfl) (pe_op op_sub (pe_fld (pv 0) rfl) pe_int) (fun _ _ => rfl)) (pe_con (pe_fld (pv 0) rfl) rfl) (nomark _)))))) pss_nil)
      (pss_cons (ps_if (pt_cmpR op_in_seq (pv 1) (pe_tup (pa_cons (pe_strS (l := [107]) (by decide +kernel)) (pa_cons (pe_strS (l := [99]) (by decide +kernel)) pa_nil))) rfl) (pss_one (ps_ret (pe_cmpR op_notN (pe_fld (pv 0) rfl) pe_non (nomark _)))) pss_nil)
      (pss_one (ps_ret (pe_or (pe_cmpR op_ne (pv 1) (pe_strS (l := [112]) (by decide +kernel)) (nomark _)) (pe_one (pe_cmpR op_ne (pe_fld (pv 0) rfl) (pe_strS (l := []) (by decide +kernel)) (nomark _))))))))))))), ?_⟩
    have hat : ∀ h : 0 < cc, atI t ((cc : Int) - 1) = some (t[cc - 1]'(by omega)) := fun h => by
      have e : (cc : Int) - 1 = ((cc - 1 : Nat) : Int) := by omega
      rw [e]
      exact atI_nat (List.getElem?_eq_getElem (by omega))
    have hd1 : ∀ y : Nat, ((t.drop cc)[0]? = some y) = ((t.drop cc).take 1 = [y]) := fun y => by
      cases t.drop cc <;> simp
    have ho : H pg = some (.ins a.cPage dx [("alphabet", .ref al), ("text", .str (S t)), ("caret", .int (cc : Int)), ("mark", optV m), ("kept", .str (S kk))]) := ho
    have hmn : ∀ h, h = 107 ∨ h = 99 → (!decide (optV m = V.non)) = (pressP ⟨t, cc, m, kk⟩ h x).1 := fun h e => by
      rcases e with rfl | rfl <;> cases m <;> simp [pressP, optV]
    have hS : ∀ u : List Nat, (V.str (S u) = V.str (S [])) = (u = []) := fun u => by rw [V.str.injEq, S_inj]
    rcases hkey with ⟨rfl, hh⟩ | ⟨rfl, hh⟩
    · simp only [plainL, List.mem_cons, List.not_mem_nil, or_false] at hh
      rcases hh with rfl | rfl | rfl | rfl | rfl | rfl | rfl | rfl
      · walk_at "go"
        exact fin _ _ (by by_cases e : t.drop cc = [] <;> simp [pressP, hS, e]) (by walk_at "fr")
      · walk_at "go"
        exact fin _ _ (by by_cases e : t.drop cc = [] <;> simp [pressP, hS, e]) (by walk_at "fr")
      · walk_at "go"
        exact fin _ _ (by simp [pressP]) (by walk_at "fr")
      · by_cases h0 : cc = 0
        · subst h0
          walk_at "go"
          exact fin _ _ (by simp [pressP]) (by walk_at "fr")
        · have hat1 := hat (by omega)
          walk_at "go"
          exact fin _ _ (by simp [pressP, S_inj, h0, List.getElem?_eq_getElem (show cc - 1 < t.length by omega)]) (by walk_at "fr")
      · walk_at "go"
        exact fin _ _ (by simp [pressP]) (by walk_at "fr")
      · walk_at "go"
        exact fin _ _ (hmn 107 (.inl rfl)) (by walk_at "fr")
      · walk_at "go"
        exact fin _ _ (hmn 99 (.inr rfl)) (by walk_at "fr")
      · walk_at "go"
        exact fin _ _ (by by_cases e : kk = [] <;> simp [pressP, hS, e]) (by walk_at "fr")
    · simp only [signL, List.mem_cons, List.not_mem_nil, or_false] at hh
      rcases hh with rfl | rfl | rfl
      · walk_at "go"
        exact fin _ _ (by simp [pressP]) (by walk_at "fr")
      · walk_at "go"
        exact fin _ _ (by simp only [pressP, Nat.reduceEqDiff, if_false, if_true, hd1]) (by walk_at "fr")
      · walk_at "go"
        exact fin _ _ (by simp [pressP]) (by walk_at "fr")
end
end Vk

set_option Elab.async false
set_option linter.all false
set_option maxRecDepth 100000
set_option maxHeartbeats 4000000
namespace Vk
open PySem PySem.Spec PyProof.Rows L2
/-! the walk over a reading -/
open L2 in
local macro_rules | `(tactic| walk_at "lk") => `(tactic| first
  | assumption
  | exact upd_same
  | (refine upd_old (by assumption) ?_; walk_at "lk")
  | (refine upd_oth (by first | assumption | (apply Ne.symm; assumption)) ?_; walk_at "lk")
  | (refine Same.get (by assumption) ?_; walk_at "lk")
  | (refine Fr.get (by assumption) (by first | assumption | (simp only [List.mem_cons, List.not_mem_nil, or_false, not_or]; first | assumption | (refine ⟨?_, ?_⟩ <;> assumption) | (apply Ne.symm; assumption))) ?_; walk_at "lk"))
local macro_rules | `(tactic| walk_at "len") => `(tactic| first
  | (simp only [List.length_cons, List.length_nil, sizeLine_eq]; omega)
  | (simp only [S_len, sizeLine_eq]; omega)
  | (simp only [S_len, sizeLine_eq, List.length_take, List.length_drop, List.length_append, List.length_cons, List.length_nil]; omega))
local macro_rules | `(tactic| walk_at "num") => `(tactic| first | assumption | omega | (simp only [List.length_take, List.length_drop, List.length_append, List.length_cons, List.length_nil]; omega))
local macro_rules | `(tactic| walk_at "ix") => `(tactic| first | exact rfl | assumption | exact atI_nat (by assumption))
local macro_rules | `(tactic| walk_at "putq") => `(tactic| exact rfl)
local macro_rules | `(tactic| walk_at "sq") => `(tactic| first
  | exact .inr (by assumption)
  | exact .inl (by assumption)
  | exact .inl (SqL.of (by walk_at "lk"))
  | exact .inr (SqT.of (by walk_at "lk")))
local macro_rules | `(tactic| walk_at "mapq") => `(tactic| first
  | exact rfl
  | exact (rfl : _ = List.map (fun l => V.str (S l)) [_])
  | exact (rfl : _ = List.map (fun l => V.str (S l)) [_, _])
  | exact (rfl : _ = List.map (fun l => V.str (S l)) [_, _, _])
  | exact (rfl : _ = List.map (fun l => V.str (S l)) [_, _, _, _])
  | exact (rfl : _ = List.map (fun l => V.str (S l)) [_, _, _, _, _]))
local macro_rules | `(tactic| walk_at "setq") => `(tactic| ((try simp only [Int.reduceToNat, List.set_cons_succ, List.set_cons_zero]); exact rfl))
local macro_rules | `(tactic| walk_at "toN") => `(tactic| first | exact rfl | exact (Int.natCast_add _ _).symm | exact (Int.natCast_add _ 1).symm)
local macro_rules | `(tactic| walk_at "cond") => `(tactic| first | omega | (simp only [List.length_map]; omega) | (refine Or.inl ⟨?_, ?_⟩ <;> omega) | (refine Or.inr ⟨?_, ?_⟩ <;> omega) | (refine ⟨?_, ?_⟩ <;> omega))
local macro_rules | `(tactic| walk_at "side") => `(tactic| first
  | rfl
  | (walk_at "lk")
  | exact SqL.of (by walk_at "lk")
  | exact SqT.of (by walk_at "lk")
  | exact .inl (SqL.of (by walk_at "lk"))
  | exact .inr (SqT.of (by walk_at "lk"))
  | exact .inl ⟨rfl, _, SqL.of (by walk_at "lk")⟩
  | exact ⟨_, rfl⟩
  | exact ⟨_, SqL.of (by walk_at "lk")⟩
  | exact ⟨_, by assumption⟩
  | (walk_at "len")
  | omega)
local macro_rules | `(tactic| walk_at "go1") => `(tactic| first
  | (with_reducible refine iSeq ?_)
  | ((with_reducible apply iVar); exact rfl)
  | (with_reducible refine iC ?_)
  | (with_reducible refine iOp ?_)
  | (with_reducible refine iAsg ?_)
  | (with_reducible refine iName ?_)
  | (with_reducible refine iSub ?_)
  | (with_reducible refine iCons ?_)
  | (with_reducible refine iNil ?_)
  | (with_reducible refine iCB ?_)
  | (with_reducible refine iCall0 ?_)
  | (with_reducible refine iCall ?_)
  | (with_reducible refine iI0 ?_)
  | (with_reducible refine iU ?_)
  | (with_reducible refine iUn ?_)
  | (with_reducible refine iIfS ?_)
  | (with_reducible refine iB ?_)
  | (with_reducible refine iTest ?_)
  | (with_reducible refine iAnd ?_)
  | (with_reducible refine iOr ?_)
  | (with_reducible refine iNot ?_)
  | (with_reducible refine iAndV ?_)
  | (with_reducible refine iOrV ?_)
  | (with_reducible refine iNotV ?_)
  | (with_reducible refine iIfE ?_)
  | (with_reducible refine iRet ?_)
  | (with_reducible refine iRetN ?_)
  | (with_reducible refine iDrop ?_)
  | (with_reducible refine iNext ?_)
  | ((with_reducible apply iEq); exact rfl)
  | ((with_reducible apply iNe); exact rfl)
  | ((with_reducible apply iI); walk_at "cond")
  | (with_reducible refine iM1 ?_)
  | (with_reducible refine iBM ?_)
  | (with_reducible refine iSl ?_)
  | ((with_reducible apply iIxL); exact SqL.of (by walk_at "lk"); walk_at "ix")
  | ((with_reducible apply iIxT); exact SqT.of (by walk_at "lk"); walk_at "ix")
  | ((with_reducible apply iIxS); walk_at "num"; walk_at "ix")
  | ((with_reducible apply iSlTo); walk_at "num"; walk_at "toN")
  | ((with_reducible apply iSlFrom); walk_at "num"; walk_at "toN")
  | ((with_reducible apply iSlMid); walk_at "num"; walk_at "toN"; walk_at "toN")
  | ((with_reducible apply iSlS); walk_at "num")
  | ((with_reducible apply iAddS); walk_at "num")
  | ((with_reducible apply iLenS1); walk_at "num")
  | (with_reducible refine iInS ?_)
  | (with_reducible refine iNotInS ?_)
  | ((with_reducible apply iFindYes); assumption)
  | ((with_reducible apply iFindNo); assumption)
  | (with_reducible refine iFindS ?_)
  | (with_reducible refine iStartS ?_)
  | ((with_reducible apply iPartS); walk_at "num")
  | ((with_reducible apply iSetL); (walk_at "lk"); exact rfl; (walk_at "setq"))
  | (with_reducible refine iNoPart ?_)
  | (with_reducible refine iPart ?_)
  | (with_reducible refine iTup ?_)
  | (with_reducible refine iLst ?_)
  | (with_reducible refine isi_int_int ?_)
  | (with_reducible refine isi_int_bool ?_)
  | (with_reducible refine isi_int_str ?_)
  | (with_reducible refine isi_str_str ?_)
  | (with_reducible refine isi_str_int ?_)
  | (with_reducible refine isi_str_bool ?_)
  | (with_reducible refine isi_bl_bool ?_)
  | (with_reducible refine isi_bl_int ?_)
  | (with_reducible refine isi_bl_str ?_)
  | (with_reducible refine iFld ?_)
  | (with_reducible refine iSFld ?_)
  | (with_reducible refine iCon ?_)
  | (with_reducible refine iProp ?_)
  | (with_reducible refine iMeth0 ?_)
  | (with_reducible refine iMeth ?_)
  | (with_reducible refine iWT ?_)
  | (with_reducible refine iWF ?_)
  | ((with_reducible apply iInL); (walk_at "sq"); (walk_at "mapq"))
  | ((with_reducible apply iNInL); (walk_at "sq"); (walk_at "mapq"))
  | (with_reducible refine iLcL ?_)
  | (with_reducible refine iLcS ?_)
  | (with_reducible refine iLcR1 ?_)
  | (with_reducible refine iForL ?_)
  | (with_reducible refine iForS ?_)
  | (with_reducible refine iForR1 ?_)
  | (with_reducible refine iForR2 ?_)
  | (with_reducible refine iYes ?_)
  | ((with_reducible apply iSlL); (first | assumption | exact SqL.of (by walk_at "lk")))
  | ((with_reducible apply iCat); (walk_at "lk"); (walk_at "lk"); (walk_at "len"))
  | ((with_reducible apply iAppend); (walk_at "lk"); (walk_at "len"))
  | ((with_reducible apply iTruNil); exact SqL.of (by walk_at "lk"))
  | ((with_reducible apply iTruCons); exact SqL.of (by walk_at "lk"))
  | ((with_reducible apply iTruL); (first | assumption | exact SqL.of (by walk_at "lk")))
  | ((with_reducible apply iListT); (walk_at "num"))
  | (with_reducible refine iTT ?_)
  | (with_reducible refine iFF ?_)
  | (with_reducible refine iNTT ?_)
  | (with_reducible refine iNFF ?_)
  | ((with_reducible apply eSFld); (walk_at "lk"); assumption; assumption; (simp only [List.length_cons, List.length_nil]; decide); (walk_at "putq"))
  | (walk_at "proj")
  | (with_reducible apply Exists.intro)
  | ((with_reducible apply And.intro); exact rfl)
  | ((with_reducible apply And.intro); walk_at "side")
  | ((with_reducible apply Or.inl); (with_reducible apply Exists.intro); (with_reducible apply And.intro); exact rfl)
  | ((with_reducible apply Or.inr); (with_reducible apply Exists.intro); (with_reducible apply And.intro); exact rfl))
local macro_rules | `(tactic| walk_at "fr") => `(tactic| first
  | exact Fr.refl _ _
  | assumption
  | (refine Fr.trans ?_ Fr.in0; walk_at "fr")
  | (refine Fr.trans ?_ Fr.in1; walk_at "fr")
  | (refine Fr.trans ?_ Fr.in2; walk_at "fr")
  | (refine Fr.trans ?_ (Fr.upd_new (by assumption)); walk_at "fr")
  | (refine Fr.trans ?_ (Fr.of_same (by assumption)); walk_at "fr")
  | (refine Fr.trans ?_ (by assumption); walk_at "fr")
  | (refine Fr.trans ?_ (Fr.wk (by assumption)); walk_at "fr")
  | (refine Fr.trans ?_ (Fr.wk1 (by assumption)); walk_at "fr")
  | (refine Fr.trans ?_ (Fr.wk (Fr.wk (by assumption))); walk_at "fr"))
local macro_rules | `(tactic| walk_at "proj") => `(tactic| first
  | (with_reducible refine (show (Ends.mk _ _ _ _).nx _ _ from ?_); dsimp only)
  | (with_reducible refine (show (Ends.mk _ _ _ _).rt _ _ from ?_); dsimp only))
local macro_rules | `(tactic| walk_at "br0") => `(tactic| first
  | (with_reducible apply iBd)
  | (with_reducible apply iBnd)
  | (with_reducible apply iBb)
  | (with_reducible apply iBbn)
  | (with_reducible apply iWD)
  | (with_reducible apply iWDN))
local macro_rules | `(tactic| walk_at "dead") => `(tactic| first | (exfalso; omega) | contradiction)
local macro_rules | `(tactic| walk_at "br") => `(tactic| (walk_at "br0" <;> (intro hbr; (try simp only [V.str.injEq, V.int.injEq, V.bl.injEq, Vk.S_inj, reduceCtorEq, List.cons.injEq, and_true, not_true_eq_false, not_false_eq_true, decide_eq_true_eq, decide_eq_false_iff_not, Nat.reduceEqDiff, List.length_cons, List.length_nil, and_false, false_and, eq_self] at hbr); (try walk_at "dead"))))
local macro_rules | `(tactic| walk_at "new") => `(tactic| (refine fun (p : Addr) (hp : _ = none) => ?_))
local macro_rules | `(tactic| walk_at "go") => `(tactic| repeat' (first | walk_at "go1" | walk_at "br" | walk_at "new" | (refine fun (y z : V) => ?_)))
local macro_rules | `(tactic| walk_at "putq") => `(tactic| first | exact put_text | exact put_caret | exact put_mark | exact put_kept)
section
variable {P : Program} {w : World} {K : PySem.W.Frag} {mg : Str → Option Value} {base : Heap} {a : Ad} {d : Fd}
def spCarry (C CA : Addr) : Sp := fun vs H Q _ => ∃ (pg dx al : Addr) (p : Pg) (l v key : List Nat) (h c : Nat), vs = [.ref pg, .str (S key)] ∧ PgAt C H pg dx al p ∧ p.ok ∧ IsAl CA H al l v ∧ IsKey key h c ∧ ((pressP p h c).1 = true ∨ h = 47) ∧ ∀ H', PgAt C H' pg dx al (pressP p h c).2 → Fr [pg] H H' → Q .non H'
theorem scCarry : FnScope ["self", "key"] ["self", "key"] (defScope sCarry) := ⟨rfl, rfl, rfl, by decide +kernel, rfl, by decide +kernel, by decide +kernel⟩
theorem ok_carry (T : Fns K mg a d) : FnOk P w K mg base CX0 3 a.aCarry d.dCarry ["self", "key"] (spCarry a.cPage a.cAlphabet) := by
  have hcl := T.clP
  have hnA := T.nA
  have hnT := T.nT
  have hnC := T.nC
  have hnM := T.nM
  have hnK := T.nK
  have hcA := T.clA
  have hjt := T.tj
  have GGoOn : FnOk P w K mg base CX0 1 a.aGoOn d.dGoOn ["self"] (spGoOn a.cPage) := ok_goOn T
  have GHeld : FnOk P w K mg base CX0 1 a.aHeld d.dHeld ["self"] (spHeld a.cPage) := ok_held T
  have GPutIn : FnOk P w K mg base CX0 2 a.aPutIn d.dPutIn ["self", "signs"] (spPutIn a.cPage) := ok_putIn T
  have GUntil : FnOk P w K mg base CX0 2 a.aUntil d.dUntil ["self", "sign"] (spUntil a.cPage) := ok_until T
  refine T.FCarry.ok scCarry (fun vs H Q E h => ?_) (fun cdv A outer s H vs Q E hr h => ?_)
  · obtain ⟨pg, dx, al, p, l, v, key, h, c, rfl, _⟩ := h
    rfl
  · obtain ⟨pg, dx, al, ⟨t, cc, m, kk⟩, l, v, key, h, x, rfl, ho0, hok, ⟨dxa, hal⟩, hkey, hw, k⟩ := h
    obtain ⟨hc, hm, ht, hk⟩ := id hok
    have ht : t.length ≤ 5000 := ht
    have hc : cc ≤ t.length := hc
    have hk : kk.length ≤ 2 := hk
    have fin : ∀ (p' : Pg) (H' : Hp), (pressP ⟨t, cc, m, kk⟩ h x).2 = p' → PgAt a.cPage H' pg dx al p' → Fr [pg] H H' → Q .non H' := fun p' H' e h1 s => by
      subst e
      exact k H' h1 s
    clear k
    have hal : H al = some (.ins a.cAlphabet dxa [("letters", .str (S (srtL l))), ("vowels", .str (S (srtL v))), ("consonants", .str (S (consL l v))), ("signs", .str (S (45 :: srtL l)))]) := hal
    refine ⟨_, ((pss_one (ps_if (pt_cmpR op_eq (pv 1) (pe_strS (l := [62]) (by decide +kernel)) (nomark _)) (pss_one (ps_expr (pe_meth0 (pv 0) T.clP T.mGoOn GGoOn (hr.mono (by decide)) T.bGoOn .nil pass0))) (pss_one (ps_if (pt_cmpR op_eq (pv 1) (pe_strS (l := [120]) (by decide +kernel)) (nomark _)) (pss_one (ps_fld (pv 0) (pe_op op_addS (pe_slice sl_str (pe_fld (pv 0) rfl) po_none (po_some (pe_fld (pv 0) rfl))) (pe_slice sl_str (pe_fld (pv 0) rfl) (po_some (pe_op op_add (pe_fld (pv 0) rfl) pe_int)) po_none)) rfl)) (pss_one (ps_if (pt_cmpR op_eq (pe_ix ix_str (pv 1) pe_int (fun _ _ => rfl)) (pe_strS (l := [39]) (by decide +kernel)) (nomark _)) (pss_one (ps_expr (pe_meth (pv 0) T.clP T.mPutIn GPutIn (hr.mono (by decide)) T.bPutIn .nil pass0 (pa_cons (pe_ix ix_str (pv 1) pe_int (fun _ _ => rfl)) pa_nil)))) (pss_one (ps_if (pt_cmpR op_eq (pe_ix ix_str (pv 1) pe_int (fun _ _ => rfl)) (pe_strS (l := [47]) (by decide +kernel)) (nomark _)) (pss_one (ps_expr (pe_meth (pv 0) T.clP T.mUntil GUntil (hr.mono (by decide)) T.bUntil .nil pass0 (pa_cons (pe_ix ix_str (pv 1) pe_int (fun _ _ => rfl)) pa_nil)))) (pss_one (ps_if (pt_cmpR op_eq (pv 1) (pe_strS (l := [119]) (by decide +kernel)) (nomark _)) (pss_one (ps_expr (pe_meth (pv 0) T.clP T.mUntil GUntil (hr.mono (by decide)) T.bUntil .nil pass0 (pa_cons (pe_con (pe_fld (pv 0) rfl) rfl) pa_nil)))) (pss_one (ps_if (pt_cmpR op_eq (pv 1) (pe_strS (l := [109]) (by decide +kernel)) (nomark _)) (pss_one (ps_fld (pv 0) (pe_fld (pv 0) rfl) rfl)) (pss_one (ps_if (pt_cmpR op_eq (pv 1) (pe_strS (l := [112]) (by decide +kernel)) (nomark _)) (pss_one (ps_expr (pe_meth (pv 0) T.clP T.mPutIn GPutIn (hr.mono (by decide)) T.bPutIn .nil pass0 (pa_cons (pe_fld (pv 0) rfl) pa_nil)))) (pss_one (ps_if (pt_cmpR op_in_seq (pv 1) (pe_tup (pa_cons (pe_strS (l := [107]) (by decide +kernel)) (pa_cons (pe_strS (l := [99]) (by decide +kernel)) pa_nil))) rfl) (pss_cons (ps_fld (pv 0) (pe_prop (pv 0) T.clP T.prHeld GHeld (hr.mono (by decide)) T.bHeld .nil pass0 rfl) rfl)
      (pss_one (ps_if (pt_cmpR op_eq (pv 1) (pe_strS (l := [99]) (by decide +kernel)) (nomark _)) (pss_cons (ps_fld (pv 0) (pe_op op_addS (pe_slice sl_str (pe_fld (pv 0) rfl) po_none (po_some (pe_fld (pv 0) rfl))) (pe_slice sl_str (pe_fld (pv 0) rfl) (po_some (pe_fld (pv 0) rfl)) po_none)) rfl)
      (pss_one (ps_fld (pv 0) (pe_fld (pv 0) rfl) rfl))) pss_nil))) pss_nil))))))))))))))))), ?_⟩
    have ho : H pg = some (.ins a.cPage dx [("alphabet", .ref al), ("text", .str (S t)), ("caret", .int (cc : Int)), ("mark", optV m), ("kept", .str (S kk))]) := ho0
    rcases hkey with ⟨rfl, hh⟩ | ⟨rfl, hh⟩
    · simp only [plainL, List.mem_cons, List.not_mem_nil, or_false] at hh
      rcases hh with rfl | rfl | rfl | rfl | rfl | rfl | rfl | rfl
      · walk_at "go"
        refine ⟨pg, dx, al, ⟨t, cc, m, kk⟩, rfl, ho0, fun H' h1 h2 => ?_⟩
        have hne : t.drop cc ≠ [] := fun e => by simp [pressP, e] at hw
        exact fin _ _ (by simp [pressP, hne]) h1 h2
      · walk_at "go"
        have hne : t.drop cc ≠ [] := fun e => by simp [pressP, e] at hw
        exact fin ⟨t.take cc ++ (t.drop cc).drop 1, cc, m, kk⟩ _ (by simp only [pressP, Nat.reduceEqDiff, if_false, if_true, hne]) (pg_mk (by rw [List.drop_drop]; exact upd_same) rfl rfl) (by walk_at "fr")
      · walk_at "go"
        refine ⟨pg, dx, al, ⟨t, cc, m, kk⟩, 45, rfl, ho0, hok, fun H' h1 h2 => ?_⟩
        exact fin _ _ (by simp [pressP]) h1 h2
      · walk_at "go"
        rename_i p hp _
        exact fin ⟨t, cc, m, kk⟩ _ (by simp [pressP]) (upd_old hp ho0) (by walk_at "fr")
      · walk_at "go"
        exact fin ⟨t, cc, some cc, kk⟩ _ (by simp [pressP]) (pg_mk upd_same rfl rfl) (by walk_at "fr")
      · cases m with
        | none => exact absurd hw (by simp [pressP])
        | some i =>
          have ho : H pg = some (.ins a.cPage dx [("alphabet", .ref al), ("text", .str (S t)), ("caret", .int (cc : Int)), ("mark", .int (i : Int)), ("kept", .str (S kk))]) := ho0
          walk_at "go"
          rename_i p hp _
          refine ⟨pg, dx, al, ⟨t, cc, some i, kk⟩, rfl, upd_old hp ho0, by show t.length ≤ 6000; omega, ?_⟩
          rw [heldV_some]
          walk_at "go"
          exact fin ⟨t, cc, some i, (t.take cc).drop i⟩ _ (by simp [pressP]) (pg_mk upd_same rfl rfl) (by walk_at "fr")
      · cases m with
        | none => exact absurd hw (by simp [pressP])
        | some i =>
          have ho : H pg = some (.ins a.cPage dx [("alphabet", .ref al), ("text", .str (S t)), ("caret", .int (cc : Int)), ("mark", .int (i : Int)), ("kept", .str (S kk))]) := ho0
          walk_at "go"
          rename_i p hp _
          refine ⟨pg, dx, al, ⟨t, cc, some i, kk⟩, rfl, upd_old hp ho0, by show t.length ≤ 6000; omega, ?_⟩
          rw [heldV_some]
          walk_at "go"
          exact fin ⟨t.take i ++ t.drop cc, i, some i, (t.take cc).drop i⟩ _ (by simp [pressP]) (pg_mk upd_same rfl rfl) (by walk_at "fr")
      · walk_at "go"
        have hne : kk ≠ [] := fun e => by simp [pressP, e] at hw
        refine ⟨pg, dx, al, ⟨t, cc, m, kk⟩, kk, rfl, ho0, hok, by omega, fun H' h1 h2 => ?_⟩
        exact fin _ _ (by simp [pressP, hne]) h1 h2
    · simp only [signL, List.mem_cons, List.not_mem_nil, or_false] at hh
      rcases hh with rfl | rfl | rfl
      · walk_at "go"
        refine ⟨pg, dx, al, ⟨t, cc, m, kk⟩, [x], rfl, ho0, hok, by simp, fun H' h1 h2 => ?_⟩
        exact fin _ _ (by simp [pressP]) h1 h2
      · walk_at "go"
        rename_i p hp _
        exact fin ⟨t, cc, m, kk⟩ _ (by simp [pressP]) (upd_old hp ho0) (by walk_at "fr")
      · walk_at "go"
        refine ⟨pg, dx, al, ⟨t, cc, m, kk⟩, x, rfl, ho0, hok, fun H' h1 h2 => ?_⟩
        exact fin _ _ (by simp [pressP]) h1 h2
end
end Vk

set_option Elab.async false
set_option linter.all false
set_option maxRecDepth 100000
set_option maxHeartbeats 4000000
namespace Vk
open PySem PySem.Spec PyProof.Rows L2
/-! the walk over a reading -/
open L2 in
local macro_rules | `(tactic| walk_at "lk") => `(tactic| first
  | assumption
  | exact upd_same
  | (refine upd_old (by assumption) ?_; walk_at "lk")
  | (refine upd_oth (by first | assumption | (apply Ne.symm; assumption)) ?_; walk_at "lk")
  | (refine Same.get (by assumption) ?_; walk_at "lk")
  | (refine Fr.get (by assumption) (by first | assumption | (simp only [List.mem_cons, List.not_mem_nil, or_false, not_or]; first | assumption | (refine ⟨?_, ?_⟩ <;> assumption) | (apply Ne.symm; assumption))) ?_; walk_at "lk"))
local macro_rules | `(tactic| walk_at "len") => `(tactic| first
  | (simp only [List.length_cons, List.length_nil, sizeLine_eq]; omega)
  | (simp only [S_len, sizeLine_eq]; omega)
  | (simp only [S_len, sizeLine_eq, List.length_take, List.length_drop, List.length_append, List.length_cons, List.length_nil]; omega))
local macro_rules | `(tactic| walk_at "num") => `(tactic| first | assumption | omega | (simp only [List.length_take, List.length_drop, List.length_append, List.length_cons, List.length_nil]; omega))
local macro_rules | `(tactic| walk_at "ix") => `(tactic| first | exact rfl | assumption | exact atI_nat (by assumption))
local macro_rules | `(tactic| walk_at "putq") => `(tactic| exact rfl)
local macro_rules | `(tactic| walk_at "sq") => `(tactic| first
  | exact .inr (by assumption)
  | exact .inl (by assumption)
  | exact .inl (SqL.of (by walk_at "lk"))
  | exact .inr (SqT.of (by walk_at "lk")))
local macro_rules | `(tactic| walk_at "mapq") => `(tactic| first
  | exact rfl
  | exact (rfl : _ = List.map (fun l => V.str (S l)) [_])
  | exact (rfl : _ = List.map (fun l => V.str (S l)) [_, _])
  | exact (rfl : _ = List.map (fun l => V.str (S l)) [_, _, _])
  | exact (rfl : _ = List.map (fun l => V.str (S l)) [_, _, _, _])
  | exact (rfl : _ = List.map (fun l => V.str (S l)) [_, _, _, _, _]))
local macro_rules | `(tactic| walk_at "setq") => `(tactic| ((try simp only [Int.reduceToNat, List.set_cons_succ, List.set_cons_zero]); exact rfl))
local macro_rules | `(tactic| walk_at "toN") => `(tactic| first | exact rfl | exact (Int.natCast_add _ _).symm | exact (Int.natCast_add _ 1).symm)
local macro_rules | `(tactic| walk_at "cond") => `(tactic| first | omega | (simp only [List.length_map]; omega) | (refine Or.inl ⟨?_, ?_⟩ <;> omega) | (refine Or.inr ⟨?_, ?_⟩ <;> omega) | (refine ⟨?_, ?_⟩ <;> omega))
local macro_rules | `(tactic| walk_at "side") => `(tactic| first
  | rfl
  | (walk_at "lk")
  | exact SqL.of (by walk_at "lk")
  | exact SqT.of (by walk_at "lk")
  | exact .inl (SqL.of (by walk_at "lk"))
  | exact .inr (SqT.of (by walk_at "lk"))
  | exact .inl ⟨rfl, _, SqL.of (by walk_at "lk")⟩
  | exact ⟨_, rfl⟩
  | exact ⟨_, SqL.of (by walk_at "lk")⟩
  | exact ⟨_, by assumption⟩
  | (walk_at "len")
  | omega)
local macro_rules | `(tactic| walk_at "go1") => `(tactic| first
  | (with_reducible refine iSeq ?_)
  | ((with_reducible apply iVar); exact rfl)
  | (with_reducible refine iC ?_)
  | (with_reducible refine iOp ?_)
  | (with_reducible refine iAsg ?_)
  | (with_reducible refine iName ?_)
  | (with_reducible refine iSub ?_)
  | (with_reducible refine iCons ?_)
  | (with_reducible refine iNil ?_)
  | (with_reducible refine iCB ?_)
  | (with_reducible refine iCall0 ?_)
  | (with_reducible refine iCall ?_)
  | (with_reducible refine iI0 ?_)
  | (with_reducible refine iU ?_)
  | (with_reducible refine iUn ?_)
  | (with_reducible refine iIfS ?_)
  | (with_reducible refine iB ?_)
  | (with_reducible refine iTest ?_)
  | (with_reducible refine iAnd ?_)
  | (with_reducible refine iOr ?_)
  | (with_reducible refine iNot ?_)
  | (with_reducible refine iAndV ?_)
  | (with_reducible refine iOrV ?_)
  | (with_reducible refine iNotV ?_)
  | (with_reducible refine iIfE ?_)
  | (with_reducible refine iRet ?_)
  | (with_reducible refine iRetN ?_)
  | (with_reducible refine iDrop ?_)
  | (with_reducible refine iNext ?_)
  | ((with_reducible apply iEq); exact rfl)
  | ((with_reducible apply iNe); exact rfl)
  | ((with_reducible apply iI); walk_at "cond")
  | (with_reducible refine iM1 ?_)
  | (with_reducible refine iBM ?_)
  | (with_reducible refine iSl ?_)
  | ((with_reducible apply iIxL); exact SqL.of (by walk_at "lk"); walk_at "ix")
  | ((with_reducible apply iIxT); exact SqT.of (by walk_at "lk"); walk_at "ix")
  | ((with_reducible apply iIxS); walk_at "num"; walk_at "ix")
  | ((with_reducible apply iSlTo); walk_at "num"; walk_at "toN")
  | ((with_reducible apply iSlFrom); walk_at "num"; walk_at "toN")
  | ((with_reducible apply iSlMid); walk_at "num"; walk_at "toN"; walk_at "toN")
  | ((with_reducible apply iSlS); walk_at "num")
  | ((with_reducible apply iAddS); walk_at "num")
  | ((with_reducible apply iLenS1); walk_at "num")
  | (with_reducible refine iInS ?_)
  | (with_reducible refine iNotInS ?_)
  | ((with_reducible apply iFindYes); assumption)
  | ((with_reducible apply iFindNo); assumption)
  | (with_reducible refine iFindS ?_)
  | (with_reducible refine iStartS ?_)
  | ((with_reducible apply iPartS); walk_at "num")
  | ((with_reducible apply iSetL); (walk_at "lk"); exact rfl; (walk_at "setq"))
  | (with_reducible refine iNoPart ?_)
  | (with_reducible refine iPart ?_)
  | (with_reducible refine iTup ?_)
  | (with_reducible refine iLst ?_)
  | (with_reducible refine isi_int_int ?_)
  | (with_reducible refine isi_int_bool ?_)
  | (with_reducible refine isi_int_str ?_)
  | (with_reducible refine isi_str_str ?_)
  | (with_reducible refine isi_str_int ?_)
  | (with_reducible refine isi_str_bool ?_)
  | (with_reducible refine isi_bl_bool ?_)
  | (with_reducible refine isi_bl_int ?_)
  | (with_reducible refine isi_bl_str ?_)
  | (with_reducible refine iFld ?_)
  | (with_reducible refine iSFld ?_)
  | (with_reducible refine iCon ?_)
  | (with_reducible refine iProp ?_)
  | (with_reducible refine iMeth0 ?_)
  | (with_reducible refine iMeth ?_)
  | (with_reducible refine iWT ?_)
  | (with_reducible refine iWF ?_)
  | ((with_reducible apply iInL); (walk_at "sq"); (walk_at "mapq"))
  | ((with_reducible apply iNInL); (walk_at "sq"); (walk_at "mapq"))
  | (with_reducible refine iLcL ?_)
  | (with_reducible refine iLcS ?_)
  | (with_reducible refine iLcR1 ?_)
  | (with_reducible refine iForL ?_)
  | (with_reducible refine iForS ?_)
  | (with_reducible refine iForR1 ?_)
  | (with_reducible refine iForR2 ?_)
  | (with_reducible refine iYes ?_)
  | ((with_reducible apply iSlL); (first | assumption | exact SqL.of (by walk_at "lk")))
  | ((with_reducible apply iCat); (walk_at "lk"); (walk_at "lk"); (walk_at "len"))
  | ((with_reducible apply iAppend); (walk_at "lk"); (walk_at "len"))
  | ((with_reducible apply iTruNil); exact SqL.of (by walk_at "lk"))
  | ((with_reducible apply iTruCons); exact SqL.of (by walk_at "lk"))
  | ((with_reducible apply iTruL); (first | assumption | exact SqL.of (by walk_at "lk")))
  | ((with_reducible apply iListT); (walk_at "num"))
  | (with_reducible refine iTT ?_)
  | (with_reducible refine iFF ?_)
  | (with_reducible refine iNTT ?_)
  | (with_reducible refine iNFF ?_)
  | ((with_reducible apply eSFld); (walk_at "lk"); assumption; assumption; (simp only [List.length_cons, List.length_nil]; decide); (walk_at "putq"))
  | (walk_at "proj")
  | (with_reducible apply Exists.intro)
  | ((with_reducible apply And.intro); exact rfl)
  | ((with_reducible apply And.intro); walk_at "side")
  | ((with_reducible apply Or.inl); (with_reducible apply Exists.intro); (with_reducible apply And.intro); exact rfl)
  | ((with_reducible apply Or.inr); (with_reducible apply Exists.intro); (with_reducible apply And.intro); exact rfl))
local macro_rules | `(tactic| walk_at "fr") => `(tactic| first
  | exact Fr.refl _ _
  | assumption
  | (refine Fr.trans ?_ Fr.in0; walk_at "fr")
  | (refine Fr.trans ?_ Fr.in1; walk_at "fr")
  | (refine Fr.trans ?_ Fr.in2; walk_at "fr")
  | (refine Fr.trans ?_ (Fr.upd_new (by assumption)); walk_at "fr")
  | (refine Fr.trans ?_ (Fr.of_same (by assumption)); walk_at "fr")
  | (refine Fr.trans ?_ (by assumption); walk_at "fr")
  | (refine Fr.trans ?_ (Fr.wk (by assumption)); walk_at "fr")
  | (refine Fr.trans ?_ (Fr.wk1 (by assumption)); walk_at "fr")
  | (refine Fr.trans ?_ (Fr.wk (Fr.wk (by assumption))); walk_at "fr"))
local macro_rules | `(tactic| walk_at "proj") => `(tactic| first
  | (with_reducible refine (show (Ends.mk _ _ _ _).nx _ _ from ?_); dsimp only)
  | (with_reducible refine (show (Ends.mk _ _ _ _).rt _ _ from ?_); dsimp only))
local macro_rules | `(tactic| walk_at "br0") => `(tactic| first
  | (with_reducible apply iBd)
  | (with_reducible apply iBnd)
  | (with_reducible apply iBb)
  | (with_reducible apply iBbn)
  | (with_reducible apply iWD)
  | (with_reducible apply iWDN))
local macro_rules | `(tactic| walk_at "dead") => `(tactic| first | (exfalso; omega) | contradiction)
local macro_rules | `(tactic| walk_at "br") => `(tactic| (walk_at "br0" <;> (intro hbr; (try simp only [V.str.injEq, V.int.injEq, V.bl.injEq, Vk.S_inj, reduceCtorEq, List.cons.injEq, and_true, not_true_eq_false, not_false_eq_true, decide_eq_true_eq, decide_eq_false_iff_not, Nat.reduceEqDiff, List.length_cons, List.length_nil, and_false, false_and, eq_self] at hbr); (try walk_at "dead"))))
local macro_rules | `(tactic| walk_at "new") => `(tactic| (refine fun (p : Addr) (hp : _ = none) => ?_))
local macro_rules | `(tactic| walk_at "go") => `(tactic| repeat' (first | walk_at "go1" | walk_at "br" | walk_at "new" | (refine fun (y z : V) => ?_)))
section
variable {a t c m y : V}
theorem put_n0 : putF "alphabet" y [] = ([("alphabet", y)] : List (Str × V)) := rfl
theorem put_n1 : putF "text" y [("alphabet", a)] = ([("alphabet", a), ("text", y)] : List (Str × V)) := rfl
theorem put_n2 : putF "caret" y [("alphabet", a), ("text", t)] = ([("alphabet", a), ("text", t), ("caret", y)] : List (Str × V)) := rfl
theorem put_n3 : putF "mark" y [("alphabet", a), ("text", t), ("caret", c)] = ([("alphabet", a), ("text", t), ("caret", c), ("mark", y)] : List (Str × V)) := rfl
theorem put_n4 : putF "kept" y [("alphabet", a), ("text", t), ("caret", c), ("mark", m)] = ([("alphabet", a), ("text", t), ("caret", c), ("mark", m), ("kept", y)] : List (Str × V)) := rfl
end
local macro_rules | `(tactic| walk_at "putq") => `(tactic| first | exact put_text | exact put_caret | exact put_mark | exact put_kept | exact put_n0 | exact put_n1 | exact put_n2 | exact put_n3 | exact put_n4)
def Tx (t : List Nat) : Prop := t.length ≤ 100 ∧ ∀ c ∈ t, c < 0x110000
theorem repr_tx {t : List Nat} (h : Tx t) : (reprText (S t)).length ≤ 1002 := by
  have h1 := PySem.StrLaws.reprText_len (S t) (fun c hc => by
    rw [S_cps] at hc
    have := h.2 c hc
    omega)
  rw [S_len] at h1
  have := h.1
  omega
theorem al2 (a b : Str) : (a ++ b).length = a.length + b.length := by
  show (a.cps ++ b.cps).size = _
  rw [Array.size_append]
  rfl
theorem sl4 {n : Nat} (h : n ≤ 4000) : n ≤ sizeLine := by rw [sizeLine_eq]; omega
theorem e0l : Str.empty.length = 0 := by decide +kernel
/-- a field, K named: inside a comprehension -/
theorem pe_fldK {X : Cx} {K : PySem.W.Frag} {e : Expr} {f : Str} {pos : Pos} {ta : TE} (hK : X.K = K) (he : PE X e ta) (hb : attributeBase e f X.env (eval e X.env) = eval e X.env) : PE X (.Attribute e f pos) (tFld K ta f) := hK ▸ pe_fld he hb
def PostE (B b : Addr) (E : XK) (H1 : Hp) : VK := fun v H2 => v = .non ∧ ∃ (d : Addr) (fs : List (Str × V)), H2 b = some (exo b B (some d)) ∧ H2 d = some (exd d fs) ∧ H1 d = none ∧ E (.ref B) (some d) (upd (del H2 b) d (.xd fs))
theorem raise1 {B b : Addr} {H0 H1 : Hp} {E : XK} {f : Str} {y : V} (hb : H1 b = none) (s : Same H0 H1) (k : ∀ d H', H0 d = none → H' d = some (.xd [(f, y)]) → Same H0 H' → E (.ref B) (some d) H') :
    ∀ dx, (upd H1 b (exo b B none)) dx = none → dx ≠ b → PostE B b E H1 .non (upd (upd (upd H1 b (exo b B none)) dx (exd dx [(f, y)])) b (exo b B (some dx))) := by
  intro d hd hn
  refine ⟨rfl, d, [(f, y)], upd_same, ?_, ?_, ?_⟩
  · rw [upd_ne hn, upd_same]
  · rw [upd_ne hn] at hd
    exact hd
  · have h1 : H1 d = none := by
      rw [upd_ne hn] at hd
      exact hd
    exact k d _ (L2.Same.free s h1) upd_same (Vk.Same.trans s (kp_exc hb hd hn))
theorem raise2 {B b : Addr} {H0 H1 : Hp} {E : XK} {f g : Str} {y z : V} (hb : H1 b = none) (s : Same H0 H1) (k : ∀ d H', H0 d = none → H' d = some (.xd [(g, z), (f, y)]) → Same H0 H' → E (.ref B) (some d) H') :
    ∀ dx, (upd H1 b (exo b B none)) dx = none → dx ≠ b → PostE B b E H1 .non (upd (upd (upd (upd H1 b (exo b B none)) dx (exd dx [(f, y)])) b (exo b B (some dx))) dx (exd dx [(g, z), (f, y)])) := by
  intro d hd hn
  have h1 : H1 d = none := by
    rw [upd_ne hn] at hd
    exact hd
  refine ⟨rfl, d, [(g, z), (f, y)], ?_, upd_same, h1, ?_⟩
  · rw [upd_ne hn.symm, upd_same]
  · refine k d _ (L2.Same.free s h1) upd_same (Vk.Same.trans s fun c u e => ?_)
    have n1 : c ≠ b := ne_of_none e hb
    have n2 : c ≠ d := ne_of_none e h1
    rw [upd_ne n2, del_ne n1, upd_ne n2, upd_ne n1, upd_ne n2, upd_ne n1]
    exact e

section
variable {P : Program} {w : World} {K : PySem.W.Frag} {mg : Str → Option Value} {base : Heap} {a : Ad} {d : Fd}
abbrev sBadKey : Stmt := inClass (top 5) 0
def spEBadKey (C : Addr) : Sp := fun vs H Q _ => ∃ (a : Addr) (t : List Nat), vs = [.ref a, .str (S t)] ∧ Tx t ∧ H a = some (exo a C none) ∧
  ∀ dx, H dx = none → dx ≠ a → Q .non (upd (upd H dx (exd dx [("key", .str (S t))])) a (exo a C (some dx)))
theorem scBadKey : SScope ["self", "key"] (defScope sBadKey) := ⟨rfl, rfl, rfl, by decide +kernel, by decide +kernel, by decide +kernel, fun x h => (show ∀ y ∈ (defScope sBadKey).names, y.2 = .free → y.1 = "__class__" by decide +kernel) _ (PySem.mem_of_lookup h) rfl, by decide +kernel, by decide +kernel⟩
theorem ok_eBadKey {f C cc cda : Addr} {dV kV doc pm ct oc : Value} {an od : Option Addr} {osl : Array (Option Value)} (T : SupC P K mg C cc cda) (hp : PySem.W.findIn K (.ref C) "key" = some none)
    (lk : K.lookup f = some ⟨oc, od, .func (PySem.W.ksFn "__init__" "BadKey.__init__" (defArgs sBadKey) (defBody sBadKey) (defScope sBadKey) dV kV doc pm an (.ref cda) ct cc), osl⟩) (hcd : PySem.W.codeIn K (.ref cda) "BadKey.__init__" = true) :
    FnOk P w K mg base CX0 1 f (PySem.W.ksFn "__init__" "BadKey.__init__" (defArgs sBadKey) (defBody sBadKey) (defScope sBadKey) dV kV doc pm an (.ref cda) ct cc) ["self", "key"] (spEBadKey C) := by
  refine fn_super (self := "self") (N' := ["key"]) T lk hcd scBadKey rfl rfl rfl rfl (fun _ => rfl) (fun _ => rfl) (fun vs H Q E h => ?_) (fun A outer s H vs Q E hr h => ?_)
  · obtain ⟨a, z, rfl, _⟩ := h
    rfl
  · obtain ⟨a, z, rfl, hz, ha, k⟩ := h
    refine ⟨_, _, pe_joined (.cons pe_str (.cons (pe_fmtR (pv 1)) .nil)), pss_one (ps_ost (pv 0) (pv 1)), ⟨a, rfl, ha⟩, ?_⟩
    have e1 : (PySem.Str.ofString "not a key: ").length ≤ 100 := by decide +kernel
    have hz2 := repr_tx hz
    refine ⟨_, rfl, sl4 ?_, _, rfl, .inl ⟨S z, rfl, sl4 (by omega), _, rfl, sl4 ?_, ⟨a, rfl, ha⟩, ?_⟩⟩
    · rw [al2, e0l]
      omega
    · rw [al2, al2, e0l]
      omega
    · exact ⟨_, rfl, _, rfl, a, C, rfl, T.oex, hp, .inl ⟨ha, fun dx hd hn => k dx hd hn⟩⟩

def spIsText (C : Addr) : Sp := fun vs H Q _ => ∃ (al : Addr) (l v t : List Nat), vs = [.ref al, .str (S t)] ∧ IsAl C H al l v ∧ t.length ≤ 4000 ∧ ∀ H', Same H H' → Q (.bl (decide (∀ c ∈ t, c ∈ 45 :: srtL l))) H'
theorem scIsText : FnScope ["self", "text", "sign"] ["self", "text"] (defScope sIsText) := ⟨rfl, rfl, rfl, by decide +kernel, rfl, by decide +kernel, by decide +kernel⟩
theorem ok_isText (T : Fns K mg a d) : FnOk P w K mg base CX0 1 a.aIsText d.dIsText ["self", "text"] (spIsText a.cAlphabet) := by
  have hcl := T.clA
  have hnS := T.nS
  refine T.FIsText.ok scIsText (fun vs H Q E h => ?_) (fun cdv A0 outer s H vs Q E hr h => ?_)
  · obtain ⟨al, l, v, t, rfl, _⟩ := h
    rfl
  · obtain ⟨al, l, v, t, rfl, ⟨dx, hal⟩, ht, k⟩ := h
    refine ⟨_, ((pss_one (ps_ret (pe_callB (cr_all rfl) (by rfl) T.z_all (by decide +kernel) (pa_cons (pe_lc (own := [("sign", 2)]) (g := gName 2) (by rfl) scIsText.nd (pi_str (pv 1)) (blkOk_by (own := [("sign", 2)]) (N := ["self", "text", "sign"]) (sc := defScope sIsText) (by decide +kernel)) (fun _ _ _ _ _ => pg_name (i := 2) scIsText.nd rfl (Or.inl rfl)) (fun _ _ _ _ _ => pts_nil) (fun _ _ _ _ _ => (pe_cmpR op_inS (pv 2) (pe_fldK (K := K) (by rfl) (pv 0) (by rfl)) rfl))) pa_nil))))), ?_⟩
    refine ⟨_, rfl, _, rfl, fun D hD => lc_text (fun _ => true) (fun c => V.bl (decide (c ∈ 45 :: srtL l))) (by omega) (fun _ => rfl) (fun _ _ _ _ _ q => q) (fun c hc _ H2 Q2 off q => ?_) ?_⟩
    · have hal2 : H2 al = some (.ins a.cAlphabet dx (alF l v)) := (off al (ne_of_none hal hD)).trans hal
      exact ⟨_, rfl, _, rfl, al, a.cAlphabet, dx, _, _, rfl, hal2, hcl, hnS, rfl, c, 45 :: srtL l, rfl, rfl, by simpa using q⟩
    · refine ⟨D, t.map (fun c => decide (c ∈ 45 :: srtL l)), rfl, ?_, ?_⟩
      · rw [List.map_map]
        refine SqL.of ?_
        rw [upd_same, List.filter_eq_self.mpr (fun _ _ => rfl)]
        rfl
      · have e3 : (t.map fun c => decide (c ∈ 45 :: srtL l)).all id = decide (∀ c ∈ t, c ∈ 45 :: srtL l) := by
          rw [Bool.eq_iff_iff]
          simp
        rw [e3]
        exact k _ (upd_laid hD)
def spCheck (C : Addr) : Sp := fun vs H Q _ => ∃ (al : Addr) (l v t : List Nat), vs = [.ref al, .str (S t)] ∧ IsAl C H al l v ∧ t.length ≤ 4000 ∧ (∀ c ∈ t, c ∈ 45 :: srtL l) ∧ ∀ H', Same H H' → Q .non H'
theorem scCheck : FnScope ["self", "text"] ["self", "text"] (defScope sCheck) := ⟨rfl, rfl, rfl, by decide +kernel, rfl, by decide +kernel, by decide +kernel⟩
theorem ok_check (T : Fns K mg a d) : FnOk P w K mg base CX0 2 a.aCheck d.dCheck ["self", "text"] (spCheck a.cAlphabet) := by
  have GIsText : FnOk P w K mg base CX0 1 a.aIsText d.dIsText ["self", "text"] (spIsText a.cAlphabet) := ok_isText T
  refine T.FCheck.ok scCheck (fun vs H Q E h => ?_) (fun cdv A0 outer s H vs Q E hr h => ?_)
  · obtain ⟨al, l, v, t, rfl, _⟩ := h
    rfl
  · obtain ⟨al, l, v, t, rfl, hal, ht, hv, k⟩ := h
    obtain ⟨dxa, hal2⟩ := id hal
    refine ⟨_, (pss_one (ps_if (pt_not (pt_val (pe_meth (pv 0) T.clA T.mIsText GIsText (hr.mono (by decide)) T.bIsText .nil pass0 (pa_cons (pv 1) pa_nil)))) (pss_one ps_never) pss_nil)), ?_⟩
    walk_at "go"
    refine ⟨al, l, v, t, rfl, hal, ht, fun H' s1 => ?_⟩
    rw [decide_eq_true hv]
    walk_at "go"
    exact k _ s1
def spPI (C CA : Addr) : Sp := fun vs H Q _ => ∃ (pg dx al : Addr) (l v t : List Nat), vs = [.ref pg, .ref al, .str (S t)] ∧ H pg = some (.ins C dx []) ∧ IsAl CA H al l v ∧ t.length ≤ 4000 ∧ (∀ c ∈ t, c ∈ 45 :: srtL l) ∧ ∀ H', PgAt C H' pg dx al ⟨t, 0, none, []⟩ → Fr [pg] H H' → Q .non H'
abbrev sPageInit : Stmt := inClass (top 10) 0
theorem scPageInit : FnScope ["self", "alphabet", "text"] ["self", "alphabet", "text"] (defScope sPageInit) := ⟨rfl, rfl, rfl, by decide +kernel, rfl, by decide +kernel, by decide +kernel⟩
theorem ok_pageInit (T : Fns K mg a d) (F : FunD K "__init__" "Page.__init__" (defArgs sPageInit) (defBody sPageInit) (defScope sPageInit) [.str ""] [] a.fPI d.fPI) : FnOk P w K mg base CX0 3 a.fPI d.fPI ["self", "alphabet", "text"] (spPI a.cPage a.cAlphabet) := by
  have hcl := T.clP
  have hnA := T.nA
  have hnT := T.nT
  have hnC := T.nC
  have hnM := T.nM
  have hnK := T.nK
  have GCheck : FnOk P w K mg base CX0 2 a.aCheck d.dCheck ["self", "text"] (spCheck a.cAlphabet) := ok_check T
  refine F.ok scPageInit (fun vs H Q E h => ?_) (fun cdv A0 outer s H vs Q E hr h => ?_)
  · obtain ⟨pg, dx, al, l, v, t, rfl, _⟩ := h
    rfl
  · obtain ⟨pg, dx, al, l, v, t, rfl, hp, hal, ht, hv, k⟩ := h
    obtain ⟨dxa, hal2⟩ := id hal
    refine ⟨_, ((pss_cons (ps_expr (pe_meth (pv 1) T.clA T.mCheck GCheck (hr.mono (by decide)) T.bCheck .nil pass0 (pa_cons (pv 2) pa_nil)))
      (pss_cons (ps_fld (pv 0) (pv 1) rfl)
      (pss_cons (ps_fld (pv 0) (pv 2) rfl)
      (pss_cons (ps_fld (pv 0) pe_int rfl)
      (pss_cons (ps_fld (pv 0) pe_non rfl)
      (pss_one (ps_fld (pv 0) (pe_strS (l := []) (by decide +kernel)) rfl)))))))), ?_⟩
    walk_at "go"
    refine ⟨al, l, v, t, rfl, hal, ht, hv, fun H' s1 => ?_⟩
    walk_at "go"
    exact k _ (pg_mk upd_same rfl rfl) (by walk_at "fr")
def spPress2 (C CA BK : Addr) : Sp := fun vs H Q E => ∃ (pg dx al : Addr) (p : Pg) (l v key : List Nat), vs = [.ref pg, .str (S key)] ∧ PgAt C H pg dx al p ∧ p.ok ∧ IsAl CA H al l v ∧ Tx key ∧
  (keyB (45 :: srtL l) key = true → ∀ h c, IsKey key h c → ∀ H', PgAt C H' pg dx al (pressP p h c).2 → Fr [pg] H H' → Q (.bl (pressP p h c).1) H') ∧
  (keyB (45 :: srtL l) key = false → ∀ dd H', H dd = none → H' dd = some (.xd [("key", .str (S key))]) → Same H H' → E (.ref BK) (some dd) H')
theorem scPress2 : FnScope ["self", "key", "works"] ["self", "key"] (defScope sPress2) := ⟨rfl, rfl, rfl, by decide +kernel, rfl, by decide +kernel, by decide +kernel⟩
theorem press_still {p : Pg} {h c : Nat} (hh : h ∈ plainL ∨ h ∈ signL) (hn : (pressP p h c).1 = false) (h47 : h ≠ 47) : (pressP p h c).2 = p := by
  have hs : h = 62 ∨ h = 120 ∨ h = 119 ∨ h = 94 ∨ h = 109 ∨ h = 107 ∨ h = 99 ∨ h = 112 ∨ h = 39 ∨ h = 61 := by
    rcases hh with hh | hh
    · simp only [plainL, List.mem_cons, List.not_mem_nil, or_false] at hh
      omega
    · simp only [signL, List.mem_cons, List.not_mem_nil, or_false] at hh
      omega
  rcases hs with rfl | rfl | rfl | rfl | rfl | rfl | rfl | rfl | rfl | rfl
  · unfold pressP at hn ⊢
    simp only [Nat.reduceEqDiff, if_false, if_true] at hn ⊢
    split at hn <;> simp_all
  · unfold pressP at hn ⊢
    simp only [Nat.reduceEqDiff, if_false, if_true] at hn ⊢
    split at hn <;> simp_all
  · simp [pressP] at hn
  · simp [pressP]
  · simp [pressP] at hn
  · unfold pressP at hn ⊢
    simp only [Nat.reduceEqDiff, if_false, if_true] at hn ⊢
    split at hn <;> simp_all
  · unfold pressP at hn ⊢
    simp only [Nat.reduceEqDiff, if_false, if_true] at hn ⊢
    split at hn <;> simp_all
  · unfold pressP at hn ⊢
    simp only [Nat.reduceEqDiff, if_false, if_true] at hn ⊢
    split at hn <;> simp_all
  · simp [pressP] at hn
  · simp [pressP]
theorem ok_press2 (T : Fns K mg a d) (GBadKey : FnOk P w K mg base CX0 1 a.eBadKey d.eBadKey ["self", "key"] (spEBadKey a.cBadKey)) : FnOk P w K mg base (L2.CX P w) 4 a.aPress2 d.dPress2 ["self", "key"] (spPress2 a.cPage a.cAlphabet a.cBadKey) := by
  have hcl := T.clP
  have hnA := T.nA
  have GPIsKey : FnOk P w K mg base CX0 1 a.aPIsKey d.dPIsKey ["alphabet", "key"] (spIsKey a.cAlphabet) := ok_isKey T
  have GWillWork : FnOk P w K mg base CX0 1 a.aWillWork d.dWillWork ["self", "key"] (spWill a.cPage a.cAlphabet) := ok_will T
  have GCarry : FnOk P w K mg base CX0 3 a.aCarry d.dCarry ["self", "key"] (spCarry a.cPage a.cAlphabet) := ok_carry T
  refine T.FPress2.okX scPress2 (fun vs H Q E h => ?_) (fun cdv A0 outer s H vs Q E hr h => ?_)
  · obtain ⟨pg, dx, al, p, l, v, key, rfl, _⟩ := h
    rfl
  · obtain ⟨pg, dx, al, p, l, v, key, rfl, ho, hok, hal, hkl, k1, k0⟩ := h
    refine ⟨_, ((pss_cons (ps_if (pt_not (pt_val (pe_call GPIsKey (hr.mono (by decide)) (by rfl) T.gPIsKey T.FPIsKey.kp T.bPIsKey .nil pass0 (pa_cons (pe_fld (pv 0) rfl) (pa_cons (pv 1) pa_nil))))) (pss_one (ps_raise rfl (takes_of rfl rfl rfl rfl) (pmk_oex T.xBadKey.ox T.xBadKey.iC T.xBadKey.tI GBadKey (hr.mono (by decide)) T.xBadKey.bB .nil pass0 (by rfl) T.xBadKey.gB (pa_cons (pv 1) pa_nil)))) pss_nil)
      (pss_cons (ps_set (i := 2) scPress2.nd rfl (Or.inl rfl) (pe_meth (pv 0) T.clP T.mWillWork GWillWork (hr.mono (by decide)) T.bWillWork .nil pass0 (pa_cons (pv 1) pa_nil)))
      (pss_cons (ps_if (PW.pt (pw_or (pt_val (pv 2)) (pw_or1 (pt_cmpR op_eq (pe_ix ix_str (pv 1) pe_int (fun _ _ => rfl)) (pe_strS (l := [47]) (by decide +kernel)) (nomark _))))) (pss_one (ps_expr (pe_meth (pv 0) T.clP T.mCarry GCarry (hr.mono (by decide)) T.bCarry .nil pass0 (pa_cons (pv 1) pa_nil)))) pss_nil)
      (pss_one (ps_ret (pv 2))))))), ?_⟩
    have ho1 : H pg = some (.ins a.cPage dx [("alphabet", .ref al), ("text", .str (S p.t)), ("caret", .int (p.c : Int)), ("mark", optV p.m), ("kept", .str (S p.k))]) := ho
    walk_at "go"
    refine ⟨al, l, v, key, rfl, hal, by have := hkl.1; omega, ?_⟩
    cases hk : keyB (45 :: srtL l) key with
    | false =>
      walk_at "go"
      exact ⟨_, rfl, by show 1 ≤ 1000; decide, fun b hb => ⟨b, key, rfl, hkl, upd_same, raise1 hb (Same.refl H) fun dd H' h1 h2 h3 => k0 hk dd H' h1 h2 h3⟩⟩
    | true =>
      obtain ⟨h, c, hkey, hmem, hk0⟩ : ∃ h c, IsKey key h c ∧ (h ∈ plainL ∨ h ∈ signL) ∧ atI key 0 = some h := by
        rcases keyB_of hk with ⟨x, rfl, hx⟩ | ⟨x, c, rfl, hx, hc⟩
        · exact ⟨x, 0, .inl ⟨rfl, hx⟩, .inl hx, rfl⟩
        · exact ⟨x, c, .inr ⟨rfl, hx⟩, .inr hx, rfl⟩
      have hkl1 := hkl.1
      walk_at "go"
      refine ⟨pg, dx, al, p, l, v, key, h, c, rfl, ho, hok, hal, hkey, fun H1 s1 => ?_⟩
      have ho2 : PgAt a.cPage H1 pg dx al p := s1 _ _ ho
      have k := k1 hk h c hkey
      cases hw : (pressP p h c).1 with
      | true =>
        walk_at "go"
        refine ⟨pg, dx, al, p, l, v, key, h, c, rfl, ho2, hok, hal.same s1, hkey, .inl hw, fun H2 h1 h2 => ?_⟩
        walk_at "go"
        have q := k H2 h1 (by walk_at "fr")
        rw [hw] at q
        exact q
      | false =>
        by_cases h47 : h = 47
        · subst h47
          walk_at "go"
          refine ⟨pg, dx, al, p, l, v, key, 47, c, rfl, ho2, hok, hal.same s1, hkey, .inr rfl, fun H2 h1 h2 => ?_⟩
          walk_at "go"
          have q := k H2 h1 (by walk_at "fr")
          rw [hw] at q
          exact q
        · walk_at "go"
          have q := k H1 (by rw [press_still hmem hw h47]; exact ho2) (by walk_at "fr")
          rw [hw] at q
          exact q
theorem passE {X : Cx} {P : Program} {w : World} : Passes (L2.CX P w) X (fun _ _ _ => False) := fun _ _ _ _ _ _ _ h => by
  obtain ⟨_, _, _, _, _, _, _, _, _, _, _, _, z⟩ := h
  exact z.elim
end
end Vk

set_option Elab.async false
set_option linter.all false
set_option maxRecDepth 100000
set_option maxHeartbeats 4000000
namespace Vk
open PySem PySem.Spec PyProof.Rows L2
/-! the walk over a reading -/
open L2 in
local macro_rules | `(tactic| walk_at "lk") => `(tactic| first
  | assumption
  | exact upd_same
  | (refine upd_old (by assumption) ?_; walk_at "lk")
  | (refine upd_oth (by first | assumption | (apply Ne.symm; assumption)) ?_; walk_at "lk")
  | (refine Same.get (by assumption) ?_; walk_at "lk")
  | (refine Fr.get (by assumption) (by first | assumption | (simp only [List.mem_cons, List.not_mem_nil, or_false, not_or]; first | assumption | (refine ⟨?_, ?_⟩ <;> assumption) | (apply Ne.symm; assumption))) ?_; walk_at "lk"))
local macro_rules | `(tactic| walk_at "len") => `(tactic| first
  | (simp only [List.length_cons, List.length_nil, sizeLine_eq]; omega)
  | (simp only [S_len, sizeLine_eq]; omega)
  | (simp only [S_len, sizeLine_eq, List.length_take, List.length_drop, List.length_append, List.length_cons, List.length_nil]; omega))
local macro_rules | `(tactic| walk_at "num") => `(tactic| first | assumption | omega | (simp only [List.length_take, List.length_drop, List.length_append, List.length_cons, List.length_nil]; omega))
local macro_rules | `(tactic| walk_at "ix") => `(tactic| first | exact rfl | assumption | exact atI_nat (by assumption))
local macro_rules | `(tactic| walk_at "putq") => `(tactic| exact rfl)
local macro_rules | `(tactic| walk_at "sq") => `(tactic| first
  | exact .inr (by assumption)
  | exact .inl (by assumption)
  | exact .inl (SqL.of (by walk_at "lk"))
  | exact .inr (SqT.of (by walk_at "lk")))
local macro_rules | `(tactic| walk_at "mapq") => `(tactic| first
  | exact rfl
  | exact (rfl : _ = List.map (fun l => V.str (S l)) [_])
  | exact (rfl : _ = List.map (fun l => V.str (S l)) [_, _])
  | exact (rfl : _ = List.map (fun l => V.str (S l)) [_, _, _])
  | exact (rfl : _ = List.map (fun l => V.str (S l)) [_, _, _, _])
  | exact (rfl : _ = List.map (fun l => V.str (S l)) [_, _, _, _, _]))
local macro_rules | `(tactic| walk_at "setq") => `(tactic| ((try simp only [Int.reduceToNat, List.set_cons_succ, List.set_cons_zero]); exact rfl))
local macro_rules | `(tactic| walk_at "toN") => `(tactic| first | exact rfl | exact (Int.natCast_add _ _).symm | exact (Int.natCast_add _ 1).symm)
local macro_rules | `(tactic| walk_at "cond") => `(tactic| first | omega | (simp only [List.length_map]; omega) | (refine Or.inl ⟨?_, ?_⟩ <;> omega) | (refine Or.inr ⟨?_, ?_⟩ <;> omega) | (refine ⟨?_, ?_⟩ <;> omega))
local macro_rules | `(tactic| walk_at "side") => `(tactic| first
  | rfl
  | (walk_at "lk")
  | exact SqL.of (by walk_at "lk")
  | exact SqT.of (by walk_at "lk")
  | exact .inl (SqL.of (by walk_at "lk"))
  | exact .inr (SqT.of (by walk_at "lk"))
  | exact .inl ⟨rfl, _, SqL.of (by walk_at "lk")⟩
  | exact ⟨_, rfl⟩
  | exact ⟨_, SqL.of (by walk_at "lk")⟩
  | exact ⟨_, by assumption⟩
  | (walk_at "len")
  | omega)
local macro_rules | `(tactic| walk_at "go1") => `(tactic| first
  | (with_reducible refine iSeq ?_)
  | ((with_reducible apply iVar); exact rfl)
  | (with_reducible refine iC ?_)
  | (with_reducible refine iOp ?_)
  | (with_reducible refine iAsg ?_)
  | (with_reducible refine iName ?_)
  | (with_reducible refine iSub ?_)
  | (with_reducible refine iCons ?_)
  | (with_reducible refine iNil ?_)
  | (with_reducible refine iCB ?_)
  | (with_reducible refine iCall0 ?_)
  | (with_reducible refine iCall ?_)
  | (with_reducible refine iI0 ?_)
  | (with_reducible refine iU ?_)
  | (with_reducible refine iUn ?_)
  | (with_reducible refine iIfS ?_)
  | (with_reducible refine iB ?_)
  | (with_reducible refine iTest ?_)
  | (with_reducible refine iAnd ?_)
  | (with_reducible refine iOr ?_)
  | (with_reducible refine iNot ?_)
  | (with_reducible refine iAndV ?_)
  | (with_reducible refine iOrV ?_)
  | (with_reducible refine iNotV ?_)
  | (with_reducible refine iIfE ?_)
  | (with_reducible refine iRet ?_)
  | (with_reducible refine iRetN ?_)
  | (with_reducible refine iDrop ?_)
  | (with_reducible refine iNext ?_)
  | ((with_reducible apply iEq); exact rfl)
  | ((with_reducible apply iNe); exact rfl)
  | ((with_reducible apply iI); walk_at "cond")
  | (with_reducible refine iM1 ?_)
  | (with_reducible refine iBM ?_)
  | (with_reducible refine iSl ?_)
  | ((with_reducible apply iIxL); exact SqL.of (by walk_at "lk"); walk_at "ix")
  | ((with_reducible apply iIxT); exact SqT.of (by walk_at "lk"); walk_at "ix")
  | ((with_reducible apply iIxS); walk_at "num"; walk_at "ix")
  | ((with_reducible apply iSlTo); walk_at "num"; walk_at "toN")
  | ((with_reducible apply iSlFrom); walk_at "num"; walk_at "toN")
  | ((with_reducible apply iSlMid); walk_at "num"; walk_at "toN"; walk_at "toN")
  | ((with_reducible apply iSlS); walk_at "num")
  | ((with_reducible apply iAddS); walk_at "num")
  | ((with_reducible apply iLenS1); walk_at "num")
  | (with_reducible refine iInS ?_)
  | (with_reducible refine iNotInS ?_)
  | ((with_reducible apply iFindYes); assumption)
  | ((with_reducible apply iFindNo); assumption)
  | (with_reducible refine iFindS ?_)
  | (with_reducible refine iStartS ?_)
  | ((with_reducible apply iPartS); walk_at "num")
  | ((with_reducible apply iSetL); (walk_at "lk"); exact rfl; (walk_at "setq"))
  | (with_reducible refine iNoPart ?_)
  | (with_reducible refine iPart ?_)
  | (with_reducible refine iTup ?_)
  | (with_reducible refine iLst ?_)
  | (with_reducible refine isi_int_int ?_)
  | (with_reducible refine isi_int_bool ?_)
  | (with_reducible refine isi_int_str ?_)
  | (with_reducible refine isi_str_str ?_)
  | (with_reducible refine isi_str_int ?_)
  | (with_reducible refine isi_str_bool ?_)
  | (with_reducible refine isi_bl_bool ?_)
  | (with_reducible refine isi_bl_int ?_)
  | (with_reducible refine isi_bl_str ?_)
  | (with_reducible refine iFld ?_)
  | (with_reducible refine iSFld ?_)
  | (with_reducible refine iCon ?_)
  | (with_reducible refine iProp ?_)
  | (with_reducible refine iMeth0 ?_)
  | (with_reducible refine iMeth ?_)
  | (with_reducible refine iWT ?_)
  | (with_reducible refine iWF ?_)
  | ((with_reducible apply iInL); (walk_at "sq"); (walk_at "mapq"))
  | ((with_reducible apply iNInL); (walk_at "sq"); (walk_at "mapq"))
  | (with_reducible refine iLcL ?_)
  | (with_reducible refine iLcS ?_)
  | (with_reducible refine iLcR1 ?_)
  | (with_reducible refine iForL ?_)
  | (with_reducible refine iForS ?_)
  | (with_reducible refine iForR1 ?_)
  | (with_reducible refine iForR2 ?_)
  | (with_reducible refine iYes ?_)
  | ((with_reducible apply iSlL); (first | assumption | exact SqL.of (by walk_at "lk")))
  | ((with_reducible apply iCat); (walk_at "lk"); (walk_at "lk"); (walk_at "len"))
  | ((with_reducible apply iAppend); (walk_at "lk"); (walk_at "len"))
  | ((with_reducible apply iTruNil); exact SqL.of (by walk_at "lk"))
  | ((with_reducible apply iTruCons); exact SqL.of (by walk_at "lk"))
  | ((with_reducible apply iTruL); (first | assumption | exact SqL.of (by walk_at "lk")))
  | ((with_reducible apply iListT); (walk_at "num"))
  | (with_reducible refine iTT ?_)
  | (with_reducible refine iFF ?_)
  | (with_reducible refine iNTT ?_)
  | (with_reducible refine iNFF ?_)
  | ((with_reducible apply eSFld); (walk_at "lk"); assumption; assumption; (simp only [List.length_cons, List.length_nil]; decide); (walk_at "putq"))
  | (walk_at "proj")
  | (with_reducible apply Exists.intro)
  | ((with_reducible apply And.intro); exact rfl)
  | ((with_reducible apply And.intro); walk_at "side")
  | ((with_reducible apply Or.inl); (with_reducible apply Exists.intro); (with_reducible apply And.intro); exact rfl)
  | ((with_reducible apply Or.inr); (with_reducible apply Exists.intro); (with_reducible apply And.intro); exact rfl))
local macro_rules | `(tactic| walk_at "fr") => `(tactic| first
  | exact Fr.refl _ _
  | assumption
  | (refine Fr.trans ?_ Fr.in0; walk_at "fr")
  | (refine Fr.trans ?_ Fr.in1; walk_at "fr")
  | (refine Fr.trans ?_ Fr.in2; walk_at "fr")
  | (refine Fr.trans ?_ (Fr.upd_new (by assumption)); walk_at "fr")
  | (refine Fr.trans ?_ (Fr.of_same (by assumption)); walk_at "fr")
  | (refine Fr.trans ?_ (by assumption); walk_at "fr")
  | (refine Fr.trans ?_ (Fr.wk (by assumption)); walk_at "fr")
  | (refine Fr.trans ?_ (Fr.wk1 (by assumption)); walk_at "fr")
  | (refine Fr.trans ?_ (Fr.wk (Fr.wk (by assumption))); walk_at "fr"))
local macro_rules | `(tactic| walk_at "proj") => `(tactic| first
  | (with_reducible refine (show (Ends.mk _ _ _ _).nx _ _ from ?_); dsimp only)
  | (with_reducible refine (show (Ends.mk _ _ _ _).rt _ _ from ?_); dsimp only))
local macro_rules | `(tactic| walk_at "br0") => `(tactic| first
  | (with_reducible apply iBd)
  | (with_reducible apply iBnd)
  | (with_reducible apply iBb)
  | (with_reducible apply iBbn)
  | (with_reducible apply iWD)
  | (with_reducible apply iWDN))
local macro_rules | `(tactic| walk_at "dead") => `(tactic| first | (exfalso; omega) | contradiction)
local macro_rules | `(tactic| walk_at "br") => `(tactic| (walk_at "br0" <;> (intro hbr; (try simp only [V.str.injEq, V.int.injEq, V.bl.injEq, Vk.S_inj, reduceCtorEq, List.cons.injEq, and_true, not_true_eq_false, not_false_eq_true, decide_eq_true_eq, decide_eq_false_iff_not, Nat.reduceEqDiff, List.length_cons, List.length_nil, and_false, false_and, eq_self] at hbr); (try walk_at "dead"))))
local macro_rules | `(tactic| walk_at "new") => `(tactic| (refine fun (p : Addr) (hp : _ = none) => ?_))
local macro_rules | `(tactic| walk_at "go") => `(tactic| repeat' (first | walk_at "go1" | walk_at "br" | walk_at "new" | (refine fun (y z : V) => ?_)))
section
variable {P : Program} {w : World} {K : PySem.W.Frag} {mg : Str → Option Value} {base : Heap} {a : Ad} {d : Fd}
/-! the law's looks at a page -/
def spWhole : Sp := fun vs H Q _ => ∃ (i j : Int), vs = [.int i, .int j] ∧ Q (.bl (decide (i = j))) H
theorem scWhole : FnScope ["_law_told", "_law_due"] ["_law_told", "_law_due"] (defScope sWhole) := ⟨rfl, rfl, rfl, by decide +kernel, rfl, by decide +kernel, by decide +kernel⟩
theorem ok_whole (T : Fns K mg a d) : FnOk P w K mg base CX0 1 a.aWhole d.dWhole ["_law_told", "_law_due"] spWhole := by
  refine T.FWhole.ok scWhole (fun vs H Q E h => ?_) (fun cdv A0 outer s H vs Q E hr h => ?_)
  · obtain ⟨i, j, rfl, _⟩ := h
    rfl
  · obtain ⟨i, j, rfl, k⟩ := h
    refine ⟨_, ((pss_one (ps_ret (pe_and (pe_callB call_isi (by rfl) T.z_isinstance (by decide +kernel) (pa_cons (pv 0) (pa_cons (pe_bltn (v := .ty "int") (by rfl) T.z_int (by decide +kernel) rfl) pa_nil))) (pe_and (pe_not (pe_callB call_isi (by rfl) T.z_isinstance (by decide +kernel) (pa_cons (pv 0) (pa_cons (pe_bltn (v := .ty "bool") (by rfl) T.z_bool (by decide +kernel) rfl) pa_nil)))) (pe_one (pe_cmpR op_eq (pv 0) (pv 1) (nomark _)))))))), ?_⟩
    walk_at "go"
    have e : decide (V.int i = V.int j) = decide (i = j) := by simp only [V.int.injEq]
    rw [e]
    exact k
theorem cWhole {i j : Int} {H : Hp} {Q : VK} {E : XK} (h : Q (.bl (decide (i = j))) H) : spWhole [.int i, .int j] H Q E := ⟨i, j, rfl, h⟩
theorem cHeld {pg dx al C : Addr} {p : Pg} {H : Hp} {Q : VK} {E : XK} (h1 : PgAt C H pg dx al p) (h2 : p.t.length ≤ 6000) (h : Q (heldV p) H) : spHeld C [.ref pg] H Q E := ⟨pg, dx, al, p, rfl, h1, h2, h⟩
local macro_rules | `(tactic| walk_at "go1") => `(tactic| first | (with_reducible refine cWhole ?_) | ((with_reducible apply cHeld); assumption; assumption; (try rw [heldV_some])))
/-- p's page of the program and the law's own one -/
def spSame (C : Addr) : Sp := fun vs H Q _ => ∃ (pg dx al o : Addr) (p : Pg), vs = [.ref pg, .ref o] ∧ PgAt C H pg dx al p ∧ IsOwn H o p ∧ p.ok ∧ Q (.bl true) H
theorem scSame : FnScope ["_law_page", "_law_own"] ["_law_page", "_law_own"] (defScope sSame) := ⟨rfl, rfl, rfl, by decide +kernel, rfl, by decide +kernel, by decide +kernel⟩
theorem ok_same (T : Fns K mg a d) : FnOk P w K mg base CX0 3 a.aSame d.dSame ["_law_page", "_law_own"] (spSame a.cPage) := by
  have hcl := T.clP
  have hnT := T.nT
  have hnC := T.nC
  have hnM := T.nM
  have hnK := T.nK
  have GHeld : FnOk P w K mg base CX0 1 a.aHeld d.dHeld ["self"] (spHeld a.cPage) := ok_held T
  have GWhole : FnOk P w K mg base CX0 1 a.aWhole d.dWhole ["_law_told", "_law_due"] spWhole := ok_whole T
  refine T.FSame.ok scSame (fun vs H Q E h => ?_) (fun cdv A0 outer s H vs Q E hr h => ?_)
  · obtain ⟨pg, dx, al, o, p, rfl, _⟩ := h
    rfl
  · obtain ⟨pg, dx, al, o, ⟨t, c, m, kk⟩, rfl, ho0, hw0, hok, k⟩ := h
    obtain ⟨hc, hm, ht, hk⟩ := id hok
    have ht : t.length ≤ 5000 := ht
    have ht6 : (⟨t, c, m, kk⟩ : Pg).t.length ≤ 6000 := by show t.length ≤ 6000; omega
    refine ⟨_, ((pss_cons (ps_if (PW.pt (pw_or (pt_not (pt_val (pe_callB call_isi (by rfl) T.z_isinstance (by decide +kernel) (pa_cons (pe_fld (pv 0) rfl) (pa_cons (pe_bltn (v := .ty "str") (by rfl) T.z_str (by decide +kernel) rfl) pa_nil))))) (pw_or (pt_cmpR op_ne (pe_fld (pv 0) rfl) (pe_ix (r := rIxL K) ix_list (pv 1) pe_int (fun _ _ => rfl)) (nomark _)) (pw_or1 (pt_not (pt_val (pe_call GWhole (hr.mono (by decide)) (by rfl) T.gWhole T.FWhole.kp T.bWhole .nil pass0 (pa_cons (pe_fld (pv 0) rfl) (pa_cons (pe_ix (r := rIxL K) ix_list (pv 1) pe_int (fun _ _ => rfl)) pa_nil))))))))) (pss_one (ps_ret pe_bl)) pss_nil)
      (pss_cons (ps_if (PW.pt (pw_or (pt_not (pt_val (pe_callB call_isi (by rfl) T.z_isinstance (by decide +kernel) (pa_cons (pe_fld (pv 0) rfl) (pa_cons (pe_bltn (v := .ty "str") (by rfl) T.z_str (by decide +kernel) rfl) pa_nil))))) (pw_or1 (pt_cmpR op_ne (pe_fld (pv 0) rfl) (pe_ix (r := rIxL K) ix_list (pv 1) pe_int (fun _ _ => rfl)) (nomark _))))) (pss_one (ps_ret pe_bl)) pss_nil)
      (pss_cons (ps_if (pt_cmpR op_isN (pe_ix (r := rIxL K) ix_list (pv 1) pe_int (fun _ _ => rfl)) pe_non (nomark _)) (pss_one (ps_ret (pe_and (pe_cmpR op_isN (pe_fld (pv 0) rfl) pe_non (nomark _)) (pe_one (pe_cmpR op_isN (pe_prop (pv 0) T.clP T.prHeld GHeld (hr.mono (by decide)) T.bHeld .nil pass0 rfl) pe_non (nomark _)))))) pss_nil)
      (pss_cons (ps_if (PW.pt (pw_or (pt_not (pt_val (pe_call GWhole (hr.mono (by decide)) (by rfl) T.gWhole T.FWhole.kp T.bWhole .nil pass0 (pa_cons (pe_fld (pv 0) rfl) (pa_cons (pe_ix (r := rIxL K) ix_list (pv 1) pe_int (fun _ _ => rfl)) pa_nil))))) (pw_or1 (pt_not (pt_val (pe_callB call_isi (by rfl) T.z_isinstance (by decide +kernel) (pa_cons (pe_prop (pv 0) T.clP T.prHeld GHeld (hr.mono (by decide)) T.bHeld .nil pass0 rfl) (pa_cons (pe_bltn (v := .ty "str") (by rfl) T.z_str (by decide +kernel) rfl) pa_nil)))))))) (pss_one (ps_ret pe_bl)) pss_nil)
      (pss_one (ps_ret (pe_cmpR op_eq (pe_prop (pv 0) T.clP T.prHeld GHeld (hr.mono (by decide)) T.bHeld .nil pass0 rfl) (pe_slice sl_str (pe_ix (r := rIxL K) ix_list (pv 1) pe_int (fun _ _ => rfl)) (po_some (pe_ix (r := rIxL K) ix_list (pv 1) pe_int (fun _ _ => rfl))) (po_some (pe_ix (r := rIxL K) ix_list (pv 1) pe_int (fun _ _ => rfl)))) (nomark _))))))))), ?_⟩
    cases m with
    | none =>
      have ho : H pg = some (.ins a.cPage dx [("alphabet", .ref al), ("text", .str (S t)), ("caret", .int (c : Int)), ("mark", .non), ("kept", .str (S kk))]) := ho0
      have hw : H o = some (.lst [.str (S t), .int (c : Int), .non, .str (S kk)]) := hw0
      walk_at "go"
      rw [show decide (heldV ⟨t, c, none, kk⟩ = V.non) = true from rfl]
      exact k
    | some i =>
      have ho : H pg = some (.ins a.cPage dx [("alphabet", .ref al), ("text", .str (S t)), ("caret", .int (c : Int)), ("mark", .int (i : Int)), ("kept", .str (S kk))]) := ho0
      have hw : H o = some (.lst [.str (S t), .int (c : Int), .int (i : Int), .str (S kk)]) := hw0
      walk_at "go"
      rw [decide_eq_true rfl]
      exact k
end
end Vk

set_option Elab.async false
set_option linter.all false
set_option maxRecDepth 100000
set_option maxHeartbeats 4000000
namespace Vk
open PySem PySem.Spec PyProof.Rows L2
/-! the walk over a reading -/
open L2 in
local macro_rules | `(tactic| walk_at "lk") => `(tactic| first
  | assumption
  | exact upd_same
  | (refine upd_old (by assumption) ?_; walk_at "lk")
  | (refine upd_oth (by first | assumption | (apply Ne.symm; assumption)) ?_; walk_at "lk")
  | (refine Same.get (by assumption) ?_; walk_at "lk")
  | (refine Fr.get (by assumption) (by first | assumption | (simp only [List.mem_cons, List.not_mem_nil, or_false, not_or]; first | assumption | (refine ⟨?_, ?_⟩ <;> assumption) | (apply Ne.symm; assumption))) ?_; walk_at "lk"))
local macro_rules | `(tactic| walk_at "len") => `(tactic| first
  | (simp only [List.length_cons, List.length_nil, sizeLine_eq]; omega)
  | (simp only [S_len, sizeLine_eq]; omega)
  | (simp only [S_len, sizeLine_eq, List.length_take, List.length_drop, List.length_append, List.length_cons, List.length_nil]; omega))
local macro_rules | `(tactic| walk_at "num") => `(tactic| first | assumption | omega | (simp only [List.length_take, List.length_drop, List.length_append, List.length_cons, List.length_nil]; omega))
local macro_rules | `(tactic| walk_at "ix") => `(tactic| first | exact rfl | assumption | exact atI_nat (by assumption))
local macro_rules | `(tactic| walk_at "putq") => `(tactic| exact rfl)
local macro_rules | `(tactic| walk_at "sq") => `(tactic| first
  | exact .inr (by assumption)
  | exact .inl (by assumption)
  | exact .inl (SqL.of (by walk_at "lk"))
  | exact .inr (SqT.of (by walk_at "lk")))
local macro_rules | `(tactic| walk_at "mapq") => `(tactic| first
  | exact rfl
  | exact (rfl : _ = List.map (fun l => V.str (S l)) [_])
  | exact (rfl : _ = List.map (fun l => V.str (S l)) [_, _])
  | exact (rfl : _ = List.map (fun l => V.str (S l)) [_, _, _])
  | exact (rfl : _ = List.map (fun l => V.str (S l)) [_, _, _, _])
  | exact (rfl : _ = List.map (fun l => V.str (S l)) [_, _, _, _, _]))
local macro_rules | `(tactic| walk_at "setq") => `(tactic| ((try simp only [Int.reduceToNat, List.set_cons_succ, List.set_cons_zero]); exact rfl))
local macro_rules | `(tactic| walk_at "toN") => `(tactic| first | exact rfl | exact (Int.natCast_add _ _).symm | exact (Int.natCast_add _ 1).symm)
local macro_rules | `(tactic| walk_at "cond") => `(tactic| first | omega | (simp only [List.length_map]; omega) | (refine Or.inl ⟨?_, ?_⟩ <;> omega) | (refine Or.inr ⟨?_, ?_⟩ <;> omega) | (refine ⟨?_, ?_⟩ <;> omega))
local macro_rules | `(tactic| walk_at "side") => `(tactic| first
  | rfl
  | (walk_at "lk")
  | exact SqL.of (by walk_at "lk")
  | exact SqT.of (by walk_at "lk")
  | exact .inl (SqL.of (by walk_at "lk"))
  | exact .inr (SqT.of (by walk_at "lk"))
  | exact .inl ⟨rfl, _, SqL.of (by walk_at "lk")⟩
  | exact ⟨_, rfl⟩
  | exact ⟨_, SqL.of (by walk_at "lk")⟩
  | exact ⟨_, by assumption⟩
  | (walk_at "len")
  | omega)
local macro_rules | `(tactic| walk_at "go1") => `(tactic| first
  | (with_reducible refine iSeq ?_)
  | ((with_reducible apply iVar); exact rfl)
  | (with_reducible refine iC ?_)
  | (with_reducible refine iOp ?_)
  | (with_reducible refine iAsg ?_)
  | (with_reducible refine iName ?_)
  | (with_reducible refine iSub ?_)
  | (with_reducible refine iCons ?_)
  | (with_reducible refine iNil ?_)
  | (with_reducible refine iCB ?_)
  | (with_reducible refine iCall0 ?_)
  | (with_reducible refine iCall ?_)
  | (with_reducible refine iI0 ?_)
  | (with_reducible refine iU ?_)
  | (with_reducible refine iUn ?_)
  | (with_reducible refine iIfS ?_)
  | (with_reducible refine iB ?_)
  | (with_reducible refine iTest ?_)
  | (with_reducible refine iAnd ?_)
  | (with_reducible refine iOr ?_)
  | (with_reducible refine iNot ?_)
  | (with_reducible refine iAndV ?_)
  | (with_reducible refine iOrV ?_)
  | (with_reducible refine iNotV ?_)
  | (with_reducible refine iIfE ?_)
  | (with_reducible refine iRet ?_)
  | (with_reducible refine iRetN ?_)
  | (with_reducible refine iDrop ?_)
  | (with_reducible refine iNext ?_)
  | ((with_reducible apply iEq); exact rfl)
  | ((with_reducible apply iNe); exact rfl)
  | ((with_reducible apply iI); walk_at "cond")
  | (with_reducible refine iM1 ?_)
  | (with_reducible refine iBM ?_)
  | (with_reducible refine iSl ?_)
  | ((with_reducible apply iIxL); exact SqL.of (by walk_at "lk"); walk_at "ix")
  | ((with_reducible apply iIxT); exact SqT.of (by walk_at "lk"); walk_at "ix")
  | ((with_reducible apply iIxS); walk_at "num"; walk_at "ix")
  | ((with_reducible apply iSlTo); walk_at "num"; walk_at "toN")
  | ((with_reducible apply iSlFrom); walk_at "num"; walk_at "toN")
  | ((with_reducible apply iSlMid); walk_at "num"; walk_at "toN"; walk_at "toN")
  | ((with_reducible apply iSlS); walk_at "num")
  | ((with_reducible apply iAddS); walk_at "num")
  | ((with_reducible apply iLenS1); walk_at "num")
  | (with_reducible refine iInS ?_)
  | (with_reducible refine iNotInS ?_)
  | ((with_reducible apply iFindYes); assumption)
  | ((with_reducible apply iFindNo); assumption)
  | (with_reducible refine iFindS ?_)
  | (with_reducible refine iStartS ?_)
  | ((with_reducible apply iPartS); walk_at "num")
  | ((with_reducible apply iSetL); (walk_at "lk"); exact rfl; (walk_at "setq"))
  | (with_reducible refine iNoPart ?_)
  | (with_reducible refine iPart ?_)
  | (with_reducible refine iTup ?_)
  | (with_reducible refine iLst ?_)
  | (with_reducible refine isi_int_int ?_)
  | (with_reducible refine isi_int_bool ?_)
  | (with_reducible refine isi_int_str ?_)
  | (with_reducible refine isi_str_str ?_)
  | (with_reducible refine isi_str_int ?_)
  | (with_reducible refine isi_str_bool ?_)
  | (with_reducible refine isi_bl_bool ?_)
  | (with_reducible refine isi_bl_int ?_)
  | (with_reducible refine isi_bl_str ?_)
  | (with_reducible refine iFld ?_)
  | (with_reducible refine iSFld ?_)
  | (with_reducible refine iCon ?_)
  | (with_reducible refine iProp ?_)
  | (with_reducible refine iMeth0 ?_)
  | (with_reducible refine iMeth ?_)
  | (with_reducible refine iWT ?_)
  | (with_reducible refine iWF ?_)
  | ((with_reducible apply iInL); (walk_at "sq"); (walk_at "mapq"))
  | ((with_reducible apply iNInL); (walk_at "sq"); (walk_at "mapq"))
  | (with_reducible refine iLcL ?_)
  | (with_reducible refine iLcS ?_)
  | (with_reducible refine iLcR1 ?_)
  | (with_reducible refine iForL ?_)
  | (with_reducible refine iForS ?_)
  | (with_reducible refine iForR1 ?_)
  | (with_reducible refine iForR2 ?_)
  | (with_reducible refine iYes ?_)
  | ((with_reducible apply iSlL); (first | assumption | exact SqL.of (by walk_at "lk")))
  | ((with_reducible apply iCat); (walk_at "lk"); (walk_at "lk"); (walk_at "len"))
  | ((with_reducible apply iAppend); (walk_at "lk"); (walk_at "len"))
  | ((with_reducible apply iTruNil); exact SqL.of (by walk_at "lk"))
  | ((with_reducible apply iTruCons); exact SqL.of (by walk_at "lk"))
  | ((with_reducible apply iTruL); (first | assumption | exact SqL.of (by walk_at "lk")))
  | ((with_reducible apply iListT); (walk_at "num"))
  | (with_reducible refine iTT ?_)
  | (with_reducible refine iFF ?_)
  | (with_reducible refine iNTT ?_)
  | (with_reducible refine iNFF ?_)
  | ((with_reducible apply eSFld); (walk_at "lk"); assumption; assumption; (simp only [List.length_cons, List.length_nil]; decide); (walk_at "putq"))
  | (walk_at "proj")
  | (with_reducible apply Exists.intro)
  | ((with_reducible apply And.intro); exact rfl)
  | ((with_reducible apply And.intro); walk_at "side")
  | ((with_reducible apply Or.inl); (with_reducible apply Exists.intro); (with_reducible apply And.intro); exact rfl)
  | ((with_reducible apply Or.inr); (with_reducible apply Exists.intro); (with_reducible apply And.intro); exact rfl))
local macro_rules | `(tactic| walk_at "fr") => `(tactic| first
  | exact Fr.refl _ _
  | assumption
  | (refine Fr.trans ?_ Fr.in0; walk_at "fr")
  | (refine Fr.trans ?_ Fr.in1; walk_at "fr")
  | (refine Fr.trans ?_ Fr.in2; walk_at "fr")
  | (refine Fr.trans ?_ (Fr.upd_new (by assumption)); walk_at "fr")
  | (refine Fr.trans ?_ (Fr.of_same (by assumption)); walk_at "fr")
  | (refine Fr.trans ?_ (by assumption); walk_at "fr")
  | (refine Fr.trans ?_ (Fr.wk (by assumption)); walk_at "fr")
  | (refine Fr.trans ?_ (Fr.wk1 (by assumption)); walk_at "fr")
  | (refine Fr.trans ?_ (Fr.wk (Fr.wk (by assumption))); walk_at "fr"))
local macro_rules | `(tactic| walk_at "proj") => `(tactic| first
  | (with_reducible refine (show (Ends.mk _ _ _ _).nx _ _ from ?_); dsimp only)
  | (with_reducible refine (show (Ends.mk _ _ _ _).rt _ _ from ?_); dsimp only))
local macro_rules | `(tactic| walk_at "br0") => `(tactic| first
  | (with_reducible apply iBd)
  | (with_reducible apply iBnd)
  | (with_reducible apply iBb)
  | (with_reducible apply iBbn)
  | (with_reducible apply iWD)
  | (with_reducible apply iWDN))
local macro_rules | `(tactic| walk_at "dead") => `(tactic| first | (exfalso; omega) | contradiction)
local macro_rules | `(tactic| walk_at "br") => `(tactic| (walk_at "br0" <;> (intro hbr; (try simp only [V.str.injEq, V.int.injEq, V.bl.injEq, Vk.S_inj, reduceCtorEq, List.cons.injEq, and_true, not_true_eq_false, not_false_eq_true, decide_eq_true_eq, decide_eq_false_iff_not, Nat.reduceEqDiff, List.length_cons, List.length_nil, and_false, false_and, eq_self] at hbr); (try walk_at "dead"))))
local macro_rules | `(tactic| walk_at "new") => `(tactic| (refine fun (p : Addr) (hp : _ = none) => ?_))
local macro_rules | `(tactic| walk_at "go") => `(tactic| repeat' (first | walk_at "go1" | walk_at "br" | walk_at "new" | (refine fun (y z : V) => ?_)))
local macro_rules | `(tactic| walk_at "go1") => `(tactic| first | (with_reducible refine cWhole ?_) | ((with_reducible apply cHeld); assumption; assumption; (try rw [heldV_some])))
/-- a page that stands, of at most n signs -/
def Pg.okN (p : Pg) (n : Nat) : Prop := p.c ≤ p.t.length ∧ (∀ i, p.m = some i → i ≤ p.c ∧ p.c ≤ i + 2) ∧ p.t.length ≤ n ∧ p.k.length ≤ 2
theorem Pg.okN.ok {p : Pg} {n : Nat} (h : p.okN n) (hn : n ≤ 5000) : p.ok := ⟨h.1, h.2.1, Nat.le_trans h.2.2.1 hn, h.2.2.2⟩
theorem Pg.okN.mono {p : Pg} {m n : Nat} (h : p.okN m) (hn : m ≤ n) : p.okN n := ⟨h.1, h.2.1, Nat.le_trans h.2.2.1 hn, h.2.2.2⟩
theorem pass_ok {p : Pg} {n j : Nat} (h : p.okN n) (hj : p.c + j ≤ p.t.length) : (passP p j).okN n := by
  refine ⟨hj, fun i hi => ?_, h.2.2.1, h.2.2.2⟩
  have hi : mk p.m (p.c + j) = some i := hi
  show i ≤ p.c + j ∧ p.c + j ≤ i + 2
  cases hm : p.m with
  | none => rw [hm] at hi; cases hi
  | some q =>
    rw [hm] at hi
    by_cases h1 : q + 2 < p.c + j
    · rw [mk_lt h1] at hi; cases hi
    · rw [mk_ge h1] at hi
      have e := Option.some.inj hi
      rw [← e]
      have := h.2.1 q hm
      omega
theorem ins_ok {p : Pg} {n : Nat} {s : List Nat} (h : p.okN n) (hs : s.length ≤ 2) : (insP p s).okN (n + 2) := by
  unfold insP
  have hc := h.1
  have hl : (p.t.take p.c ++ s ++ p.t.drop p.c).length = p.t.length + s.length := by
    rw [List.length_append, List.length_append, List.length_take, List.length_drop]
    omega
  refine pass_ok ⟨?_, h.2.1, ?_, h.2.2.2⟩ ?_
  · show p.c ≤ (p.t.take p.c ++ s ++ p.t.drop p.c).length
    omega
  · show (p.t.take p.c ++ s ++ p.t.drop p.c).length ≤ n + 2
    have := h.2.2.1
    omega
  · show p.c + s.length ≤ (p.t.take p.c ++ s ++ p.t.drop p.c).length
    omega
theorem press_ok {p : Pg} {n h c : Nat} (ok : p.okN n) : (pressP p h c).2.okN (n + 2) := by
  have hc := ok.1
  have ok2 := ok.mono (show n ≤ n + 2 by omega)
  have hn1 : ∀ x, p.c + n1 (p.t.drop p.c) x ≤ p.t.length := fun x => by
    have := n1_le (p.t.drop p.c) x
    rw [List.length_drop] at this
    omega
  unfold pressP
  split
  · exact ⟨hc, fun i hi => by
      cases hi
      show p.c ≤ p.c ∧ p.c ≤ p.c + 2
      omega, ok2.2.2.1, ok.2.2.2⟩
  split
  · exact ins_ok ok (by simp)
  split
  · exact pass_ok ok2 (hn1 _)
  split
  · exact pass_ok ok2 (hn1 _)
  split
  · exact ok2
  split
  · exact ok2
  split
  · split
    · exact ok2
    · exact ins_ok ok ok.2.2.2
  split
  · split
    · exact ok2
    · rename_i hd
      refine pass_ok ok2 ?_
      have : 0 < (p.t.drop p.c).length := List.length_pos_iff.mpr hd
      rw [List.length_drop] at this
      omega
  split
  · split
    · exact ok2
    · refine ⟨?_, ok.2.1, ?_, ok.2.2.2⟩
      · show p.c ≤ (p.t.take p.c ++ (p.t.drop p.c).drop 1).length
        rw [List.length_append, List.length_take]
        omega
      · show (p.t.take p.c ++ (p.t.drop p.c).drop 1).length ≤ n + 2
        have := ok.2.2.1
        rw [List.length_append, List.length_take, List.length_drop, List.length_drop]
        omega
  cases hm : p.m with
  | none => exact ok2
  | some i =>
    obtain ⟨h1, h2⟩ := ok.2.1 i hm
    have hk : ((p.t.take p.c).drop i).length ≤ 2 := by
      rw [List.length_drop, List.length_take]
      omega
    show ((if h = 99 then _ else _ : Bool × Pg)).2.okN (n + 2)
    split
    · refine ⟨?_, fun j hj => ?_, ?_, hk⟩
      · show i ≤ (p.t.take i ++ p.t.drop p.c).length
        rw [List.length_append, List.length_take]
        omega
      · cases hj
        show i ≤ i ∧ i ≤ i + 2
        omega
      · show (p.t.take i ++ p.t.drop p.c).length ≤ n + 2
        have := ok.2.2.1
        rw [List.length_append, List.length_take, List.length_drop]
        omega
    · exact ⟨hc, fun j hj => by
        cases hj
        exact ok.2.1 i hm, ok2.2.2.1, hk⟩
theorem press_uniq {p : Pg} {key : List Nat} {h c h' c' : Nat} (k1 : IsKey key h c) (k2 : IsKey key h' c') : pressP p h c = pressP p h' c' := by
  rcases k1 with ⟨rfl, hh⟩ | ⟨rfl, hh⟩
  · rcases k2 with ⟨e, _⟩ | ⟨e, _⟩
    · have e := (List.cons.inj e).1
      subst e
      simp only [plainL, List.mem_cons, List.not_mem_nil, or_false] at hh
      rcases hh with rfl | rfl | rfl | rfl | rfl | rfl | rfl | rfl <;> simp [pressP]
    · cases e
  · rcases k2 with ⟨e, _⟩ | ⟨e, _⟩
    · cases e
    · obtain ⟨e1, e2⟩ := List.cons.inj e
      have e2 := (List.cons.inj e2).1
      rw [e1, e2]
section
variable {P : Program} {w : World} {K : PySem.W.Frag} {mg : Str → Option Value} {base : Heap} {a : Ad} {d : Fd}
/-- both pages press a key -/
def spWorked (C CA : Addr) : Sp := fun vs H Q _ => ∃ (pg dx al o : Addr) (p : Pg) (l v key : List Nat) (h c : Nat), vs = [.ref pg, .ref o, .str (S key)] ∧ PgAt C H pg dx al p ∧ IsOwn H o p ∧ p.ok ∧ IsAl CA H al l v ∧ Tx key ∧ keyB (45 :: srtL l) key = true ∧ IsKey key h c ∧
  ∀ H', PgAt C H' pg dx al (pressP p h c).2 → IsOwn H' o (pressP p h c).2 → Fr [pg, o] H H' → Q (.bl true) H'
theorem scWorked : FnScope ["_law_page", "_law_own", "_law_key_here", "_law_told", "_law_due"] ["_law_page", "_law_own", "_law_key_here"] (defScope sWorked) := ⟨rfl, rfl, rfl, by decide +kernel, rfl, by decide +kernel, by decide +kernel⟩
theorem ok_worked (T : Fns K mg a d) (GBadKey : FnOk P w K mg base CX0 1 a.eBadKey d.eBadKey ["self", "key"] (spEBadKey a.cBadKey)) : FnOk P w K mg base CX0 5 a.aWorked d.dWorked ["_law_page", "_law_own", "_law_key_here"] (spWorked a.cPage a.cAlphabet) := by
  have hcl := T.clP
  have GPress2 : FnOk P w K mg base (L2.CX P w) 4 a.aPress2 d.dPress2 ["self", "key"] (spPress2 a.cPage a.cAlphabet a.cBadKey) := ok_press2 T GBadKey
  have GPress : FnOk P w K mg base CX0 3 a.aPress d.dPress ["_law_page", "_law_key_here"] spPress := ok_press T
  refine T.FWorked.ok scWorked (fun vs H Q E h => ?_) (fun cdv A0 outer s H vs Q E hr h => ?_)
  · obtain ⟨pg, dx, al, o, p, l, v, key, h, c, rfl, _⟩ := h
    rfl
  · obtain ⟨pg, dx, al, o, p, l, v, key, h, c, rfl, ho, hw, hok, hal, hkl, hkb, hkey, k⟩ := h
    have hpo : o ≠ pg := fun e => by
      subst e
      have h1 : H o = some (.lst p.vs) := hw
      have h2 : H o = some (.ins a.cPage dx (p.fs al)) := ho
      rw [h1] at h2
      cases h2
    have ho1 : H pg = some (.ins a.cPage dx (p.fs al)) := ho
    have hlk : (p.fs al).lookup ("press" : Str) = none := rfl
    refine ⟨_, ((pss_cons (ps_set (i := 3) scWorked.nd rfl (Or.inl rfl) (pe_meth (pv 0) T.clP T.mPress2 GPress2 (hr.mono (by decide)) T.bPress2 .nil passE (pa_cons (pv 2) pa_nil)))
      (pss_cons (ps_set (i := 4) scWorked.nd rfl (Or.inl rfl) (pe_call GPress (hr.mono (by decide)) (by rfl) T.gPress T.FPress.kp T.bPress .nil pass0 (pa_cons (pv 1) (pa_cons (pv 2) pa_nil))))
      (pss_one (ps_ret (pe_and (pe_callB call_isi (by rfl) T.z_isinstance (by decide +kernel) (pa_cons (pv 3) (pa_cons (pe_bltn (v := .ty "bool") (by rfl) T.z_bool (by decide +kernel) rfl) pa_nil))) (pe_one (pe_cmpR op_eq (pv 3) (pv 4) (nomark _))))))))), ?_⟩
    walk_at "go"
    refine ⟨pg, dx, al, p, l, v, key, rfl, ho, hok, hal, hkl, fun _ h' c' hkey' H1 h1 f1 => ?_, fun e => absurd (hkb.symm.trans e) (by simp)⟩
    walk_at "go"
    refine ⟨o, p, key, h', c', rfl, hw.fr f1 (by simpa using hpo), hok, hkey', fun H2 h2 f2 => ?_⟩
    walk_at "go"
    rw [decide_eq_true rfl]
    rw [press_uniq hkey' hkey] at h1 h2
    refine k H2 (f2 _ _ (by simpa using hpo.symm) h1) h2 (Fr.trans (Fr.mono f1 ?_) (Fr.wk f2))
    intro x hx
    rw [List.mem_singleton] at hx
    subst hx
    exact List.mem_cons_self
/-! rows of keys -/
def rowV (ks : List (List Nat)) : List V := ks.map fun k => V.str (S k)
/-- n keys in turn -/
def pressAll (p : Pg) (ks : List Nat) : Pg := ks.foldl (fun p h => (pressP p h 0).2) p
theorem pressAll_ok {ks : List Nat} : ∀ {p : Pg} {n : Nat}, p.okN n → (pressAll p ks).okN (n + 2 * ks.length) := by
  induction ks with
  | nil => intro p n h; exact h
  | cons x r ih =>
    intro p n h
    have q := ih (press_ok (h := x) (c := 0) h)
    refine q.mono ?_
    rw [List.length_cons]
    omega
theorem pressAll_take {p : Pg} {ks : List Nat} {i x : Nat} (h : ks[i]? = some x) : pressAll p (ks.take (i + 1)) = (pressP (pressAll p (ks.take i)) x 0).2 := by
  unfold pressAll
  rw [List.take_add_one, h, List.foldl_append]
  rfl
end
end Vk

set_option Elab.async false
set_option linter.all false
set_option maxRecDepth 100000
set_option maxHeartbeats 4000000
namespace Vk
open PySem PySem.Spec PyProof.Rows L2
/-! the walk over a reading -/
open L2 in
local macro_rules | `(tactic| walk_at "lk") => `(tactic| first
  | assumption
  | exact upd_same
  | (refine upd_old (by assumption) ?_; walk_at "lk")
  | (refine upd_oth (by first | assumption | (apply Ne.symm; assumption)) ?_; walk_at "lk")
  | (refine Same.get (by assumption) ?_; walk_at "lk")
  | (refine Fr.get (by assumption) (by first | assumption | (simp only [List.mem_cons, List.not_mem_nil, or_false, not_or]; first | assumption | (refine ⟨?_, ?_⟩ <;> assumption) | (apply Ne.symm; assumption))) ?_; walk_at "lk"))
local macro_rules | `(tactic| walk_at "len") => `(tactic| first
  | (simp only [List.length_cons, List.length_nil, sizeLine_eq]; omega)
  | (simp only [S_len, sizeLine_eq]; omega)
  | (simp only [S_len, sizeLine_eq, List.length_take, List.length_drop, List.length_append, List.length_cons, List.length_nil]; omega))
local macro_rules | `(tactic| walk_at "num") => `(tactic| first | assumption | omega | (simp only [List.length_take, List.length_drop, List.length_append, List.length_cons, List.length_nil]; omega))
local macro_rules | `(tactic| walk_at "ix") => `(tactic| first | exact rfl | assumption | exact atI_nat (by assumption))
local macro_rules | `(tactic| walk_at "putq") => `(tactic| exact rfl)
local macro_rules | `(tactic| walk_at "sq") => `(tactic| first
  | exact .inr (by assumption)
  | exact .inl (by assumption)
  | exact .inl (SqL.of (by walk_at "lk"))
  | exact .inr (SqT.of (by walk_at "lk")))
local macro_rules | `(tactic| walk_at "mapq") => `(tactic| first
  | exact rfl
  | exact (rfl : _ = List.map (fun l => V.str (S l)) [_])
  | exact (rfl : _ = List.map (fun l => V.str (S l)) [_, _])
  | exact (rfl : _ = List.map (fun l => V.str (S l)) [_, _, _])
  | exact (rfl : _ = List.map (fun l => V.str (S l)) [_, _, _, _])
  | exact (rfl : _ = List.map (fun l => V.str (S l)) [_, _, _, _, _]))
local macro_rules | `(tactic| walk_at "setq") => `(tactic| ((try simp only [Int.reduceToNat, List.set_cons_succ, List.set_cons_zero]); exact rfl))
local macro_rules | `(tactic| walk_at "toN") => `(tactic| first | exact rfl | exact (Int.natCast_add _ _).symm | exact (Int.natCast_add _ 1).symm)
local macro_rules | `(tactic| walk_at "cond") => `(tactic| first | omega | (simp only [List.length_map]; omega) | (refine Or.inl ⟨?_, ?_⟩ <;> omega) | (refine Or.inr ⟨?_, ?_⟩ <;> omega) | (refine ⟨?_, ?_⟩ <;> omega))
local macro_rules | `(tactic| walk_at "side") => `(tactic| first
  | rfl
  | (walk_at "lk")
  | exact SqL.of (by walk_at "lk")
  | exact SqT.of (by walk_at "lk")
  | exact .inl (SqL.of (by walk_at "lk"))
  | exact .inr (SqT.of (by walk_at "lk"))
  | exact .inl ⟨rfl, _, SqL.of (by walk_at "lk")⟩
  | exact ⟨_, rfl⟩
  | exact ⟨_, SqL.of (by walk_at "lk")⟩
  | exact ⟨_, by assumption⟩
  | (walk_at "len")
  | omega)
local macro_rules | `(tactic| walk_at "go1") => `(tactic| first
  | (with_reducible refine iSeq ?_)
  | ((with_reducible apply iVar); exact rfl)
  | (with_reducible refine iC ?_)
  | (with_reducible refine iOp ?_)
  | (with_reducible refine iAsg ?_)
  | (with_reducible refine iName ?_)
  | (with_reducible refine iSub ?_)
  | (with_reducible refine iCons ?_)
  | (with_reducible refine iNil ?_)
  | (with_reducible refine iCB ?_)
  | (with_reducible refine iCall0 ?_)
  | (with_reducible refine iCall ?_)
  | (with_reducible refine iI0 ?_)
  | (with_reducible refine iU ?_)
  | (with_reducible refine iUn ?_)
  | (with_reducible refine iIfS ?_)
  | (with_reducible refine iB ?_)
  | (with_reducible refine iTest ?_)
  | (with_reducible refine iAnd ?_)
  | (with_reducible refine iOr ?_)
  | (with_reducible refine iNot ?_)
  | (with_reducible refine iAndV ?_)
  | (with_reducible refine iOrV ?_)
  | (with_reducible refine iNotV ?_)
  | (with_reducible refine iIfE ?_)
  | (with_reducible refine iRet ?_)
  | (with_reducible refine iRetN ?_)
  | (with_reducible refine iDrop ?_)
  | (with_reducible refine iNext ?_)
  | ((with_reducible apply iEq); exact rfl)
  | ((with_reducible apply iNe); exact rfl)
  | ((with_reducible apply iI); walk_at "cond")
  | (with_reducible refine iM1 ?_)
  | (with_reducible refine iBM ?_)
  | (with_reducible refine iSl ?_)
  | ((with_reducible apply iIxL); exact SqL.of (by walk_at "lk"); walk_at "ix")
  | ((with_reducible apply iIxT); exact SqT.of (by walk_at "lk"); walk_at "ix")
  | ((with_reducible apply iIxS); walk_at "num"; walk_at "ix")
  | ((with_reducible apply iSlTo); walk_at "num"; walk_at "toN")
  | ((with_reducible apply iSlFrom); walk_at "num"; walk_at "toN")
  | ((with_reducible apply iSlMid); walk_at "num"; walk_at "toN"; walk_at "toN")
  | ((with_reducible apply iSlS); walk_at "num")
  | ((with_reducible apply iAddS); walk_at "num")
  | ((with_reducible apply iLenS1); walk_at "num")
  | (with_reducible refine iInS ?_)
  | (with_reducible refine iNotInS ?_)
  | ((with_reducible apply iFindYes); assumption)
  | ((with_reducible apply iFindNo); assumption)
  | (with_reducible refine iFindS ?_)
  | (with_reducible refine iStartS ?_)
  | ((with_reducible apply iPartS); walk_at "num")
  | ((with_reducible apply iSetL); (walk_at "lk"); exact rfl; (walk_at "setq"))
  | (with_reducible refine iNoPart ?_)
  | (with_reducible refine iPart ?_)
  | (with_reducible refine iTup ?_)
  | (with_reducible refine iLst ?_)
  | (with_reducible refine isi_int_int ?_)
  | (with_reducible refine isi_int_bool ?_)
  | (with_reducible refine isi_int_str ?_)
  | (with_reducible refine isi_str_str ?_)
  | (with_reducible refine isi_str_int ?_)
  | (with_reducible refine isi_str_bool ?_)
  | (with_reducible refine isi_bl_bool ?_)
  | (with_reducible refine isi_bl_int ?_)
  | (with_reducible refine isi_bl_str ?_)
  | (with_reducible refine iFld ?_)
  | (with_reducible refine iSFld ?_)
  | (with_reducible refine iCon ?_)
  | (with_reducible refine iProp ?_)
  | (with_reducible refine iMeth0 ?_)
  | (with_reducible refine iMeth ?_)
  | (with_reducible refine iWT ?_)
  | (with_reducible refine iWF ?_)
  | ((with_reducible apply iInL); (walk_at "sq"); (walk_at "mapq"))
  | ((with_reducible apply iNInL); (walk_at "sq"); (walk_at "mapq"))
  | (with_reducible refine iLcL ?_)
  | (with_reducible refine iLcS ?_)
  | (with_reducible refine iLcR1 ?_)
  | (with_reducible refine iForL ?_)
  | (with_reducible refine iForS ?_)
  | (with_reducible refine iForR1 ?_)
  | (with_reducible refine iForR2 ?_)
  | (with_reducible refine iYes ?_)
  | ((with_reducible apply iSlL); (first | assumption | exact SqL.of (by walk_at "lk")))
  | ((with_reducible apply iCat); (walk_at "lk"); (walk_at "lk"); (walk_at "len"))
  | ((with_reducible apply iAppend); (walk_at "lk"); (walk_at "len"))
  | ((with_reducible apply iTruNil); exact SqL.of (by walk_at "lk"))
  | ((with_reducible apply iTruCons); exact SqL.of (by walk_at "lk"))
  | ((with_reducible apply iTruL); (first | assumption | exact SqL.of (by walk_at "lk")))
  | ((with_reducible apply iListT); (walk_at "num"))
  | (with_reducible refine iTT ?_)
  | (with_reducible refine iFF ?_)
  | (with_reducible refine iNTT ?_)
  | (with_reducible refine iNFF ?_)
  | ((with_reducible apply eSFld); (walk_at "lk"); assumption; assumption; (simp only [List.length_cons, List.length_nil]; decide); (walk_at "putq"))
  | (walk_at "proj")
  | (with_reducible apply Exists.intro)
  | ((with_reducible apply And.intro); exact rfl)
  | ((with_reducible apply And.intro); walk_at "side")
  | ((with_reducible apply Or.inl); (with_reducible apply Exists.intro); (with_reducible apply And.intro); exact rfl)
  | ((with_reducible apply Or.inr); (with_reducible apply Exists.intro); (with_reducible apply And.intro); exact rfl))
local macro_rules | `(tactic| walk_at "fr") => `(tactic| first
  | exact Fr.refl _ _
  | assumption
  | (refine Fr.trans ?_ Fr.in0; walk_at "fr")
  | (refine Fr.trans ?_ Fr.in1; walk_at "fr")
  | (refine Fr.trans ?_ Fr.in2; walk_at "fr")
  | (refine Fr.trans ?_ (Fr.upd_new (by assumption)); walk_at "fr")
  | (refine Fr.trans ?_ (Fr.of_same (by assumption)); walk_at "fr")
  | (refine Fr.trans ?_ (by assumption); walk_at "fr")
  | (refine Fr.trans ?_ (Fr.wk (by assumption)); walk_at "fr")
  | (refine Fr.trans ?_ (Fr.wk1 (by assumption)); walk_at "fr")
  | (refine Fr.trans ?_ (Fr.wk (Fr.wk (by assumption))); walk_at "fr"))
local macro_rules | `(tactic| walk_at "proj") => `(tactic| first
  | (with_reducible refine (show (Ends.mk _ _ _ _).nx _ _ from ?_); dsimp only)
  | (with_reducible refine (show (Ends.mk _ _ _ _).rt _ _ from ?_); dsimp only))
local macro_rules | `(tactic| walk_at "br0") => `(tactic| first
  | (with_reducible apply iBd)
  | (with_reducible apply iBnd)
  | (with_reducible apply iBb)
  | (with_reducible apply iBbn)
  | (with_reducible apply iWD)
  | (with_reducible apply iWDN))
local macro_rules | `(tactic| walk_at "dead") => `(tactic| first | (exfalso; omega) | contradiction)
local macro_rules | `(tactic| walk_at "br") => `(tactic| (walk_at "br0" <;> (intro hbr; (try simp only [V.str.injEq, V.int.injEq, V.bl.injEq, Vk.S_inj, reduceCtorEq, List.cons.injEq, and_true, not_true_eq_false, not_false_eq_true, decide_eq_true_eq, decide_eq_false_iff_not, Nat.reduceEqDiff, List.length_cons, List.length_nil, and_false, false_and, eq_self] at hbr); (try walk_at "dead"))))
local macro_rules | `(tactic| walk_at "new") => `(tactic| (refine fun (p : Addr) (hp : _ = none) => ?_))
local macro_rules | `(tactic| walk_at "go") => `(tactic| repeat' (first | walk_at "go1" | walk_at "br" | walk_at "new" | (refine fun (y z : V) => ?_)))

theorem iTake {b g : Addr} {n : Nat} {H : Hp} {Q : VK} {E : XK} (hB : IsBox H b g) (h0 : 0 < n) (h1 : n < 2 ^ 30) (k : ∀ (r : Nat) (H' : Hp), r < n → IsBox H' b g → Fr [b] H H' → Q (.int (r : Int)) H') : spTake [.ref b, .int (n : Int)] H Q E := ⟨b, g, n, rfl, hB, h0, h1, k⟩
theorem IsBox.ne {H : Hp} {b g p : Addr} (h : IsBox H b g) (hp : H p = none) : b ≠ p ∧ g ≠ p := by
  obtain ⟨n, x, m, cs, e1, e2, k⟩ := h
  exact ⟨ne_of_none e1 hp, ne_of_none e2 hp⟩
local macro_rules | `(tactic| walk_at "bx") => `(tactic| first
  | assumption
  | (refine IsBox.laid ?_ (by assumption); walk_at "bx")
  | (refine IsBox.same ?_ (by assumption); walk_at "bx")
  | (refine IsBox.upd ?_ (by assumption) (by assumption); walk_at "bx"))
section
variable {P : Program} {w : World} {K : PySem.W.Frag} {mg : Str → Option Value} {base : Heap} {a : Ad} {d : Fd}
def spSize : Sp := fun vs H Q _ => ∃ (b g : Addr) (n : Nat), vs = [.ref b, .int (n : Int)] ∧ IsBox H b g ∧ 0 < n ∧ n ≤ 60 ∧ ∀ (r : Nat) (H' : Hp), r ≤ 60 → IsBox H' b g → Fr [b] H H' → Q (.int (r : Int)) H'
theorem scSize : FnScope ["_law_box_here", "_law_small", "_law_size_here"] ["_law_box_here", "_law_small"] (defScope sSize) := ⟨rfl, rfl, rfl, by decide +kernel, rfl, by decide +kernel, by decide +kernel⟩
theorem ok_size (T : Fns K mg a d) : FnOk P w K mg base CX0 2 a.aSize d.dSize ["_law_box_here", "_law_small"] spSize := by
  have GTake : FnOk P w K mg base CX0 1 a.aTake d.dTake ["_law_box_here", "_law_size_here"] spTake := ok_take T
  refine T.FSize.ok scSize (fun vs H Q E h => ?_) (fun cdv A outer s H vs Q E hr h => ?_)
  · obtain ⟨b, g, n, rfl, _⟩ := h
    rfl
  · obtain ⟨b, g, n, rfl, hB, hn, hn2, k⟩ := h
    refine ⟨_, ((pss_cons (ps_set (i := 2) scSize.nd rfl (Or.inl rfl) (pe_op op_mod (pe_callTy call_int1 (by rfl) T.z_int (by decide +kernel) (pa_cons (pe_op op_add (pe_call GTake (hr.mono (by decide)) (by rfl) T.gTake T.FTake.kp T.bTake .nil pass0 (pa_cons (pv 0) (pa_cons (pv 1) pa_nil))) pe_int) pa_nil)) (pv 1)))
      (pss_cons (ps_if (pt_cmpR op_eq (pe_call GTake (hr.mono (by decide)) (by rfl) T.gTake T.FTake.kp T.bTake .nil pass0 (pa_cons (pv 0) (pa_cons pe_int pa_nil))) pe_int (nomark _)) (pss_one (ps_set (i := 2) scSize.nd rfl (Or.inl rfl) (pe_call GTake (hr.mono (by decide)) (by rfl) T.gTake T.FTake.kp T.bTake .nil pass0 (pa_cons (pv 0) (pa_cons pe_int pa_nil))))) pss_nil)
      (pss_one (ps_ret (pv 2)))))), ?_⟩
    walk_at "go"
    refine iTake hB hn (by omega) fun r H1 hr1 hB1 f1 => ?_
    walk_at "go"
    have e : ((r : Int) + 2) % (n : Int) = (((r + 2) % n : Nat) : Int) := by first | (push_cast; rfl) | simp
    have hm := Nat.mod_lt (r + 2) hn
    rw [e]
    generalize (r + 2) % n = m at hm
    refine ⟨b, g, 8, rfl, hB1, by omega, by omega, fun r2 H2 hr2 hB2 f2 => ?_⟩
    walk_at "go"
    · refine ⟨b, g, 61, rfl, hB2, by omega, by omega, fun r3 H3 hr3 hB3 f3 => ?_⟩
      walk_at "go"
      exact k _ _ (by omega) hB3 (by walk_at "fr")
    · exact k _ _ (by omega) hB2 (by walk_at "fr")
def spVowels : Sp := fun vs H Q _ => ∃ (b g : Addr) (l : List Nat), vs = [.ref b, .str (S l)] ∧ IsBox H b g ∧ l.length ≤ 100 ∧ l.Nodup ∧ ∀ (v : List Nat) (H' : Hp), v.Nodup → (∀ c ∈ v, c ∈ l) → v.length ≤ l.length → IsBox H' b g → Fr [b] H H' → Q (.str (S v)) H'
theorem scVowels : FnScope ["_law_box_here", "_law_letters_here", "_law_vowels_here", "_law_letter"] ["_law_box_here", "_law_letters_here"] (defScope sVowels) := ⟨rfl, rfl, rfl, by decide +kernel, rfl, by decide +kernel, by decide +kernel⟩
theorem ok_vowels (T : Fns K mg a d) : FnOk P w K mg base CX0 2 a.aVowels d.dVowels ["_law_box_here", "_law_letters_here"] spVowels := by
  have GTake : FnOk P w K mg base CX0 1 a.aTake d.dTake ["_law_box_here", "_law_size_here"] spTake := ok_take T
  refine T.FVowels.ok scVowels (fun vs H Q E h => ?_) (fun cdv A outer s H vs Q E hr h => ?_)
  · obtain ⟨b, g, l, rfl, _⟩ := h
    rfl
  · obtain ⟨b, g, l, rfl, hB, hl, hnd, k⟩ := h
    refine ⟨_, ((pss_cons (ps_set (i := 2) scVowels.nd rfl (Or.inl rfl) (pe_strS (l := []) (by decide +kernel)))
      (pss_cons (ps_for PassesOwn.never rfl (pi_str (pv 1)) (pg_name (i := 3) scVowels.nd rfl (Or.inl rfl)) (pss_one (ps_if (pt_cmpR op_eq (pe_call GTake (hr.mono (by decide)) (by rfl) T.gTake T.FTake.kp T.bTake .nil pass0 (pa_cons (pv 0) (pa_cons pe_int pa_nil))) pe_int (nomark _)) (pss_one (ps_set (i := 2) scVowels.nd rfl (Or.inl rfl) (pe_op op_addS (pv 3) (pv 2)))) pss_nil)))
      (pss_one (ps_ret (pv 2)))))), ?_⟩
    walk_at "go"
    refine for_S (fun i σ H' => Stop (∃ (v : List Nat) (u : Option V), σ = [some (.ref b), some (.str (S l)), some (.str (S v)), u] ∧ v.Nodup ∧ (∀ c ∈ v, c ∈ l.take i) ∧ v.length ≤ i ∧ IsBox H' b g ∧ Fr [b] H H'))
      ⟨[], none, rfl, List.nodup_nil, by simp, Nat.le_refl _, hB, Fr.refl _ _⟩ ?_ ?_
    · rintro i c σ H1 hc ⟨v, u, rfl, hv1, hv2, hv3, hB1, f1⟩
      have hil : i < l.length := (List.getElem?_eq_some_iff.mp hc).1
      have e1 : l.take (i + 1) = l.take i ++ [c] := by rw [List.take_add_one, hc]; rfl
      have hcn : c ∉ l.take i := fun hm => by
        have q := hnd.sublist (List.take_sublist (i + 1) l)
        rw [e1, List.nodup_append] at q
        exact q.2.2 c hm c (List.mem_singleton.mpr rfl) rfl
      walk_at "go"
      refine ⟨b, g, 3, rfl, hB1, by omega, by omega, fun r2 H2 hr2 hB2 f2 => ?_⟩
      walk_at "go"
      · refine ⟨c :: v, some (.str (S [c])), rfl, List.nodup_cons.mpr ⟨fun hm => hcn (hv2 c hm), hv1⟩, ?_, by rw [List.length_cons]; omega, hB2, by walk_at "fr"⟩
        intro x hx
        rw [e1]
        rcases List.mem_cons.mp hx with rfl | hx
        · exact List.mem_append_right _ (List.mem_singleton.mpr rfl)
        · exact List.mem_append_left _ (hv2 x hx)
      · exact ⟨v, some (.str (S [c])), rfl, hv1, fun x hx => by rw [e1]; exact List.mem_append_left _ (hv2 x hx), by omega, hB2, by walk_at "fr"⟩
    · rintro σ H1 ⟨v, u, rfl, hv1, hv2, hv3, hB1, f1⟩
      walk_at "go"
      exact k v H1 hv1 (fun c hc => List.mem_of_mem_take (hv2 c hc)) hv3 hB1 f1
theorem atS {l : List Nat} {r : Nat} (h : r < l.length) : ∃ c, atI l (r : Int) = some c ∧ c ∈ l := ⟨l[r], atI_nat (List.getElem?_eq_getElem h), List.getElem_mem h⟩
def spText : Sp := fun vs H Q _ => ∃ (b g : Addr) (sg : List Nat) (n : Nat), vs = [.ref b, .str (S sg), .int (n : Int)] ∧ IsBox H b g ∧ 0 < sg.length ∧ sg.length ≤ 1000 ∧ n ≤ 1000 ∧ ∀ (t : List Nat) (H' : Hp), t.length = n → (∀ c ∈ t, c ∈ sg) → IsBox H' b g → Fr [b] H H' → Q (.str (S t)) H'
theorem scText : FnScope ["_law_box_here", "_law_signs", "_law_size_here", "_law_k"] ["_law_box_here", "_law_signs", "_law_size_here"] (defScope sText) := ⟨rfl, rfl, rfl, by decide +kernel, rfl, by decide +kernel, by decide +kernel⟩
theorem ok_text (T : Fns K mg a d) : FnOk P w K mg base CX0 2 a.aText d.dText ["_law_box_here", "_law_signs", "_law_size_here"] spText := by
  have GTake : FnOk P w K mg base CX0 1 a.aTake d.dTake ["_law_box_here", "_law_size_here"] spTake := ok_take T
  refine T.FText.ok scText (fun vs H Q E h => ?_) (fun cdv A outer s H vs Q E hr h => ?_)
  · obtain ⟨b, g, sg, n, rfl, _⟩ := h
    rfl
  · obtain ⟨b, g, sg, n, rfl, hB, hs1, hs2, hn, k⟩ := h
    refine ⟨_, ((pss_one (ps_ret (pe_join (pe_strS (l := []) (by decide +kernel)) (pe_lc (own := [("_law_k", 3)]) (g := gName 3) (by rfl) scText.nd (pi_range1 (by rfl) T.z_range (pa_cons (pv 2) pa_nil)) (blkOk_by (own := [("_law_k", 3)]) (N := ["_law_box_here", "_law_signs", "_law_size_here", "_law_k"]) (sc := defScope sText) (by decide +kernel)) (fun _ _ _ _ _ => pg_name (i := 3) scText.nd rfl (Or.inl rfl)) (fun _ _ _ _ _ => pts_nil) (fun _ _ _ _ _ => (pe_ix ix_str (pv 1) (pe_call GTake (hr.mono (by decide)) (by rfl) T.gTake T.FTake.kp T.bTake .nil pass0 (pa_cons (pv 0) (pa_cons (pe_callB call_lenS (by rfl) T.z_len (by decide +kernel) (pa_cons (pv 1) pa_nil)) pa_nil))) (fun _ _ => rfl)))))))), ?_⟩
    walk_at "go"
    rename_i D hD
    obtain ⟨nb, ng⟩ := hB.ne hD
    refine lcg_R (fun i H' => Stop (∃ t : List Nat, H' D = some (.lst (t.map fun c => V.str (S [c]))) ∧ t.length = i ∧ (∀ c ∈ t, c ∈ sg) ∧ IsBox H' b g ∧ Fr [b, D] H H')) ⟨[], upd_same, rfl, by simp, hB.laid hD, by walk_at "fr"⟩ (fun _ => rfl) ?_ ?_
    · rintro i H1 hi ⟨t, ht, htl, hts, hB1, f1⟩
      walk_at "go"
      refine ⟨b, g, sg.length, rfl, hB1, hs1, by omega, fun r H2 hr2 hB2 f2 => ?_⟩
      obtain ⟨c, hc, hcm⟩ := atS hr2
      have hD2 := f2 _ _ (by simpa using nb.symm) ht
      walk_at "go"
      refine ⟨by rw [List.length_map, sizeLine_eq]; omega, t ++ [c], ?_, by rw [List.length_append]; simp [htl], ?_, hB2.upd nb ng, by walk_at "fr"⟩
      · rw [upd_same, List.map_append]
        rfl
      · intro x hx
        rcases List.mem_append.mp hx with hx | hx
        · exact hts x hx
        · rw [List.mem_singleton] at hx
          subst hx
          exact hcm
    · rintro H1 ⟨t, ht, htl, hts, hB1, f1⟩
      have htn : t.length = n := by omega
      refine iJoinS (SqL.of ht) (by omega) ?_
      exact k t H1 htn hts hB1 (Fr.forget2 f1 hD)
theorem filt_len {l : List Nat} {c : Nat} (hn : l.Nodup) (hc : c ∈ l) : (l.filter (· != c)).length + 1 = l.length := by
  rw [← hn.erase_eq_filter, List.length_erase_of_mem hc]
  have := List.length_pos_of_mem hc
  omega
def poolL : List Nat := [120, 119, 109, 107, 99, 112, 97, 98, 100, 101, 102, 103, 104, 105, 106, 108, 110, 111, 113, 114, 115, 116, 117, 118, 121, 122]
theorem pool_eq : PySem.Str.ofString "xwmkcpabdefghijlnoqrstuvyz" = S poolL := by decide +kernel
theorem pool_nd : poolL.Nodup := by decide +kernel
theorem pool_az : ∀ c ∈ poolL, c ∈ azL := by decide +kernel
theorem az_256 : ∀ c ∈ azL, c < 256 := by decide +kernel
def spLetters : Sp := fun vs H Q _ => ∃ (b g : Addr) (n : Nat), vs = [.ref b, .int (n : Int)] ∧ IsBox H b g ∧ n ≤ 4 ∧ ∀ (l : List Nat) (H' : Hp), l.length = n → Differ l azL → IsBox H' b g → Fr [b] H H' → Q (.str (S l)) H'
theorem scLetters : FnScope ["_law_box_here", "_law_count", "_law_pool", "_law_menu", "_law_letters_here", "_law_k", "_law_letter"] ["_law_box_here", "_law_count"] (defScope sLetters) := ⟨rfl, rfl, rfl, by decide +kernel, rfl, by decide +kernel, by decide +kernel⟩
theorem ok_letters (T : Fns K mg a d) : FnOk P w K mg base CX0 2 a.aLetters d.dLetters ["_law_box_here", "_law_count"] spLetters := by
  have GTake : FnOk P w K mg base CX0 1 a.aTake d.dTake ["_law_box_here", "_law_size_here"] spTake := ok_take T
  refine T.FLetters.ok scLetters (fun vs H Q E h => ?_) (fun cdv A outer s H vs Q E hr h => ?_)
  · obtain ⟨b, g, n, rfl, _⟩ := h
    rfl
  · obtain ⟨b, g, n, rfl, hB, hn, k⟩ := h
    refine ⟨_, (pss_str (i := 2) scLetters.nd rfl (Or.inl rfl) (psst_cons (PST.of (ps_set (i := 3) scLetters.nd rfl (Or.inl rfl) (pe_call GTake (hr.mono (by decide)) (by rfl) T.gTake T.FTake.kp T.bTake .nil pass0 (pa_cons (pv 0) (pa_cons pe_int pa_nil))))) (psst_cons (PST.of (ps_set (i := 4) scLetters.nd rfl (Or.inl rfl) (pe_strS (l := []) (by decide +kernel)))) (psst_cons (pst_forT PassesOwn.never rfl (pi_range1 (by rfl) T.z_range (pa_cons (pv 1) pa_nil)) (pg_name (i := 5) scLetters.nd rfl (Or.inl rfl)) (pss_pool (ip := 2) (il := 6) (te := _) scLetters.nd rfl rfl (by decide) (Or.inl rfl) rfl rfl (pe_call GTake (hr.mono (by decide)) (by rfl) T.gTake T.FTake.kp T.bTake .nil pass0 (pa_cons (pv 0) (pa_cons (pe_ix (r := rIxL K) ix_list (pe_lst (pa_cons (pe_callB call_lenS (by rfl) T.z_len (by decide +kernel) (pa_cons (pv 2) pa_nil)) (pa_cons (pe_op op_sub pe_int (pv 5)) pa_nil))) (pv 3) (fun _ _ => rfl)) pa_nil))) (pss_one (ps_set (i := 4) scLetters.nd rfl (Or.inl rfl) (pe_op op_addS (pv 4) (pv 6)))) (fun _ _ => rfl) (by decide) (by decide) (by decide))) (PSsT.of (pss_one (ps_ret (pv 4)))))))), ?_⟩
    rw [pool_eq]
    walk_at "go"
    refine ⟨b, g, 2, rfl, hB, by omega, by omega, fun mn H1 hm1 hB1 f1 => ?_⟩
    walk_at "go"
    refine for_R (n := n) (fun i σ H' => Stop (∃ (pl l : List Nat) (v5 v6 : Option V), σ = [some (.ref b), some (.int (n : Int)), some (.str (S pl)), some (.int (mn : Int)), some (.str (S l)), v5, v6] ∧
        pl.Nodup ∧ pl.length + i = 26 ∧ (∀ c ∈ pl, c ∈ azL) ∧ l.length = i ∧ Differ l azL ∧ (∀ c ∈ l, c ∉ pl) ∧ IsBox H' b g ∧ Fr [b] H H'))
      ⟨poolL, [], none, none, rfl, pool_nd, rfl, pool_az, rfl, ⟨List.nodup_nil, by simp⟩, by simp, hB1, f1⟩ ?_ ?_
    · rintro i σ H2 hi ⟨pl, l, v5, v6, rfl, hp1, hp2, hp3, hl1, hl2, hl3, hB2, f2⟩
      walk_at "go"
      refine ⟨pl, rfl, by omega, ?_⟩
      have fin : ∀ (r : Nat), r < pl.length → ∃ c, pl[r]? = some c ∧ c < 256 ∧ (pl.filter (· != c)).length + (i + 1) = 26 ∧ (pl.filter (· != c)).Nodup ∧ (∀ x ∈ pl.filter (· != c), x ∈ azL) ∧ Differ (l ++ [c]) azL ∧ (∀ x ∈ l ++ [c], x ∉ pl.filter (· != c)) := fun r hr => by
        have hc : pl[r]? = some pl[r] := List.getElem?_eq_getElem hr
        have hm : pl[r] ∈ pl := List.getElem_mem hr
        generalize pl[r] = c at hc hm
        have hfl := filt_len hp1 hm
        refine ⟨c, hc, az_256 c (hp3 c hm), by omega, hp1.sublist List.filter_sublist, fun x hx => hp3 x (List.mem_filter.mp hx).1, ⟨?_, ?_⟩, ?_⟩
        · rw [List.nodup_append]
          refine ⟨hl2.1, by simp, fun x hx y hy e => ?_⟩
          rw [List.mem_singleton] at hy
          subst hy e
          exact hl3 x hx hm
        · intro x hx
          rcases List.mem_append.mp hx with h | h
          · exact hl2.2 x h
          · rw [List.mem_singleton] at h
            subst h
            exact hp3 x hm
        · intro x hx hf
          obtain ⟨h1, h2⟩ := List.mem_filter.mp hf
          rcases List.mem_append.mp hx with h | h
          · exact hl3 x h h1
          · rw [List.mem_singleton] at h
            subst h
            simp at h2
      rcases (show mn = 0 ∨ mn = 1 by omega) with rfl | rfl
      · walk_at "go"
        refine ⟨b, g, pl.length, rfl, by walk_at "bx", by omega, by omega, fun r H3 hr3 hB3 f3 => ?_⟩
        obtain ⟨c, hc, h256, q1, q2, q3, q4, q5⟩ := fin r hr3
        refine ⟨r, c, rfl, hc, ?_⟩
        rw [repl_S h256]
        walk_at "go"
        exact ⟨_, _, _, _, rfl, q2, q1, q3, by rw [List.length_append]; simp [hl1], q4, q5, hB3, by walk_at "fr"⟩
      · walk_at "go"
        refine ⟨b, g, 6 - i, by rw [show (6 : Int) - (0 + (i : Int)) = ((6 - i : Nat) : Int) by omega], by walk_at "bx", by omega, by omega, fun r H3 hr3 hB3 f3 => ?_⟩
        obtain ⟨c, hc, h256, q1, q2, q3, q4, q5⟩ := fin r (by omega)
        refine ⟨r, c, rfl, hc, ?_⟩
        rw [repl_S h256]
        walk_at "go"
        exact ⟨_, _, _, _, rfl, q2, q1, q3, by rw [List.length_append]; simp [hl1], q4, q5, hB3, by walk_at "fr"⟩
    · rintro σ H2 ⟨pl, l, v5, v6, rfl, hp1, hp2, hp3, hl1, hl2, hl3, hB2, f2⟩
      walk_at "go"
      exact k l H2 hl1 hl2 hB2 f2
end
end Vk

set_option Elab.async false
set_option linter.all false
set_option maxRecDepth 100000
set_option maxHeartbeats 4000000
namespace Vk
open PySem PySem.Spec PyProof.Rows L2
/-! the walk over a reading -/
open L2 in
local macro_rules | `(tactic| walk_at "lk") => `(tactic| first
  | assumption
  | exact upd_same
  | (refine upd_old (by assumption) ?_; walk_at "lk")
  | (refine upd_oth (by first | assumption | (apply Ne.symm; assumption)) ?_; walk_at "lk")
  | (refine Same.get (by assumption) ?_; walk_at "lk")
  | (refine Fr.get (by assumption) (by first | assumption | (simp only [List.mem_cons, List.not_mem_nil, or_false, not_or]; first | assumption | (refine ⟨?_, ?_⟩ <;> assumption) | (apply Ne.symm; assumption))) ?_; walk_at "lk"))
local macro_rules | `(tactic| walk_at "len") => `(tactic| first
  | (simp only [List.length_cons, List.length_nil, sizeLine_eq]; omega)
  | (simp only [S_len, sizeLine_eq]; omega)
  | (simp only [S_len, sizeLine_eq, List.length_take, List.length_drop, List.length_append, List.length_cons, List.length_nil]; omega))
local macro_rules | `(tactic| walk_at "num") => `(tactic| first | assumption | omega | (simp only [List.length_take, List.length_drop, List.length_append, List.length_cons, List.length_nil]; omega))
local macro_rules | `(tactic| walk_at "ix") => `(tactic| first | exact rfl | assumption | exact atI_nat (by assumption))
local macro_rules | `(tactic| walk_at "putq") => `(tactic| exact rfl)
local macro_rules | `(tactic| walk_at "sq") => `(tactic| first
  | exact .inr (by assumption)
  | exact .inl (by assumption)
  | exact .inl (SqL.of (by walk_at "lk"))
  | exact .inr (SqT.of (by walk_at "lk")))
local macro_rules | `(tactic| walk_at "mapq") => `(tactic| first
  | exact rfl
  | exact (rfl : _ = List.map (fun l => V.str (S l)) [_])
  | exact (rfl : _ = List.map (fun l => V.str (S l)) [_, _])
  | exact (rfl : _ = List.map (fun l => V.str (S l)) [_, _, _])
  | exact (rfl : _ = List.map (fun l => V.str (S l)) [_, _, _, _])
  | exact (rfl : _ = List.map (fun l => V.str (S l)) [_, _, _, _, _]))
local macro_rules | `(tactic| walk_at "setq") => `(tactic| ((try simp only [Int.reduceToNat, List.set_cons_succ, List.set_cons_zero]); exact rfl))
local macro_rules | `(tactic| walk_at "toN") => `(tactic| first | exact rfl | exact (Int.natCast_add _ _).symm | exact (Int.natCast_add _ 1).symm)
local macro_rules | `(tactic| walk_at "cond") => `(tactic| first | omega | (simp only [List.length_map]; omega) | (refine Or.inl ⟨?_, ?_⟩ <;> omega) | (refine Or.inr ⟨?_, ?_⟩ <;> omega) | (refine ⟨?_, ?_⟩ <;> omega))
local macro_rules | `(tactic| walk_at "side") => `(tactic| first
  | rfl
  | (walk_at "lk")
  | exact SqL.of (by walk_at "lk")
  | exact SqT.of (by walk_at "lk")
  | exact .inl (SqL.of (by walk_at "lk"))
  | exact .inr (SqT.of (by walk_at "lk"))
  | exact .inl ⟨rfl, _, SqL.of (by walk_at "lk")⟩
  | exact ⟨_, rfl⟩
  | exact ⟨_, SqL.of (by walk_at "lk")⟩
  | exact ⟨_, by assumption⟩
  | (walk_at "len")
  | omega)
local macro_rules | `(tactic| walk_at "go1") => `(tactic| first
  | (with_reducible refine iSeq ?_)
  | ((with_reducible apply iVar); exact rfl)
  | (with_reducible refine iC ?_)
  | (with_reducible refine iOp ?_)
  | (with_reducible refine iAsg ?_)
  | (with_reducible refine iName ?_)
  | (with_reducible refine iSub ?_)
  | (with_reducible refine iCons ?_)
  | (with_reducible refine iNil ?_)
  | (with_reducible refine iCB ?_)
  | (with_reducible refine iCall0 ?_)
  | (with_reducible refine iCall ?_)
  | (with_reducible refine iI0 ?_)
  | (with_reducible refine iU ?_)
  | (with_reducible refine iUn ?_)
  | (with_reducible refine iIfS ?_)
  | (with_reducible refine iB ?_)
  | (with_reducible refine iTest ?_)
  | (with_reducible refine iAnd ?_)
  | (with_reducible refine iOr ?_)
  | (with_reducible refine iNot ?_)
  | (with_reducible refine iAndV ?_)
  | (with_reducible refine iOrV ?_)
  | (with_reducible refine iNotV ?_)
  | (with_reducible refine iIfE ?_)
  | (with_reducible refine iRet ?_)
  | (with_reducible refine iRetN ?_)
  | (with_reducible refine iDrop ?_)
  | (with_reducible refine iNext ?_)
  | ((with_reducible apply iEq); exact rfl)
  | ((with_reducible apply iNe); exact rfl)
  | ((with_reducible apply iI); walk_at "cond")
  | (with_reducible refine iM1 ?_)
  | (with_reducible refine iBM ?_)
  | (with_reducible refine iSl ?_)
  | ((with_reducible apply iIxL); exact SqL.of (by walk_at "lk"); walk_at "ix")
  | ((with_reducible apply iIxT); exact SqT.of (by walk_at "lk"); walk_at "ix")
  | ((with_reducible apply iIxS); walk_at "num"; walk_at "ix")
  | ((with_reducible apply iSlTo); walk_at "num"; walk_at "toN")
  | ((with_reducible apply iSlFrom); walk_at "num"; walk_at "toN")
  | ((with_reducible apply iSlMid); walk_at "num"; walk_at "toN"; walk_at "toN")
  | ((with_reducible apply iSlS); walk_at "num")
  | ((with_reducible apply iAddS); walk_at "num")
  | ((with_reducible apply iLenS1); walk_at "num")
  | (with_reducible refine iInS ?_)
  | (with_reducible refine iNotInS ?_)
  | ((with_reducible apply iFindYes); assumption)
  | ((with_reducible apply iFindNo); assumption)
  | (with_reducible refine iFindS ?_)
  | (with_reducible refine iStartS ?_)
  | ((with_reducible apply iPartS); walk_at "num")
  | ((with_reducible apply iSetL); (walk_at "lk"); exact rfl; (walk_at "setq"))
  | (with_reducible refine iNoPart ?_)
  | (with_reducible refine iPart ?_)
  | (with_reducible refine iTup ?_)
  | (with_reducible refine iLst ?_)
  | (with_reducible refine isi_int_int ?_)
  | (with_reducible refine isi_int_bool ?_)
  | (with_reducible refine isi_int_str ?_)
  | (with_reducible refine isi_str_str ?_)
  | (with_reducible refine isi_str_int ?_)
  | (with_reducible refine isi_str_bool ?_)
  | (with_reducible refine isi_bl_bool ?_)
  | (with_reducible refine isi_bl_int ?_)
  | (with_reducible refine isi_bl_str ?_)
  | (with_reducible refine iFld ?_)
  | (with_reducible refine iSFld ?_)
  | (with_reducible refine iCon ?_)
  | (with_reducible refine iProp ?_)
  | (with_reducible refine iMeth0 ?_)
  | (with_reducible refine iMeth ?_)
  | (with_reducible refine iWT ?_)
  | (with_reducible refine iWF ?_)
  | ((with_reducible apply iInL); (walk_at "sq"); (walk_at "mapq"))
  | ((with_reducible apply iNInL); (walk_at "sq"); (walk_at "mapq"))
  | (with_reducible refine iLcL ?_)
  | (with_reducible refine iLcS ?_)
  | (with_reducible refine iLcR1 ?_)
  | (with_reducible refine iForL ?_)
  | (with_reducible refine iForS ?_)
  | (with_reducible refine iForR1 ?_)
  | (with_reducible refine iForR2 ?_)
  | (with_reducible refine iYes ?_)
  | ((with_reducible apply iSlL); (first | assumption | exact SqL.of (by walk_at "lk")))
  | ((with_reducible apply iCat); (walk_at "lk"); (walk_at "lk"); (walk_at "len"))
  | ((with_reducible apply iAppend); (walk_at "lk"); (walk_at "len"))
  | ((with_reducible apply iTruNil); exact SqL.of (by walk_at "lk"))
  | ((with_reducible apply iTruCons); exact SqL.of (by walk_at "lk"))
  | ((with_reducible apply iTruL); (first | assumption | exact SqL.of (by walk_at "lk")))
  | ((with_reducible apply iListT); (walk_at "num"))
  | (with_reducible refine iTT ?_)
  | (with_reducible refine iFF ?_)
  | (with_reducible refine iNTT ?_)
  | (with_reducible refine iNFF ?_)
  | ((with_reducible apply eSFld); (walk_at "lk"); assumption; assumption; (simp only [List.length_cons, List.length_nil]; decide); (walk_at "putq"))
  | (walk_at "proj")
  | (with_reducible apply Exists.intro)
  | ((with_reducible apply And.intro); exact rfl)
  | ((with_reducible apply And.intro); walk_at "side")
  | ((with_reducible apply Or.inl); (with_reducible apply Exists.intro); (with_reducible apply And.intro); exact rfl)
  | ((with_reducible apply Or.inr); (with_reducible apply Exists.intro); (with_reducible apply And.intro); exact rfl))
local macro_rules | `(tactic| walk_at "fr") => `(tactic| first
  | exact Fr.refl _ _
  | assumption
  | (refine Fr.trans ?_ Fr.in0; walk_at "fr")
  | (refine Fr.trans ?_ Fr.in1; walk_at "fr")
  | (refine Fr.trans ?_ Fr.in2; walk_at "fr")
  | (refine Fr.trans ?_ (Fr.upd_new (by assumption)); walk_at "fr")
  | (refine Fr.trans ?_ (Fr.of_same (by assumption)); walk_at "fr")
  | (refine Fr.trans ?_ (by assumption); walk_at "fr")
  | (refine Fr.trans ?_ (Fr.wk (by assumption)); walk_at "fr")
  | (refine Fr.trans ?_ (Fr.wk1 (by assumption)); walk_at "fr")
  | (refine Fr.trans ?_ (Fr.wk (Fr.wk (by assumption))); walk_at "fr"))
local macro_rules | `(tactic| walk_at "proj") => `(tactic| first
  | (with_reducible refine (show (Ends.mk _ _ _ _).nx _ _ from ?_); dsimp only)
  | (with_reducible refine (show (Ends.mk _ _ _ _).rt _ _ from ?_); dsimp only))
local macro_rules | `(tactic| walk_at "br0") => `(tactic| first
  | (with_reducible apply iBd)
  | (with_reducible apply iBnd)
  | (with_reducible apply iBb)
  | (with_reducible apply iBbn)
  | (with_reducible apply iWD)
  | (with_reducible apply iWDN))
local macro_rules | `(tactic| walk_at "dead") => `(tactic| first | (exfalso; omega) | contradiction)
local macro_rules | `(tactic| walk_at "br") => `(tactic| (walk_at "br0" <;> (intro hbr; (try simp only [V.str.injEq, V.int.injEq, V.bl.injEq, Vk.S_inj, reduceCtorEq, List.cons.injEq, and_true, not_true_eq_false, not_false_eq_true, decide_eq_true_eq, decide_eq_false_iff_not, Nat.reduceEqDiff, List.length_cons, List.length_nil, and_false, false_and, eq_self] at hbr); (try walk_at "dead"))))
local macro_rules | `(tactic| walk_at "new") => `(tactic| (refine fun (p : Addr) (hp : _ = none) => ?_))
local macro_rules | `(tactic| walk_at "go") => `(tactic| repeat' (first | walk_at "go1" | walk_at "br" | walk_at "new" | (refine fun (y z : V) => ?_)))
local macro_rules | `(tactic| walk_at "bx") => `(tactic| first
  | assumption
  | (refine IsBox.laid ?_ (by assumption); walk_at "bx")
  | (refine IsBox.same ?_ (by assumption); walk_at "bx")
  | (refine IsBox.upd ?_ (by assumption) (by assumption); walk_at "bx"))

section
variable {P : Program} {w : World} {K : PySem.W.Frag} {mg : Str → Option Value} {base : Heap} {a : Ad} {d : Fd}
theorem cut_ints (ns : List Int) (lo hi : Option Int) : ∃ ms : List Int, cutV (ns.map V.int) lo hi = ms.map V.int ∧ ms.length ≤ ns.length := by
  unfold cutV
  rw [← List.map_drop, ← List.map_take]
  refine ⟨_, rfl, ?_⟩
  rw [List.length_take, List.length_drop]
  omega
def modV : V → V
  | .int i => .int (i % 2305843009213693951)
  | v => v
def spBox (K : PySem.W.Frag) : Sp := fun vs H Q _ => ∃ (x : Addr) (ns : List Int) (k : Nat), vs = [.ref x, .int (k : Int)] ∧ SqL K H x (ns.map V.int) ∧ ns.length ≤ 63 ∧ ∀ (b g : Addr) (H' : Hp), H b = none → H g = none → IsBox H' b g → Same H H' → Q (.ref b) H'
theorem scBox : FnScope ["_law_script", "_law_k", "_law_cells", "_law_cell", "_law_great"] ["_law_script", "_law_k"] (defScope sBox) := ⟨rfl, rfl, rfl, by decide +kernel, rfl, by decide +kernel, by decide +kernel⟩
theorem ok_box (T : Fns K mg a d) : FnOk P w K mg base CX0 1 a.aBox d.dBox ["_law_script", "_law_k"] (spBox K) := by
  refine T.FBox.ok scBox (fun vs H Q E h => ?_) (fun cdv A outer s H vs Q E hr h => ?_)
  · obtain ⟨x, ns, k, rfl, _⟩ := h
    rfl
  · obtain ⟨x, ns, kk, rfl, hS, hl, k⟩ := h
    refine ⟨_, ((pss_cons (ps_setLc (i := 2) (own := [("_law_cell", 3)]) (g := gName 3) (by rfl) scBox.nd rfl rfl (by rfl) (pi_list (pe_slice sl_list (pv 0) (po_some (pv 1)) (po_some pe_int))) (blkOk_by (own := [("_law_cell", 3)]) (N := ["_law_script", "_law_k", "_law_cells", "_law_cell", "_law_great"]) (sc := defScope sBox) (by decide +kernel)) (fun _ _ _ _ _ => pg_name (i := 3) scBox.nd rfl (Or.inl rfl)) (fun _ _ _ _ _ => pts_nil) (fun _ _ _ _ _ => (pe_callTy call_int1 (by rfl) T.z_int (by decide +kernel) (pa_cons (pv 3) pa_nil))))
      (pss_cons (ps_if (pt_not (pt_truth (pv 2) (by intro _; rfl))) (pss_one (ps_set (i := 2) scBox.nd rfl (Or.inl rfl) (pe_lst (pa_cons pe_int pa_nil)))) pss_nil)
      (pss_cons (ps_set (i := 4) scBox.nd rfl (Or.inl rfl) (pe_callB call_abs (by rfl) T.z_abs (by decide +kernel) (pa_cons (pe_ix (r := rIxL K) ix_list (pv 2) pe_int (fun _ _ => rfl)) pa_nil)))
      (pss_cons (ps_if (pt_cmpR op_lt (pv 4) (pe_op op_pow pe_int pe_int) (nomark _)) (pss_one (ps_set (i := 4) scBox.nd rfl (Or.inl rfl) pe_int)) pss_nil)
      (pss_one (ps_ret (pe_lst (pa_cons (pv 4) (pa_cons pe_int (pa_cons (pe_lc (own := [("_law_cell", 3)]) (g := gName 3) (by rfl) scBox.nd (pi_list (pv 2)) (blkOk_by (own := [("_law_cell", 3)]) (N := ["_law_script", "_law_k", "_law_cells", "_law_cell", "_law_great"]) (sc := defScope sBox) (by decide +kernel)) (fun _ _ _ _ _ => pg_name (i := 3) scBox.nd rfl (Or.inl rfl)) (fun _ _ _ _ _ => pts_nil) (fun _ _ _ _ _ => (pe_op op_mod (pe_callTy call_int1 (by rfl) T.z_int (by decide +kernel) (pa_cons (pv 3) pa_nil)) pe_int))) pa_nil))))))))))), ?_⟩
    obtain ⟨ms, hms, hml⟩ := cut_ints ns (some (kk : Int)) (some 63)
    rw [show (V.int ((kk : Nat) : Int)) = V.int (kk : Int) from rfl]
    have hcl : (cutV (ns.map V.int) (some (kk : Int)) (some 63)).length ≤ 63 := by rw [hms, List.length_map]; omega
    have hint : ∀ x ∈ cutV (ns.map V.int) (some (kk : Int)) (some 63), ∃ i, x = V.int i := fun x hx => by
      rw [hms] at hx
      obtain ⟨i, _, rfl⟩ := List.mem_map.mp hx
      exact ⟨i, rfl⟩
    walk_at "go"
    rename_i p1 hp1 D hD
    refine lcg_list (xs := cutV (ns.map V.int) (some (kk : Int)) (some 63)) (fun _ => true) (fun v => v) (by omega) (SqL.of upd_same) hD (fun _ => rfl) (fun _ _ _ _ _ q => q) (fun x hx _ H2 Q2 off q => ?_) ?_
    · obtain ⟨i, rfl⟩ := hint x hx
      walk_at "go"
      exact q
    · rw [List.filter_eq_self.mpr (fun _ _ => rfl), List.map_id', hms]
      have hpD : D ≠ p1 := fun e => by
        subst e
        rw [upd_same] at hD
        cases hD
      have sA : Same H (upd (upd H p1 (.lst (ms.map V.int))) D (.lst (ms.map V.int))) := by
        rw [hms] at hD
        exact Vk.Same.trans (Same.upd_new hp1) (Same.upd_new hD)
      have hH2 : (upd (upd H p1 (.lst (ms.map V.int))) D (.lst (ms.map V.int))) D = some (.lst (ms.map V.int)) := upd_same
      have hDH : H D = none := by
        rw [upd_ne hpD] at hD
        exact hD
      generalize upd (upd H p1 (.lst (ms.map V.int))) D (.lst (ms.map V.int)) = H2 at sA hH2
      have fin : ∀ (xs : List Int) (great : Int) (H3 : Hp), Same H H3 → 0 < xs.length → xs.length ≤ 63 → ∀ (G : Addr), H3 G = none → ∀ b, (upd H3 G (.lst ((xs.map fun c => c % 2305843009213693951).map V.int))) b = none →
          Q (.ref b) (upd (upd H3 G (.lst ((xs.map fun c => c % 2305843009213693951).map V.int))) b (.lst [.int great, .int 0, .ref G])) := fun xs great H3 s3 hx0 hx1 G hG b hb => by
        have hbG : b ≠ G := fun e => by
          subst e
          rw [upd_same] at hb
          cases hb
        have hb3 : H3 b = none := by
          rw [upd_ne hbG] at hb
          exact hb
        refine k b G _ (L2.Same.free s3 hb3) (L2.Same.free s3 hG) ⟨hbG, great, 0, xs.map fun c => c % 2305843009213693951, upd_same, upd_old hb upd_same, by omega, by rw [List.length_map]; exact hx0, by rw [List.length_map]; omega, ?_⟩ (Vk.Same.trans s3 (Vk.Same.trans (Same.upd_new hG) (Same.upd_new hb)))
        intro c hc
        obtain ⟨i, _, rfl⟩ := List.mem_map.mp hc
        exact ⟨Int.emod_nonneg _ (by omega), Int.emod_lt_of_pos _ (by omega)⟩
      cases ms with
      | nil =>
        have hH2 : H2 D = some (.lst []) := hH2
        walk_at "go"
        all_goals
          rename_i G hG
          refine lcg_list (xs := [V.int 0]) (fun _ => true) modV (by simp) (SqL.of (by walk_at "lk")) hG (fun _ => rfl) (fun _ _ _ _ _ q => q) (fun x hx _ H2 Q2 off q => ?_) ?_
          · rw [List.mem_singleton] at hx
            subst hx
            walk_at "go"
            exact q
          · walk_at "go"
            rename_i b hb
            exact fin [0] _ _ (Vk.Same.trans sA (Same.upd_new (by assumption))) (by simp) (by simp) G hG b hb
      | cons m0 mr =>
        have hH2 : H2 D = some (.lst (.int m0 :: mr.map V.int)) := hH2
        have hm0 : atI (.int m0 :: mr.map V.int) 0 = some (V.int m0) := atI_nat (j := 0) rfl
        walk_at "go"
        all_goals
          rename_i G hG
          refine lcg_list (xs := V.int m0 :: mr.map V.int) (fun _ => true) modV (by rw [List.length_cons, List.length_map]; rw [List.length_cons] at hml; omega) (SqL.of (by walk_at "lk")) hG (fun _ => rfl) (fun _ _ _ _ _ q => q) (fun x hx _ H2 Q2 off q => ?_) ?_
          · obtain ⟨i, rfl⟩ : ∃ i, x = V.int i := by
              rcases List.mem_cons.mp hx with h | h
              · exact ⟨_, h⟩
              · obtain ⟨i, _, rfl⟩ := List.mem_map.mp h
                exact ⟨i, rfl⟩
            walk_at "go"
            exact q
          · have e : ((V.int m0 :: mr.map V.int).filter fun _ => true).map modV = ((m0 :: mr).map fun c => c % 2305843009213693951).map V.int := by
              rw [List.filter_eq_self.mpr (fun _ _ => rfl), List.map_cons, List.map_map, List.map_map, List.map_cons]
              rfl
            rw [e]
            walk_at "go"
            rename_i b hb
            exact fin (m0 :: mr) _ _ sA (by simp) (by omega) G hG b hb
end
end Vk

set_option Elab.async false
set_option linter.all false
set_option maxRecDepth 100000
set_option maxHeartbeats 1000000
namespace Vk
open PySem PySem.Spec PyProof.Rows L2
/-! the walk over a reading -/
open L2 in
local macro_rules | `(tactic| walk_at "lk") => `(tactic| first
  | assumption
  | exact upd_same
  | (refine upd_old (by assumption) ?_; walk_at "lk")
  | (refine upd_oth (by first | assumption | (apply Ne.symm; assumption)) ?_; walk_at "lk")
  | (refine Same.get (by assumption) ?_; walk_at "lk")
  | (refine Fr.get (by assumption) (by first | assumption | (simp only [List.mem_cons, List.not_mem_nil, or_false, not_or]; first | assumption | (refine ⟨?_, ?_⟩ <;> assumption) | (apply Ne.symm; assumption))) ?_; walk_at "lk"))
local macro_rules | `(tactic| walk_at "len") => `(tactic| first
  | (simp only [List.length_cons, List.length_nil, sizeLine_eq]; omega)
  | (simp only [S_len, sizeLine_eq]; omega)
  | (simp only [S_len, sizeLine_eq, List.length_take, List.length_drop, List.length_append, List.length_cons, List.length_nil]; omega))
local macro_rules | `(tactic| walk_at "num") => `(tactic| first | assumption | omega | (simp only [List.length_take, List.length_drop, List.length_append, List.length_cons, List.length_nil]; omega))
local macro_rules | `(tactic| walk_at "ix") => `(tactic| first | exact rfl | assumption | exact atI_nat (by assumption))
local macro_rules | `(tactic| walk_at "putq") => `(tactic| exact rfl)
local macro_rules | `(tactic| walk_at "sq") => `(tactic| first
  | exact .inr (by assumption)
  | exact .inl (by assumption)
  | exact .inl (SqL.of (by walk_at "lk"))
  | exact .inr (SqT.of (by walk_at "lk")))
local macro_rules | `(tactic| walk_at "mapq") => `(tactic| first
  | exact rfl
  | exact (rfl : _ = List.map (fun l => V.str (S l)) [_])
  | exact (rfl : _ = List.map (fun l => V.str (S l)) [_, _])
  | exact (rfl : _ = List.map (fun l => V.str (S l)) [_, _, _])
  | exact (rfl : _ = List.map (fun l => V.str (S l)) [_, _, _, _])
  | exact (rfl : _ = List.map (fun l => V.str (S l)) [_, _, _, _, _]))
local macro_rules | `(tactic| walk_at "setq") => `(tactic| ((try simp only [Int.reduceToNat, List.set_cons_succ, List.set_cons_zero]); exact rfl))
local macro_rules | `(tactic| walk_at "toN") => `(tactic| first | exact rfl | exact (Int.natCast_add _ _).symm | exact (Int.natCast_add _ 1).symm)
local macro_rules | `(tactic| walk_at "cond") => `(tactic| first | omega | (simp only [List.length_map]; omega) | (refine Or.inl ⟨?_, ?_⟩ <;> omega) | (refine Or.inr ⟨?_, ?_⟩ <;> omega) | (refine ⟨?_, ?_⟩ <;> omega))
local macro_rules | `(tactic| walk_at "side") => `(tactic| first
  | rfl
  | (walk_at "lk")
  | exact SqL.of (by walk_at "lk")
  | exact SqT.of (by walk_at "lk")
  | exact .inl (SqL.of (by walk_at "lk"))
  | exact .inr (SqT.of (by walk_at "lk"))
  | exact .inl ⟨rfl, _, SqL.of (by walk_at "lk")⟩
  | exact ⟨_, rfl⟩
  | exact ⟨_, SqL.of (by walk_at "lk")⟩
  | exact ⟨_, by assumption⟩
  | (walk_at "len")
  | omega)
local macro_rules | `(tactic| walk_at "go1") => `(tactic| first
  | (with_reducible refine iSeq ?_)
  | ((with_reducible apply iVar); exact rfl)
  | (with_reducible refine iC ?_)
  | (with_reducible refine iOp ?_)
  | (with_reducible refine iAsg ?_)
  | (with_reducible refine iName ?_)
  | (with_reducible refine iSub ?_)
  | (with_reducible refine iCons ?_)
  | (with_reducible refine iNil ?_)
  | (with_reducible refine iCB ?_)
  | (with_reducible refine iCall0 ?_)
  | (with_reducible refine iCall ?_)
  | (with_reducible refine iI0 ?_)
  | (with_reducible refine iU ?_)
  | (with_reducible refine iUn ?_)
  | (with_reducible refine iIfS ?_)
  | (with_reducible refine iB ?_)
  | (with_reducible refine iTest ?_)
  | (with_reducible refine iAnd ?_)
  | (with_reducible refine iOr ?_)
  | (with_reducible refine iNot ?_)
  | (with_reducible refine iAndV ?_)
  | (with_reducible refine iOrV ?_)
  | (with_reducible refine iNotV ?_)
  | (with_reducible refine iIfE ?_)
  | (with_reducible refine iRet ?_)
  | (with_reducible refine iRetN ?_)
  | (with_reducible refine iDrop ?_)
  | (with_reducible refine iNext ?_)
  | ((with_reducible apply iEq); exact rfl)
  | ((with_reducible apply iNe); exact rfl)
  | ((with_reducible apply iI); walk_at "cond")
  | (with_reducible refine iM1 ?_)
  | (with_reducible refine iBM ?_)
  | (with_reducible refine iSl ?_)
  | ((with_reducible apply iIxL); exact SqL.of (by walk_at "lk"); walk_at "ix")
  | ((with_reducible apply iIxT); exact SqT.of (by walk_at "lk"); walk_at "ix")
  | ((with_reducible apply iIxS); walk_at "num"; walk_at "ix")
  | ((with_reducible apply iSlTo); walk_at "num"; walk_at "toN")
  | ((with_reducible apply iSlFrom); walk_at "num"; walk_at "toN")
  | ((with_reducible apply iSlMid); walk_at "num"; walk_at "toN"; walk_at "toN")
  | ((with_reducible apply iSlS); walk_at "num")
  | ((with_reducible apply iAddS); walk_at "num")
  | ((with_reducible apply iLenS1); walk_at "num")
  | (with_reducible refine iInS ?_)
  | (with_reducible refine iNotInS ?_)
  | ((with_reducible apply iFindYes); assumption)
  | ((with_reducible apply iFindNo); assumption)
  | (with_reducible refine iFindS ?_)
  | (with_reducible refine iStartS ?_)
  | ((with_reducible apply iPartS); walk_at "num")
  | ((with_reducible apply iSetL); (walk_at "lk"); exact rfl; (walk_at "setq"))
  | (with_reducible refine iNoPart ?_)
  | (with_reducible refine iPart ?_)
  | (with_reducible refine iTup ?_)
  | (with_reducible refine iLst ?_)
  | (with_reducible refine isi_int_int ?_)
  | (with_reducible refine isi_int_bool ?_)
  | (with_reducible refine isi_int_str ?_)
  | (with_reducible refine isi_str_str ?_)
  | (with_reducible refine isi_str_int ?_)
  | (with_reducible refine isi_str_bool ?_)
  | (with_reducible refine isi_bl_bool ?_)
  | (with_reducible refine isi_bl_int ?_)
  | (with_reducible refine isi_bl_str ?_)
  | (with_reducible refine iFld ?_)
  | (with_reducible refine iSFld ?_)
  | (with_reducible refine iCon ?_)
  | (with_reducible refine iProp ?_)
  | (with_reducible refine iMeth0 ?_)
  | (with_reducible refine iMeth ?_)
  | (with_reducible refine iWT ?_)
  | (with_reducible refine iWF ?_)
  | ((with_reducible apply iInL); (walk_at "sq"); (walk_at "mapq"))
  | ((with_reducible apply iNInL); (walk_at "sq"); (walk_at "mapq"))
  | (with_reducible refine iLcL ?_)
  | (with_reducible refine iLcS ?_)
  | (with_reducible refine iLcR1 ?_)
  | (with_reducible refine iForL ?_)
  | (with_reducible refine iForS ?_)
  | (with_reducible refine iForR1 ?_)
  | (with_reducible refine iForR2 ?_)
  | (with_reducible refine iYes ?_)
  | ((with_reducible apply iSlL); (first | assumption | exact SqL.of (by walk_at "lk")))
  | ((with_reducible apply iCat); (walk_at "lk"); (walk_at "lk"); (walk_at "len"))
  | ((with_reducible apply iAppend); (walk_at "lk"); (walk_at "len"))
  | ((with_reducible apply iTruNil); exact SqL.of (by walk_at "lk"))
  | ((with_reducible apply iTruCons); exact SqL.of (by walk_at "lk"))
  | ((with_reducible apply iTruL); (first | assumption | exact SqL.of (by walk_at "lk")))
  | ((with_reducible apply iListT); (walk_at "num"))
  | (with_reducible refine iTT ?_)
  | (with_reducible refine iFF ?_)
  | (with_reducible refine iNTT ?_)
  | (with_reducible refine iNFF ?_)
  | ((with_reducible apply eSFld); (walk_at "lk"); assumption; assumption; (simp only [List.length_cons, List.length_nil]; decide); (walk_at "putq"))
  | (walk_at "proj")
  | (with_reducible apply Exists.intro)
  | ((with_reducible apply And.intro); exact rfl)
  | ((with_reducible apply And.intro); walk_at "side")
  | ((with_reducible apply Or.inl); (with_reducible apply Exists.intro); (with_reducible apply And.intro); exact rfl)
  | ((with_reducible apply Or.inr); (with_reducible apply Exists.intro); (with_reducible apply And.intro); exact rfl))
local macro_rules | `(tactic| walk_at "fr") => `(tactic| first
  | exact Fr.refl _ _
  | assumption
  | (refine Fr.trans ?_ Fr.in0; walk_at "fr")
  | (refine Fr.trans ?_ Fr.in1; walk_at "fr")
  | (refine Fr.trans ?_ Fr.in2; walk_at "fr")
  | (refine Fr.trans ?_ (Fr.upd_new (by assumption)); walk_at "fr")
  | (refine Fr.trans ?_ (Fr.of_same (by assumption)); walk_at "fr")
  | (refine Fr.trans ?_ (by assumption); walk_at "fr")
  | (refine Fr.trans ?_ (Fr.wk (by assumption)); walk_at "fr")
  | (refine Fr.trans ?_ (Fr.wk1 (by assumption)); walk_at "fr")
  | (refine Fr.trans ?_ (Fr.wk (Fr.wk (by assumption))); walk_at "fr"))
local macro_rules | `(tactic| walk_at "proj") => `(tactic| first
  | (with_reducible refine (show (Ends.mk _ _ _ _).nx _ _ from ?_); dsimp only)
  | (with_reducible refine (show (Ends.mk _ _ _ _).rt _ _ from ?_); dsimp only))
local macro_rules | `(tactic| walk_at "br0") => `(tactic| first
  | (with_reducible apply iBd)
  | (with_reducible apply iBnd)
  | (with_reducible apply iBb)
  | (with_reducible apply iBbn)
  | (with_reducible apply iWD)
  | (with_reducible apply iWDN))
local macro_rules | `(tactic| walk_at "dead") => `(tactic| first | (exfalso; omega) | contradiction)
local macro_rules | `(tactic| walk_at "br") => `(tactic| (walk_at "br0" <;> (intro hbr; (try simp only [V.str.injEq, V.int.injEq, V.bl.injEq, Vk.S_inj, reduceCtorEq, List.cons.injEq, and_true, not_true_eq_false, not_false_eq_true, decide_eq_true_eq, decide_eq_false_iff_not, Nat.reduceEqDiff, List.length_cons, List.length_nil, and_false, false_and, eq_self] at hbr); (try walk_at "dead"))))
local macro_rules | `(tactic| walk_at "new") => `(tactic| (refine fun (p : Addr) (hp : _ = none) => ?_))
local macro_rules | `(tactic| walk_at "go") => `(tactic| repeat' (first | walk_at "go1" | walk_at "br" | walk_at "new" | (refine fun (y z : V) => ?_)))
section
variable {P : Program} {w : World} {K : PySem.W.Frag} {mg : Str → Option Value} {base : Heap} {a : Ad} {d : Fd}
def spKey : Sp := fun vs H Q _ => ∃ (b g : Addr) (sg mn : List Nat), vs = [.ref b, .str (S sg), .str (S mn)] ∧ IsBox H b g ∧ 0 < sg.length ∧ sg.length ≤ 100 ∧ (∀ c ∈ sg, c < 256) ∧ 0 < mn.length ∧ mn.length ≤ 100 ∧ (∀ c ∈ mn, c ∈ plainL ∨ c ∈ signL) ∧
  ∀ (key : List Nat) (h c : Nat) (H' : Hp), Tx key → keyB sg key = true → IsKey key h c → IsBox H' b g → Fr [b] H H' → Q (.str (S key)) H'
theorem scKey : FnScope ["_law_box_here", "_law_signs", "_law_menu", "_law_head"] ["_law_box_here", "_law_signs", "_law_menu"] (defScope sKey) := ⟨rfl, rfl, rfl, by decide +kernel, rfl, by decide +kernel, by decide +kernel⟩
theorem ok_key (T : Fns K mg a d) : FnOk P w K mg base CX0 2 a.aKey d.dKey ["_law_box_here", "_law_signs", "_law_menu"] spKey := by
  have GTake : FnOk P w K mg base CX0 1 a.aTake d.dTake ["_law_box_here", "_law_size_here"] spTake := ok_take T
  refine T.FKey.ok scKey (fun vs H Q E h => ?_) (fun cdv A outer s H vs Q E hr h => ?_)
  · obtain ⟨b, g, sg, mn, rfl, _⟩ := h
    rfl
  · obtain ⟨b, g, sg, mn, rfl, hB, h1, h2, h3, h4, h5, h6, k⟩ := h
    refine ⟨_, ((pss_cons (ps_set (i := 3) scKey.nd rfl (Or.inl rfl) (pe_ix ix_str (pv 2) (pe_call GTake (hr.mono (by decide)) (by rfl) T.gTake T.FTake.kp T.bTake .nil pass0 (pa_cons (pv 0) (pa_cons (pe_callB call_lenS (by rfl) T.z_len (by decide +kernel) (pa_cons (pv 2) pa_nil)) pa_nil))) (fun _ _ => rfl)))
      (pss_cons (ps_if (pt_cmpR op_inS (pv 3) (pe_strS (l := [39, 61, 47]) (by decide +kernel)) rfl) (pss_one (ps_ret (pe_op op_addS (pv 3) (pe_ix ix_str (pv 1) (pe_call GTake (hr.mono (by decide)) (by rfl) T.gTake T.FTake.kp T.bTake .nil pass0 (pa_cons (pv 0) (pa_cons (pe_callB call_lenS (by rfl) T.z_len (by decide +kernel) (pa_cons (pv 1) pa_nil)) pa_nil))) (fun _ _ => rfl))))) pss_nil)
      (pss_one (ps_ret (pv 3)))))), ?_⟩
    walk_at "go"
    refine ⟨b, g, mn.length, rfl, hB, by omega, by omega, fun r H1 hr1 hB1 f1 => ?_⟩
    have hx : mn[r]? = some mn[r] := List.getElem?_eq_getElem hr1
    have hxm : mn[r] ∈ mn := List.getElem_mem hr1
    generalize mn[r] = x at hx hxm
    have hx2 := h6 x hxm
    refine iIxS (by omega) (atI_nat hx) ?_
    walk_at "go"
    · refine ⟨b, g, sg.length, rfl, hB1, by omega, by omega, fun r2 H2 hr2 hB2 f2 => ?_⟩
      have hy : sg[r2]? = some sg[r2] := List.getElem?_eq_getElem hr2
      have hym : sg[r2] ∈ sg := List.getElem_mem hr2
      generalize sg[r2] = y at hy hym
      refine iIxS (by omega) (atI_nat hy) ?_
      walk_at "go"
      rename_i hb
      have hxs : x ∈ signL := hb
      have := h3 y hym
      refine k ([x] ++ [y]) x y H2 ⟨by simp, fun c hc => ?_⟩ (by simp [keyB, hxs, hym]) (.inr ⟨rfl, hxs⟩) hB2 (Fr.trans f1 f2)
      simp at hc
      rcases hc with rfl | rfl
      · have : ∀ c ∈ signL, c < 256 := by decide
        exact Nat.lt_trans (this c hxs) (by decide)
      · omega
    · rename_i hb
      have hxp : x ∈ plainL := hx2.resolve_right hb
      refine k [x] x 0 H1 ⟨by simp, fun c hc => ?_⟩ ?_ (.inl ⟨rfl, hxp⟩) hB1 f1
      · rw [List.mem_singleton] at hc
        rw [hc]
        have : ∀ c ∈ plainL, c < 256 := by decide
        exact Nat.lt_trans (this x hxp) (by decide)
      · simp only [plainL, List.mem_cons, List.not_mem_nil, or_false] at hxp
        rcases hxp with rfl | rfl | rfl | rfl | rfl | rfl | rfl | rfl <;> rfl
end
end Vk

set_option Elab.async false
set_option linter.all false
set_option maxRecDepth 100000
set_option maxHeartbeats 1000000
namespace Vk
open PySem PySem.Spec PyProof.Rows L2
/-! the walk over a reading -/
open L2 in
local macro_rules | `(tactic| walk_at "lk") => `(tactic| first
  | assumption
  | exact upd_same
  | (refine upd_old (by assumption) ?_; walk_at "lk")
  | (refine upd_oth (by first | assumption | (apply Ne.symm; assumption)) ?_; walk_at "lk")
  | (refine Same.get (by assumption) ?_; walk_at "lk")
  | (refine Fr.get (by assumption) (by first | assumption | (simp only [List.mem_cons, List.not_mem_nil, or_false, not_or]; first | assumption | (refine ⟨?_, ?_⟩ <;> assumption) | (apply Ne.symm; assumption))) ?_; walk_at "lk"))
local macro_rules | `(tactic| walk_at "len") => `(tactic| first
  | (simp only [List.length_cons, List.length_nil, sizeLine_eq]; omega)
  | (simp only [S_len, sizeLine_eq]; omega)
  | (simp only [S_len, sizeLine_eq, List.length_take, List.length_drop, List.length_append, List.length_cons, List.length_nil]; omega))
local macro_rules | `(tactic| walk_at "num") => `(tactic| first | assumption | omega | (simp only [List.length_take, List.length_drop, List.length_append, List.length_cons, List.length_nil]; omega))
local macro_rules | `(tactic| walk_at "ix") => `(tactic| first | exact rfl | assumption | exact atI_nat (by assumption))
local macro_rules | `(tactic| walk_at "putq") => `(tactic| exact rfl)
local macro_rules | `(tactic| walk_at "sq") => `(tactic| first
  | exact .inr (by assumption)
  | exact .inl (by assumption)
  | exact .inl (SqL.of (by walk_at "lk"))
  | exact .inr (SqT.of (by walk_at "lk")))
local macro_rules | `(tactic| walk_at "mapq") => `(tactic| first
  | exact rfl
  | exact (rfl : _ = List.map (fun l => V.str (S l)) [_])
  | exact (rfl : _ = List.map (fun l => V.str (S l)) [_, _])
  | exact (rfl : _ = List.map (fun l => V.str (S l)) [_, _, _])
  | exact (rfl : _ = List.map (fun l => V.str (S l)) [_, _, _, _])
  | exact (rfl : _ = List.map (fun l => V.str (S l)) [_, _, _, _, _]))
local macro_rules | `(tactic| walk_at "setq") => `(tactic| ((try simp only [Int.reduceToNat, List.set_cons_succ, List.set_cons_zero]); exact rfl))
local macro_rules | `(tactic| walk_at "toN") => `(tactic| first | exact rfl | exact (Int.natCast_add _ _).symm | exact (Int.natCast_add _ 1).symm)
local macro_rules | `(tactic| walk_at "cond") => `(tactic| first | omega | (simp only [List.length_map]; omega) | (refine Or.inl ⟨?_, ?_⟩ <;> omega) | (refine Or.inr ⟨?_, ?_⟩ <;> omega) | (refine ⟨?_, ?_⟩ <;> omega))
local macro_rules | `(tactic| walk_at "side") => `(tactic| first
  | rfl
  | (walk_at "lk")
  | exact SqL.of (by walk_at "lk")
  | exact SqT.of (by walk_at "lk")
  | exact .inl (SqL.of (by walk_at "lk"))
  | exact .inr (SqT.of (by walk_at "lk"))
  | exact .inl ⟨rfl, _, SqL.of (by walk_at "lk")⟩
  | exact ⟨_, rfl⟩
  | exact ⟨_, SqL.of (by walk_at "lk")⟩
  | exact ⟨_, by assumption⟩
  | (walk_at "len")
  | omega)
local macro_rules | `(tactic| walk_at "go1") => `(tactic| first
  | (with_reducible refine iSeq ?_)
  | ((with_reducible apply iVar); exact rfl)
  | (with_reducible refine iC ?_)
  | (with_reducible refine iOp ?_)
  | (with_reducible refine iAsg ?_)
  | (with_reducible refine iName ?_)
  | (with_reducible refine iSub ?_)
  | (with_reducible refine iCons ?_)
  | (with_reducible refine iNil ?_)
  | (with_reducible refine iCB ?_)
  | (with_reducible refine iCall0 ?_)
  | (with_reducible refine iCall ?_)
  | (with_reducible refine iI0 ?_)
  | (with_reducible refine iU ?_)
  | (with_reducible refine iUn ?_)
  | (with_reducible refine iIfS ?_)
  | (with_reducible refine iB ?_)
  | (with_reducible refine iTest ?_)
  | (with_reducible refine iAnd ?_)
  | (with_reducible refine iOr ?_)
  | (with_reducible refine iNot ?_)
  | (with_reducible refine iAndV ?_)
  | (with_reducible refine iOrV ?_)
  | (with_reducible refine iNotV ?_)
  | (with_reducible refine iIfE ?_)
  | (with_reducible refine iRet ?_)
  | (with_reducible refine iRetN ?_)
  | (with_reducible refine iDrop ?_)
  | (with_reducible refine iNext ?_)
  | ((with_reducible apply iEq); exact rfl)
  | ((with_reducible apply iNe); exact rfl)
  | ((with_reducible apply iI); walk_at "cond")
  | (with_reducible refine iM1 ?_)
  | (with_reducible refine iBM ?_)
  | (with_reducible refine iSl ?_)
  | ((with_reducible apply iIxL); exact SqL.of (by walk_at "lk"); walk_at "ix")
  | ((with_reducible apply iIxT); exact SqT.of (by walk_at "lk"); walk_at "ix")
  | ((with_reducible apply iIxS); walk_at "num"; walk_at "ix")
  | ((with_reducible apply iSlTo); walk_at "num"; walk_at "toN")
  | ((with_reducible apply iSlFrom); walk_at "num"; walk_at "toN")
  | ((with_reducible apply iSlMid); walk_at "num"; walk_at "toN"; walk_at "toN")
  | ((with_reducible apply iSlS); walk_at "num")
  | ((with_reducible apply iAddS); walk_at "num")
  | ((with_reducible apply iLenS1); walk_at "num")
  | (with_reducible refine iInS ?_)
  | (with_reducible refine iNotInS ?_)
  | ((with_reducible apply iFindYes); assumption)
  | ((with_reducible apply iFindNo); assumption)
  | (with_reducible refine iFindS ?_)
  | (with_reducible refine iStartS ?_)
  | ((with_reducible apply iPartS); walk_at "num")
  | ((with_reducible apply iSetL); (walk_at "lk"); exact rfl; (walk_at "setq"))
  | (with_reducible refine iNoPart ?_)
  | (with_reducible refine iPart ?_)
  | (with_reducible refine iTup ?_)
  | (with_reducible refine iLst ?_)
  | (with_reducible refine isi_int_int ?_)
  | (with_reducible refine isi_int_bool ?_)
  | (with_reducible refine isi_int_str ?_)
  | (with_reducible refine isi_str_str ?_)
  | (with_reducible refine isi_str_int ?_)
  | (with_reducible refine isi_str_bool ?_)
  | (with_reducible refine isi_bl_bool ?_)
  | (with_reducible refine isi_bl_int ?_)
  | (with_reducible refine isi_bl_str ?_)
  | (with_reducible refine iFld ?_)
  | (with_reducible refine iSFld ?_)
  | (with_reducible refine iCon ?_)
  | (with_reducible refine iProp ?_)
  | (with_reducible refine iMeth0 ?_)
  | (with_reducible refine iMeth ?_)
  | (with_reducible refine iWT ?_)
  | (with_reducible refine iWF ?_)
  | ((with_reducible apply iInL); (walk_at "sq"); (walk_at "mapq"))
  | ((with_reducible apply iNInL); (walk_at "sq"); (walk_at "mapq"))
  | (with_reducible refine iLcL ?_)
  | (with_reducible refine iLcS ?_)
  | (with_reducible refine iLcR1 ?_)
  | (with_reducible refine iForL ?_)
  | (with_reducible refine iForS ?_)
  | (with_reducible refine iForR1 ?_)
  | (with_reducible refine iForR2 ?_)
  | (with_reducible refine iYes ?_)
  | ((with_reducible apply iSlL); (first | assumption | exact SqL.of (by walk_at "lk")))
  | ((with_reducible apply iCat); (walk_at "lk"); (walk_at "lk"); (walk_at "len"))
  | ((with_reducible apply iAppend); (walk_at "lk"); (walk_at "len"))
  | ((with_reducible apply iTruNil); exact SqL.of (by walk_at "lk"))
  | ((with_reducible apply iTruCons); exact SqL.of (by walk_at "lk"))
  | ((with_reducible apply iTruL); (first | assumption | exact SqL.of (by walk_at "lk")))
  | ((with_reducible apply iListT); (walk_at "num"))
  | (with_reducible refine iTT ?_)
  | (with_reducible refine iFF ?_)
  | (with_reducible refine iNTT ?_)
  | (with_reducible refine iNFF ?_)
  | ((with_reducible apply eSFld); (walk_at "lk"); assumption; assumption; (simp only [List.length_cons, List.length_nil]; decide); (walk_at "putq"))
  | (walk_at "proj")
  | (with_reducible apply Exists.intro)
  | ((with_reducible apply And.intro); exact rfl)
  | ((with_reducible apply And.intro); walk_at "side")
  | ((with_reducible apply Or.inl); (with_reducible apply Exists.intro); (with_reducible apply And.intro); exact rfl)
  | ((with_reducible apply Or.inr); (with_reducible apply Exists.intro); (with_reducible apply And.intro); exact rfl))
local macro_rules | `(tactic| walk_at "fr") => `(tactic| first
  | exact Fr.refl _ _
  | assumption
  | (refine Fr.trans ?_ Fr.in0; walk_at "fr")
  | (refine Fr.trans ?_ Fr.in1; walk_at "fr")
  | (refine Fr.trans ?_ Fr.in2; walk_at "fr")
  | (refine Fr.trans ?_ (Fr.upd_new (by assumption)); walk_at "fr")
  | (refine Fr.trans ?_ (Fr.of_same (by assumption)); walk_at "fr")
  | (refine Fr.trans ?_ (by assumption); walk_at "fr")
  | (refine Fr.trans ?_ (Fr.wk (by assumption)); walk_at "fr")
  | (refine Fr.trans ?_ (Fr.wk1 (by assumption)); walk_at "fr")
  | (refine Fr.trans ?_ (Fr.wk (Fr.wk (by assumption))); walk_at "fr"))
local macro_rules | `(tactic| walk_at "proj") => `(tactic| first
  | (with_reducible refine (show (Ends.mk _ _ _ _).nx _ _ from ?_); dsimp only)
  | (with_reducible refine (show (Ends.mk _ _ _ _).rt _ _ from ?_); dsimp only))
local macro_rules | `(tactic| walk_at "br0") => `(tactic| first
  | (with_reducible apply iBd)
  | (with_reducible apply iBnd)
  | (with_reducible apply iBb)
  | (with_reducible apply iBbn)
  | (with_reducible apply iWD)
  | (with_reducible apply iWDN))
local macro_rules | `(tactic| walk_at "dead") => `(tactic| first | (exfalso; omega) | contradiction)
local macro_rules | `(tactic| walk_at "br") => `(tactic| (walk_at "br0" <;> (intro hbr; (try simp only [V.str.injEq, V.int.injEq, V.bl.injEq, Vk.S_inj, reduceCtorEq, List.cons.injEq, and_true, not_true_eq_false, not_false_eq_true, decide_eq_true_eq, decide_eq_false_iff_not, Nat.reduceEqDiff, List.length_cons, List.length_nil, and_false, false_and, eq_self] at hbr); (try walk_at "dead"))))
local macro_rules | `(tactic| walk_at "new") => `(tactic| (refine fun (p : Addr) (hp : _ = none) => ?_))
local macro_rules | `(tactic| walk_at "go") => `(tactic| repeat' (first | walk_at "go1" | walk_at "br" | walk_at "new" | (refine fun (y z : V) => ?_)))
theorem IsAl.fr {C al : Addr} {H H' : Hp} {l v : List Nat} {L : List Addr} (h : IsAl C H al l v) (f : Fr L H H') (hx : al ∉ L) : IsAl C H' al l v := by
  obtain ⟨dx, e⟩ := h
  exact ⟨dx, f _ _ hx e⟩
theorem IsAl.ne {C al p : Addr} {H : Hp} {l v : List Nat} (h : IsAl C H al l v) (hp : H p = none) : al ≠ p := by
  obtain ⟨dx, e⟩ := h
  exact ne_of_none e hp
theorem plain_key {x : Nat} {sg : List Nat} (hx : x ∈ plainL) : Tx [x] ∧ keyB sg [x] = true ∧ IsKey [x] x 0 := by
  simp only [plainL, List.mem_cons, List.not_mem_nil, or_false] at hx
  rcases hx with rfl | rfl | rfl | rfl | rfl | rfl | rfl | rfl
  all_goals exact ⟨⟨by decide, by decide⟩, rfl, .inl ⟨rfl, by decide⟩⟩
theorem cPressPl {C CA BK pg dx al : Addr} {p : Pg} {l v : List Nat} {x : Nat} {H : Hp} {Q : VK} {E : XK} (hx : x ∈ plainL) (ho : PgAt C H pg dx al p) (ok : p.ok) (hal : IsAl CA H al l v)
    (k : ∀ H', PgAt C H' pg dx al (pressP p x 0).2 → Fr [pg] H H' → Q (.bl (pressP p x 0).1) H') : spPress2 C CA BK [.ref pg, .str (S [x])] H Q E := by
  obtain ⟨h1, h2, h3⟩ := plain_key (sg := 45 :: srtL l) hx
  refine ⟨pg, dx, al, p, l, v, [x], rfl, ho, ok, hal, h1, fun _ h c hk H' a b => ?_, fun e => absurd (h2.symm.trans e) (by simp)⟩
  rw [press_uniq hk h3] at a ⊢
  exact k H' a b
theorem alF_ne {C CA al : Addr} {l v : List Nat} {dx dxa : Addr} {p : Pg} : (HO.ins CA dxa (alF l v)) ≠ .ins C dx (p.fs al) := fun e => by
  injection e with e1 e2 e3
  have := congrArg (fun l => l.map Prod.fst) e3
  simp [Pg.fs, alF] at this
theorem ne_get {H : Hp} {x y : Addr} {A B : HO} (h1 : H x = some A) (h2 : H y = some B) (n : A ≠ B) : x ≠ y := fun e => by
  subst e
  rw [h1] at h2
  injection h2 with h2
  exact n h2
theorem paste_back {t : List Nat} {c i : Nat} (h1 : i ≤ c) (h2 : c ≤ t.length) (h3 : c ≤ i + 2) : pressP ⟨t.take i ++ t.drop c, i, some i, (t.take c).drop i⟩ 112 0 = (decide ((t.take c).drop i ≠ []), ⟨t, c, some i, (t.take c).drop i⟩) := by
  have hl : ((t.take c).drop i).length = c - i := by rw [List.length_drop, List.length_take]; omega
  have ht : t.take i ++ (t.take c).drop i = t.take c := by
    have : t.take i = (t.take c).take i := by rw [List.take_take, Nat.min_eq_left h1]
    rw [this, List.take_append_drop]
  have hlt : (t.take i).length = i := by rw [List.length_take]; omega
  by_cases hh : (t.take c).drop i = []
  · have hc : c = i := by
      rw [hh] at hl
      simp at hl
      omega
    subst hc
    simp [pressP, hh]
  · have e1 : (t.take i ++ t.drop c).take i = t.take i := by rw [List.take_append_of_le_length (by omega), List.take_take, Nat.min_self]
    have e2 : (t.take i ++ t.drop c).drop i = t.drop c := by rw [List.drop_append_of_le_length (by omega), List.drop_take, Nat.sub_self, List.take_zero, List.nil_append]
    have e3 : i + (c - i) = c := by omega
    simp only [pressP, insP, passP, Nat.reduceEqDiff, if_false, if_true, hh, e1, e2, hl, e3, ht, List.take_append_drop, mk_ge (show ¬ i + 2 < c by omega), ne_eq, not_false_eq_true, decide_true]
section
variable {P : Program} {w : World} {K : PySem.W.Frag} {mg : Str → Option Value} {base : Heap} {a : Ad} {d : Fd}
def backP (p : Pg) : Pg := match p.m with
  | none => p
  | some i => { p with k := (p.t.take p.c).drop i }
def spRestored (C CA : Addr) : Sp := fun vs H Q _ => ∃ (pg dx al o : Addr) (p : Pg) (l v : List Nat), vs = [.ref pg, .ref o] ∧ PgAt C H pg dx al p ∧ IsOwn H o p ∧ p.ok ∧ IsAl CA H al l v ∧
  ∀ H', PgAt C H' pg dx al (backP p) → IsOwn H' o (backP p) → Fr [pg, o] H H' → Q (.bl true) H'
theorem cSame {C pg dx al o : Addr} {p : Pg} {H : Hp} {Q : VK} {E : XK} (h1 : PgAt C H pg dx al p) (h2 : IsOwn H o p) (h3 : p.ok) (h : Q (.bl true) H) : spSame C [.ref pg, .ref o] H Q E := ⟨pg, dx, al, o, p, rfl, h1, h2, h3, h⟩
theorem scRestored : FnScope ["_law_page", "_law_own", "_law_before", "_law_held", "_law_pasted"] ["_law_page", "_law_own"] (defScope sRestored) := ⟨rfl, rfl, rfl, by decide +kernel, rfl, by decide +kernel, by decide +kernel⟩
theorem ok_restored (T : Fns K mg a d) (GBadKey : FnOk P w K mg base CX0 1 a.eBadKey d.eBadKey ["self", "key"] (spEBadKey a.cBadKey)) : FnOk P w K mg base CX0 5 a.aRestored d.dRestored ["_law_page", "_law_own"] (spRestored a.cPage a.cAlphabet) := by
  have hcl := T.clP
  have GPress2 : FnOk P w K mg base (L2.CX P w) 4 a.aPress2 d.dPress2 ["self", "key"] (spPress2 a.cPage a.cAlphabet a.cBadKey) := ok_press2 T GBadKey
  have GSame : FnOk P w K mg base CX0 3 a.aSame d.dSame ["_law_page", "_law_own"] (spSame a.cPage) := ok_same T
  refine T.FRestored.ok scRestored (fun vs H Q E h => ?_) (fun cdv A0 outer s H vs Q E hr h => ?_)
  · obtain ⟨pg, dx, al, o, p, l, v, rfl, _⟩ := h
    rfl
  · obtain ⟨pg, dx, al, o, ⟨t, c, m, kk⟩, l, v, rfl, ho, hw, hok, hal, k⟩ := h
    have hw0 : H o = some (.lst [.str (S t), .int (c : Int), optV m, .str (S kk)]) := hw
    have hpo : o ≠ pg := fun e => by
      subst e
      have h2 : H o = some (.ins a.cPage dx (Pg.fs al ⟨t, c, m, kk⟩)) := ho
      rw [hw0] at h2
      cases h2
    have hapg : al ≠ pg := fun e => by
      obtain ⟨_, q⟩ := hal
      have h2 : H pg = some (.ins a.cPage dx (Pg.fs al ⟨t, c, m, kk⟩)) := ho
      rw [e, h2] at q
      injection q with q
      exact alF_ne q.symm
    have ho1 : H pg = some (.ins a.cPage dx (Pg.fs al ⟨t, c, m, kk⟩)) := ho
    have hapo : al ≠ o := fun e => by
      obtain ⟨_, q⟩ := hal
      rw [e, hw0] at q
      cases q
    have hlk : (Pg.fs al ⟨t, c, m, kk⟩).lookup ("press" : Str) = none := rfl
    obtain ⟨hc, hm, ht, hk⟩ := id hok
    have hc : c ≤ t.length := hc
    have ht : t.length ≤ 5000 := ht
    refine ⟨_, ((pss_cons (ps_set (i := 2) scRestored.nd rfl (Or.inl rfl) (pe_callTy call_list_of (by rfl) T.z_list (by decide +kernel) (pa_cons (pv 1) pa_nil)))
      (pss_cons (ps_if (pt_cmpR op_isN (pe_ix (r := rIxL K) ix_list (pv 1) pe_int (fun _ _ => rfl)) pe_non (nomark _)) (pss_cons (ps_if (PW.pt (pw_or (pt_cmpR op_isnot_bl (pe_meth (pv 0) T.clP T.mPress2 GPress2 (hr.mono (by decide)) T.bPress2 .nil passE (pa_cons (pe_strS (l := [107]) (by decide +kernel)) pa_nil)) pe_bl (nomark _)) (pw_or1 (pt_cmpR op_isnot_bl (pe_meth (pv 0) T.clP T.mPress2 GPress2 (hr.mono (by decide)) T.bPress2 .nil passE (pa_cons (pe_strS (l := [99]) (by decide +kernel)) pa_nil)) pe_bl (nomark _))))) (pss_one (ps_ret pe_bl)) pss_nil)
      (pss_one (ps_ret (pe_call GSame (hr.mono (by decide)) (by rfl) T.gSame T.FSame.kp T.bSame .nil pass0 (pa_cons (pv 0) (pa_cons (pv 1) pa_nil)))))) pss_nil)
      (pss_cons (ps_set (i := 3) scRestored.nd rfl (Or.inl rfl) (pe_slice sl_str (pe_ix (r := rIxL K) ix_list (pv 1) pe_int (fun _ _ => rfl)) (po_some (pe_ix (r := rIxL K) ix_list (pv 1) pe_int (fun _ _ => rfl))) (po_some (pe_ix (r := rIxL K) ix_list (pv 1) pe_int (fun _ _ => rfl)))))
      (pss_cons (ps_asg (pv 3) (pg_sub (pv 1) pe_int set_list))
      (pss_cons (ps_if (PW.pt (pw_or (pt_cmpR op_isnot_bl (pe_meth (pv 0) T.clP T.mPress2 GPress2 (hr.mono (by decide)) T.bPress2 .nil passE (pa_cons (pe_strS (l := [107]) (by decide +kernel)) pa_nil)) pe_bl (nomark _)) (pw_or1 (pt_not (pt_val (pe_call GSame (hr.mono (by decide)) (by rfl) T.gSame T.FSame.kp T.bSame .nil pass0 (pa_cons (pv 0) (pa_cons (pv 1) pa_nil)))))))) (pss_one (ps_ret pe_bl)) pss_nil)
      (pss_cons (ps_asg (pe_op op_addS (pe_slice sl_str (pe_ix (r := rIxL K) ix_list (pv 1) pe_int (fun _ _ => rfl)) po_none (po_some (pe_ix (r := rIxL K) ix_list (pv 1) pe_int (fun _ _ => rfl)))) (pe_slice sl_str (pe_ix (r := rIxL K) ix_list (pv 1) pe_int (fun _ _ => rfl)) (po_some (pe_ix (r := rIxL K) ix_list (pv 1) pe_int (fun _ _ => rfl))) po_none)) (pg_sub (pv 1) pe_int set_list))
      (pss_cons (ps_asg (pe_ix (r := rIxL K) ix_list (pv 1) pe_int (fun _ _ => rfl)) (pg_sub (pv 1) pe_int set_list))
      (pss_cons (ps_if (PW.pt (pw_or (pt_cmpR op_isnot_bl (pe_meth (pv 0) T.clP T.mPress2 GPress2 (hr.mono (by decide)) T.bPress2 .nil passE (pa_cons (pe_strS (l := [99]) (by decide +kernel)) pa_nil)) pe_bl (nomark _)) (pw_or1 (pt_not (pt_val (pe_call GSame (hr.mono (by decide)) (by rfl) T.gSame T.FSame.kp T.bSame .nil pass0 (pa_cons (pv 0) (pa_cons (pv 1) pa_nil)))))))) (pss_one (ps_ret pe_bl)) pss_nil)
      (pss_cons (ps_set (i := 4) scRestored.nd rfl (Or.inl rfl) (pe_meth (pv 0) T.clP T.mPress2 GPress2 (hr.mono (by decide)) T.bPress2 .nil passE (pa_cons (pe_strS (l := [112]) (by decide +kernel)) pa_nil)))
      (pss_cons (ps_if (PW.pt (pw_or (pt_not (pt_val (pe_callB call_isi (by rfl) T.z_isinstance (by decide +kernel) (pa_cons (pv 4) (pa_cons (pe_bltn (v := .ty "bool") (by rfl) T.z_bool (by decide +kernel) rfl) pa_nil))))) (pw_or1 (pt_cmpR op_ne (pv 4) (pe_cmpR op_ne (pv 3) (pe_strS (l := []) (by decide +kernel)) (nomark _)) (nomark _))))) (pss_one (ps_ret pe_bl)) pss_nil)
      (pss_cons (ps_asg (pe_ix (r := rIxL K) ix_list (pv 2) pe_int (fun _ _ => rfl)) (pg_sub (pv 1) pe_int set_list))
      (pss_cons (ps_asg (pe_ix (r := rIxL K) ix_list (pv 2) pe_int (fun _ _ => rfl)) (pg_sub (pv 1) pe_int set_list))
      (pss_one (ps_ret (pe_call GSame (hr.mono (by decide)) (by rfl) T.gSame T.FSame.kp T.bSame .nil pass0 (pa_cons (pv 0) (pa_cons (pv 1) pa_nil)))))))))))))))))), ?_⟩
    cases m with
    | none =>
      have hw0 : H o = some (.lst [.str (S t), .int (c : Int), .non, .str (S kk)]) := hw0
      have e1 : pressP ⟨t, c, none, kk⟩ 107 0 = (false, ⟨t, c, none, kk⟩) := by simp [pressP]
      have e2 : pressP ⟨t, c, none, kk⟩ 99 0 = (false, ⟨t, c, none, kk⟩) := by simp [pressP]
      walk_at "go"
      rename_i q hq _
      have f0 : Fr [pg, o] H (upd H q (.lst [.str (S t), .int (c : Int), .non, .str (S kk)])) := Fr.upd_new hq
      refine cPressPl (l := l) (v := v) (by decide) (upd_old hq ho) hok (hal.same (Same.upd_new hq)) fun H1 h1 f1 => ?_
      rw [e1] at h1 ⊢
      have f1' := f1
      have f1 : Fr [pg, o] H H1 := Fr.trans f0 (Fr.wk1 f1)
      have hal1 := hal.fr f1 (by simp [hapg, hapo])
      have hw1 : IsOwn H1 o ⟨t, c, none, kk⟩ := f1' _ _ (by simpa using hpo) (upd_old hq hw0)
      have ho1 : H1 pg = some (.ins a.cPage dx (Pg.fs al ⟨t, c, none, kk⟩)) := h1
      walk_at "go"
      refine cPressPl (l := l) (v := v) (by decide) h1 hok hal1 fun H2 h2 f2 => ?_
      rw [e2] at h2 ⊢
      have hal2 := hal1.fr f2 (by simp [hapg])
      have f2' := f2
      have f2 : Fr [pg, o] H H2 := Fr.trans f1 (Fr.wk1 f2)
      have hw2 : IsOwn H2 o ⟨t, c, none, kk⟩ := hw1.fr f2' (by simpa using hpo)
      walk_at "go"
      refine cSame h2 hw2 hok ?_
      exact k H2 h2 hw2 f2
    | some i =>
      have hw0 : H o = some (.lst [.str (S t), .int (c : Int), .int (i : Int), .str (S kk)]) := hw0
      obtain ⟨hic, hci⟩ := hm i rfl
      have hic : i ≤ c := hic
      have hci : c ≤ i + 2 := hci
      have hk' : kk.length ≤ 2 := hk
      have e1 : pressP ⟨t, c, some i, kk⟩ 107 0 = (true, ⟨t, c, some i, (t.take c).drop i⟩) := by simp [pressP]
      have e2 : pressP ⟨t, c, some i, (t.take c).drop i⟩ 99 0 = (true, ⟨t.take i ++ t.drop c, i, some i, (t.take c).drop i⟩) := by simp [pressP]
      have e3 := paste_back hic hc (by omega)
      have hkl : ((t.take c).drop i).length ≤ 2 := by rw [List.length_drop, List.length_take]; omega
      have ok1 : (⟨t, c, some i, (t.take c).drop i⟩ : Pg).ok := ⟨hc, hm, ht, hkl⟩
      have ok2 : (⟨t.take i ++ t.drop c, i, some i, (t.take c).drop i⟩ : Pg).ok := by
        refine ⟨?_, fun j hj => ?_, ?_, hkl⟩
        · show i ≤ (t.take i ++ t.drop c).length
          rw [List.length_append, List.length_take]
          omega
        · cases hj
          exact ⟨Nat.le_refl _, by show i ≤ i + 2; omega⟩
        · show (t.take i ++ t.drop c).length ≤ 5000
          rw [List.length_append, List.length_take, List.length_drop]
          omega
      generalize hheld : (t.take c).drop i = held at e1 e2 e3 hkl ok1 ok2
      walk_at "go"
      rename_i q hq _
      rw [hheld]
      have hoq : o ≠ q := ne_of_none hw0 hq
      have hpq : pg ≠ q := ne_of_none ho1 hq
      have hpo' := hpo.symm
      have hq1 : (upd (upd H q (.lst [.str (S t), .int (c : Int), .int (i : Int), .str (S kk)])) o (.lst [.str (S t), .int (c : Int), .int (i : Int), .str (S held)])) q = some (.lst [.str (S t), .int (c : Int), .int (i : Int), .str (S kk)]) := upd_oth hoq.symm upd_same
      have hw1 : IsOwn (upd (upd H q (.lst [.str (S t), .int (c : Int), .int (i : Int), .str (S kk)])) o (.lst [.str (S t), .int (c : Int), .int (i : Int), .str (S held)])) o ⟨t, c, some i, held⟩ := upd_same
      have h1 : PgAt a.cPage (upd (upd H q (.lst [.str (S t), .int (c : Int), .int (i : Int), .str (S kk)])) o (.lst [.str (S t), .int (c : Int), .int (i : Int), .str (S held)])) pg dx al ⟨t, c, some i, kk⟩ := upd_oth hpo' (upd_old hq ho)
      have f1 : Fr [pg, o] H (upd (upd H q (.lst [.str (S t), .int (c : Int), .int (i : Int), .str (S kk)])) o (.lst [.str (S t), .int (c : Int), .int (i : Int), .str (S held)])) := Fr.trans (Fr.upd_new hq) Fr.in1
      generalize upd (upd H q (.lst [.str (S t), .int (c : Int), .int (i : Int), .str (S kk)])) o (.lst [.str (S t), .int (c : Int), .int (i : Int), .str (S held)]) = H1 at hq1 hw1 h1 f1
      have hal1 := hal.fr f1 (by simp [hapg, hapo])
      refine cPressPl (l := l) (v := v) (by decide) h1 hok hal1 fun H2 h2 f2 => ?_
      rw [e1] at h2 ⊢
      have hal2 := hal1.fr f2 (by simp [hapg])
      have hw2 : IsOwn H2 o ⟨t, c, some i, held⟩ := hw1.fr f2 (by simpa using hpo)
      have hq2 := f2 _ _ (by simpa using hpq.symm) hq1
      have f2 : Fr [pg, o] H H2 := Fr.trans f1 (Fr.wk1 f2)
      have ho2 : H2 pg = some (.ins a.cPage dx (Pg.fs al ⟨t, c, some i, held⟩)) := h2
      have hw2' : H2 o = some (.lst [.str (S t), .int (c : Int), .int (i : Int), .str (S held)]) := hw2
      walk_at "go"
      refine cSame h2 hw2 ok1 ?_
      walk_at "go"
      have hw3 : IsOwn (upd (upd H2 o (.lst [.str (S (t.take i ++ t.drop c)), .int (c : Int), .int (i : Int), .str (S held)])) o (.lst [.str (S (t.take i ++ t.drop c)), .int (i : Int), .int (i : Int), .str (S held)])) o ⟨t.take i ++ t.drop c, i, some i, held⟩ := upd_same
      have h3 : PgAt a.cPage (upd (upd H2 o (.lst [.str (S (t.take i ++ t.drop c)), .int (c : Int), .int (i : Int), .str (S held)])) o (.lst [.str (S (t.take i ++ t.drop c)), .int (i : Int), .int (i : Int), .str (S held)])) pg dx al ⟨t, c, some i, held⟩ := upd_oth hpo' (upd_oth hpo' ho2)
      have hq3 : (upd (upd H2 o (.lst [.str (S (t.take i ++ t.drop c)), .int (c : Int), .int (i : Int), .str (S held)])) o (.lst [.str (S (t.take i ++ t.drop c)), .int (i : Int), .int (i : Int), .str (S held)])) q = some (.lst [.str (S t), .int (c : Int), .int (i : Int), .str (S kk)]) := upd_oth hoq.symm (upd_oth hoq.symm hq2)
      have f3 : Fr [pg, o] H2 (upd (upd H2 o (.lst [.str (S (t.take i ++ t.drop c)), .int (c : Int), .int (i : Int), .str (S held)])) o (.lst [.str (S (t.take i ++ t.drop c)), .int (i : Int), .int (i : Int), .str (S held)])) := Fr.trans Fr.in1 Fr.in1
      generalize upd (upd H2 o (.lst [.str (S (t.take i ++ t.drop c)), .int (c : Int), .int (i : Int), .str (S held)])) o (.lst [.str (S (t.take i ++ t.drop c)), .int (i : Int), .int (i : Int), .str (S held)]) = H3 at hq3 hw3 h3 f3
      have hal3 := hal2.fr f3 (by simp [hapg, hapo])
      have f3 : Fr [pg, o] H H3 := Fr.trans f2 f3
      clear hw0 ho1 hq1 hw1 h1 f1 hal1 hal2 hw2 hq2 ho2 hw2' f2 h2
      refine cPressPl (l := l) (v := v) (by decide) h3 ok1 hal3 fun H4 h4 f4 => ?_
      rw [e2] at h4 ⊢
      have hal4 := hal3.fr f4 (by simp [hapg])
      have hw4 : IsOwn H4 o ⟨t.take i ++ t.drop c, i, some i, held⟩ := hw3.fr f4 (by simpa using hpo)
      have hq4 := f4 _ _ (by simpa using hpq.symm) hq3
      have f4 : Fr [pg, o] H H4 := Fr.trans f3 (Fr.wk1 f4)
      have ho4 : H4 pg = some (.ins a.cPage dx (Pg.fs al ⟨t.take i ++ t.drop c, i, some i, held⟩)) := h4
      clear hq3 hw3 h3 f3 hal3
      walk_at "go"
      refine cSame h4 hw4 ok2 ?_
      walk_at "go"
      refine cPressPl (l := l) (v := v) (by decide) h4 ok2 hal4 fun H5 h5 f5 => ?_
      rw [e3] at h5 ⊢
      have hw5 : IsOwn H5 o ⟨t.take i ++ t.drop c, i, some i, held⟩ := hw4.fr f5 (by simpa using hpo)
      have hw5' : H5 o = some (.lst [.str (S (t.take i ++ t.drop c)), .int (i : Int), .int (i : Int), .str (S held)]) := hw5
      have hq5 := f5 _ _ (by simpa using hpq.symm) hq4
      have f5 : Fr [pg, o] H H5 := Fr.trans f4 (Fr.wk1 f5)
      clear ho4 h4 hw4 hq4 f4 hal4
      walk_at "go"
      · exfalso
        rename_i hb
        exact hb (by simp)
      · have f6 : Fr [pg, o] H5 (upd (upd H5 o (.lst [.str (S t), .int (i : Int), .int (i : Int), .str (S held)])) o (.lst [.str (S t), .int (c : Int), .int (i : Int), .str (S held)])) := Fr.trans Fr.in1 Fr.in1
        have h6 : PgAt a.cPage (upd (upd H5 o (.lst [.str (S t), .int (i : Int), .int (i : Int), .str (S held)])) o (.lst [.str (S t), .int (c : Int), .int (i : Int), .str (S held)])) pg dx al ⟨t, c, some i, held⟩ := upd_oth hpo' (upd_oth hpo' h5)
        have hw6 : IsOwn (upd (upd H5 o (.lst [.str (S t), .int (i : Int), .int (i : Int), .str (S held)])) o (.lst [.str (S t), .int (c : Int), .int (i : Int), .str (S held)])) o ⟨t, c, some i, held⟩ := upd_same
        refine cSame h6 hw6 ok1 ?_
        have eb : backP ⟨t, c, some i, kk⟩ = ⟨t, c, some i, held⟩ := by rw [← hheld]; rfl
        exact k _ (by rw [eb]; exact h6) (by rw [eb]; exact hw6) (Fr.trans f5 f6)
end
end Vk

set_option Elab.async false
set_option linter.all false
set_option maxRecDepth 100000
set_option maxHeartbeats 1000000
namespace Vk
open PySem PySem.Spec PyProof.Rows L2
/-! the walk over a reading -/
open L2 in
local macro_rules | `(tactic| walk_at "lk") => `(tactic| first
  | assumption
  | exact upd_same
  | (refine upd_old (by assumption) ?_; walk_at "lk")
  | (refine upd_oth (by first | assumption | (apply Ne.symm; assumption)) ?_; walk_at "lk")
  | (refine Same.get (by assumption) ?_; walk_at "lk")
  | (refine Fr.get (by assumption) (by first | assumption | (simp only [List.mem_cons, List.not_mem_nil, or_false, not_or]; first | assumption | (refine ⟨?_, ?_⟩ <;> assumption) | (apply Ne.symm; assumption))) ?_; walk_at "lk"))
local macro_rules | `(tactic| walk_at "len") => `(tactic| first
  | (simp only [List.length_cons, List.length_nil, sizeLine_eq]; omega)
  | (simp only [S_len, sizeLine_eq]; omega)
  | (simp only [S_len, sizeLine_eq, List.length_take, List.length_drop, List.length_append, List.length_cons, List.length_nil]; omega))
local macro_rules | `(tactic| walk_at "num") => `(tactic| first | assumption | omega | (simp only [List.length_take, List.length_drop, List.length_append, List.length_cons, List.length_nil]; omega))
local macro_rules | `(tactic| walk_at "ix") => `(tactic| first | exact rfl | assumption | exact atI_nat (by assumption))
local macro_rules | `(tactic| walk_at "putq") => `(tactic| exact rfl)
local macro_rules | `(tactic| walk_at "sq") => `(tactic| first
  | exact .inr (by assumption)
  | exact .inl (by assumption)
  | exact .inl (SqL.of (by walk_at "lk"))
  | exact .inr (SqT.of (by walk_at "lk")))
local macro_rules | `(tactic| walk_at "mapq") => `(tactic| first
  | exact rfl
  | exact (rfl : _ = List.map (fun l => V.str (S l)) [_])
  | exact (rfl : _ = List.map (fun l => V.str (S l)) [_, _])
  | exact (rfl : _ = List.map (fun l => V.str (S l)) [_, _, _])
  | exact (rfl : _ = List.map (fun l => V.str (S l)) [_, _, _, _])
  | exact (rfl : _ = List.map (fun l => V.str (S l)) [_, _, _, _, _]))
local macro_rules | `(tactic| walk_at "setq") => `(tactic| ((try simp only [Int.reduceToNat, List.set_cons_succ, List.set_cons_zero]); exact rfl))
local macro_rules | `(tactic| walk_at "toN") => `(tactic| first | exact rfl | exact (Int.natCast_add _ _).symm | exact (Int.natCast_add _ 1).symm)
local macro_rules | `(tactic| walk_at "cond") => `(tactic| first | omega | (simp only [List.length_map]; omega) | (refine Or.inl ⟨?_, ?_⟩ <;> omega) | (refine Or.inr ⟨?_, ?_⟩ <;> omega) | (refine ⟨?_, ?_⟩ <;> omega))
local macro_rules | `(tactic| walk_at "side") => `(tactic| first
  | rfl
  | (walk_at "lk")
  | exact SqL.of (by walk_at "lk")
  | exact SqT.of (by walk_at "lk")
  | exact .inl (SqL.of (by walk_at "lk"))
  | exact .inr (SqT.of (by walk_at "lk"))
  | exact .inl ⟨rfl, _, SqL.of (by walk_at "lk")⟩
  | exact ⟨_, rfl⟩
  | exact ⟨_, SqL.of (by walk_at "lk")⟩
  | exact ⟨_, by assumption⟩
  | (walk_at "len")
  | omega)
local macro_rules | `(tactic| walk_at "go1") => `(tactic| first
  | (with_reducible refine iSeq ?_)
  | ((with_reducible apply iVar); exact rfl)
  | (with_reducible refine iC ?_)
  | (with_reducible refine iOp ?_)
  | (with_reducible refine iAsg ?_)
  | (with_reducible refine iName ?_)
  | (with_reducible refine iSub ?_)
  | (with_reducible refine iCons ?_)
  | (with_reducible refine iNil ?_)
  | (with_reducible refine iCB ?_)
  | (with_reducible refine iCall0 ?_)
  | (with_reducible refine iCall ?_)
  | (with_reducible refine iI0 ?_)
  | (with_reducible refine iU ?_)
  | (with_reducible refine iUn ?_)
  | (with_reducible refine iIfS ?_)
  | (with_reducible refine iB ?_)
  | (with_reducible refine iTest ?_)
  | (with_reducible refine iAnd ?_)
  | (with_reducible refine iOr ?_)
  | (with_reducible refine iNot ?_)
  | (with_reducible refine iAndV ?_)
  | (with_reducible refine iOrV ?_)
  | (with_reducible refine iNotV ?_)
  | (with_reducible refine iIfE ?_)
  | (with_reducible refine iRet ?_)
  | (with_reducible refine iRetN ?_)
  | (with_reducible refine iDrop ?_)
  | (with_reducible refine iNext ?_)
  | ((with_reducible apply iEq); exact rfl)
  | ((with_reducible apply iNe); exact rfl)
  | ((with_reducible apply iI); walk_at "cond")
  | (with_reducible refine iM1 ?_)
  | (with_reducible refine iBM ?_)
  | (with_reducible refine iSl ?_)
  | ((with_reducible apply iIxL); exact SqL.of (by walk_at "lk"); walk_at "ix")
  | ((with_reducible apply iIxT); exact SqT.of (by walk_at "lk"); walk_at "ix")
  | ((with_reducible apply iIxS); walk_at "num"; walk_at "ix")
  | ((with_reducible apply iSlTo); walk_at "num"; walk_at "toN")
  | ((with_reducible apply iSlFrom); walk_at "num"; walk_at "toN")
  | ((with_reducible apply iSlMid); walk_at "num"; walk_at "toN"; walk_at "toN")
  | ((with_reducible apply iSlS); walk_at "num")
  | ((with_reducible apply iAddS); walk_at "num")
  | ((with_reducible apply iLenS1); walk_at "num")
  | (with_reducible refine iInS ?_)
  | (with_reducible refine iNotInS ?_)
  | ((with_reducible apply iFindYes); assumption)
  | ((with_reducible apply iFindNo); assumption)
  | (with_reducible refine iFindS ?_)
  | (with_reducible refine iStartS ?_)
  | ((with_reducible apply iPartS); walk_at "num")
  | ((with_reducible apply iSetL); (walk_at "lk"); exact rfl; (walk_at "setq"))
  | (with_reducible refine iNoPart ?_)
  | (with_reducible refine iPart ?_)
  | (with_reducible refine iTup ?_)
  | (with_reducible refine iLst ?_)
  | (with_reducible refine isi_int_int ?_)
  | (with_reducible refine isi_int_bool ?_)
  | (with_reducible refine isi_int_str ?_)
  | (with_reducible refine isi_str_str ?_)
  | (with_reducible refine isi_str_int ?_)
  | (with_reducible refine isi_str_bool ?_)
  | (with_reducible refine isi_bl_bool ?_)
  | (with_reducible refine isi_bl_int ?_)
  | (with_reducible refine isi_bl_str ?_)
  | (with_reducible refine iFld ?_)
  | (with_reducible refine iSFld ?_)
  | (with_reducible refine iCon ?_)
  | (with_reducible refine iProp ?_)
  | (with_reducible refine iMeth0 ?_)
  | (with_reducible refine iMeth ?_)
  | (with_reducible refine iWT ?_)
  | (with_reducible refine iWF ?_)
  | ((with_reducible apply iInL); (walk_at "sq"); (walk_at "mapq"))
  | ((with_reducible apply iNInL); (walk_at "sq"); (walk_at "mapq"))
  | (with_reducible refine iLcL ?_)
  | (with_reducible refine iLcS ?_)
  | (with_reducible refine iLcR1 ?_)
  | (with_reducible refine iForL ?_)
  | (with_reducible refine iForS ?_)
  | (with_reducible refine iForR1 ?_)
  | (with_reducible refine iForR2 ?_)
  | (with_reducible refine iYes ?_)
  | ((with_reducible apply iSlL); (first | assumption | exact SqL.of (by walk_at "lk")))
  | ((with_reducible apply iCat); (walk_at "lk"); (walk_at "lk"); (walk_at "len"))
  | ((with_reducible apply iAppend); (walk_at "lk"); (walk_at "len"))
  | ((with_reducible apply iTruNil); exact SqL.of (by walk_at "lk"))
  | ((with_reducible apply iTruCons); exact SqL.of (by walk_at "lk"))
  | ((with_reducible apply iTruL); (first | assumption | exact SqL.of (by walk_at "lk")))
  | ((with_reducible apply iListT); (walk_at "num"))
  | (with_reducible refine iTT ?_)
  | (with_reducible refine iFF ?_)
  | (with_reducible refine iNTT ?_)
  | (with_reducible refine iNFF ?_)
  | ((with_reducible apply eSFld); (walk_at "lk"); assumption; assumption; (simp only [List.length_cons, List.length_nil]; decide); (walk_at "putq"))
  | (walk_at "proj")
  | (with_reducible apply Exists.intro)
  | ((with_reducible apply And.intro); exact rfl)
  | ((with_reducible apply And.intro); walk_at "side")
  | ((with_reducible apply Or.inl); (with_reducible apply Exists.intro); (with_reducible apply And.intro); exact rfl)
  | ((with_reducible apply Or.inr); (with_reducible apply Exists.intro); (with_reducible apply And.intro); exact rfl))
local macro_rules | `(tactic| walk_at "fr") => `(tactic| first
  | exact Fr.refl _ _
  | assumption
  | (refine Fr.trans ?_ Fr.in0; walk_at "fr")
  | (refine Fr.trans ?_ Fr.in1; walk_at "fr")
  | (refine Fr.trans ?_ Fr.in2; walk_at "fr")
  | (refine Fr.trans ?_ (Fr.upd_new (by assumption)); walk_at "fr")
  | (refine Fr.trans ?_ (Fr.of_same (by assumption)); walk_at "fr")
  | (refine Fr.trans ?_ (by assumption); walk_at "fr")
  | (refine Fr.trans ?_ (Fr.wk (by assumption)); walk_at "fr")
  | (refine Fr.trans ?_ (Fr.wk1 (by assumption)); walk_at "fr")
  | (refine Fr.trans ?_ (Fr.wk (Fr.wk (by assumption))); walk_at "fr"))
local macro_rules | `(tactic| walk_at "proj") => `(tactic| first
  | (with_reducible refine (show (Ends.mk _ _ _ _).nx _ _ from ?_); dsimp only)
  | (with_reducible refine (show (Ends.mk _ _ _ _).rt _ _ from ?_); dsimp only))
local macro_rules | `(tactic| walk_at "br0") => `(tactic| first
  | (with_reducible apply iBd)
  | (with_reducible apply iBnd)
  | (with_reducible apply iBb)
  | (with_reducible apply iBbn)
  | (with_reducible apply iWD)
  | (with_reducible apply iWDN))
local macro_rules | `(tactic| walk_at "dead") => `(tactic| first | (exfalso; omega) | contradiction)
local macro_rules | `(tactic| walk_at "br") => `(tactic| (walk_at "br0" <;> (intro hbr; (try simp only [V.str.injEq, V.int.injEq, V.bl.injEq, Vk.S_inj, reduceCtorEq, List.cons.injEq, and_true, not_true_eq_false, not_false_eq_true, decide_eq_true_eq, decide_eq_false_iff_not, Nat.reduceEqDiff, List.length_cons, List.length_nil, and_false, false_and, eq_self] at hbr); (try walk_at "dead"))))
local macro_rules | `(tactic| walk_at "new") => `(tactic| (refine fun (p : Addr) (hp : _ = none) => ?_))
local macro_rules | `(tactic| walk_at "go") => `(tactic| repeat' (first | walk_at "go1" | walk_at "br" | walk_at "new" | (refine fun (y z : V) => ?_)))
section
variable {P : Program} {w : World} {K : PySem.W.Frag} {mg : Str → Option Value} {base : Heap} {a : Ad} {d : Fd}
/-- keys with their second signs, in turn -/
def pressKs (p : Pg) (ks : List (Nat × Nat)) : Pg := ks.foldl (fun p k => (pressP p k.1 k.2).2) p
theorem pressKs_take {p : Pg} {ks : List (Nat × Nat)} {i : Nat} {x : Nat × Nat} (h : ks[i]? = some x) : pressKs p (ks.take (i + 1)) = (pressP (pressKs p (ks.take i)) x.1 x.2).2 := by
  unfold pressKs
  rw [List.take_add_one, h, List.foldl_append]
  rfl
theorem pressKs_ok {ks : List (Nat × Nat)} : ∀ {p : Pg} {n : Nat}, p.okN n → (pressKs p ks).okN (n + 2 * ks.length) := by
  induction ks with
  | nil => intro p n h; exact h
  | cons x r ih =>
    intro p n h
    have q := ih (press_ok (h := x.1) (c := x.2) h)
    refine q.mono ?_
    rw [List.length_cons]
    omega
def keyOf (k : Nat × Nat) : List Nat := if k.1 ∈ signL then [k.1, k.2] else [k.1]
def chainL (x y : Nat) : List (Nat × Nat) := [(109, 0), (39, x), (39, y), (107, 0), (39, x), (99, 0), (109, 0), (112, 0), (112, 0), (107, 0), (112, 0), (109, 0), (99, 0), (112, 0)]
theorem chain_end (p : Pg) (x y : Nat) : (pressKs p (chainL x y)).k = [] ∧ ∃ i : Nat, (pressKs p (chainL x y)).m = some i := by
  have e : pressKs p (chainL x y) = pressKs (pressKs p ((chainL x y).take 11)) [(109, 0), (99, 0), (112, 0)] := by
    unfold pressKs
    rw [← List.foldl_append]
    rfl
  rw [e]
  generalize pressKs p ((chainL x y).take 11) = q
  obtain ⟨t, c, m, k⟩ := q
  have h1 : pressP ⟨t, c, m, k⟩ 109 0 = (true, ⟨t, c, some c, k⟩) := by simp [pressP]
  have hk : (t.take c).drop c = [] := List.drop_eq_nil_of_le (by rw [List.length_take]; omega)
  have h2 : pressP ⟨t, c, some c, k⟩ 99 0 = (true, ⟨t.take c ++ t.drop c, c, some c, []⟩) := by simp [pressP, hk]
  have h3 : pressP ⟨t.take c ++ t.drop c, c, some c, []⟩ 112 0 = (false, ⟨t.take c ++ t.drop c, c, some c, []⟩) := by simp [pressP]
  have e2 : pressKs ⟨t, c, m, k⟩ [(109, 0), (99, 0), (112, 0)] = ⟨t.take c ++ t.drop c, c, some c, []⟩ := by
    show (pressP (pressP (pressP ⟨t, c, m, k⟩ 109 0).2 99 0).2 112 0).2 = _
    rw [h1]
    show (pressP (pressP ⟨t, c, some c, k⟩ 99 0).2 112 0).2 = _
    rw [h2]
    show (pressP ⟨t.take c ++ t.drop c, c, some c, []⟩ 112 0).2 = _
    rw [h3]
  rw [e2]
  exact ⟨rfl, c, rfl⟩
theorem chain_key {x y : Nat} {sg : List Nat} (hx : x ∈ sg) (hy : y ∈ sg) (h1 : x < 256) (h2 : y < 256) {k : Nat × Nat} (hk : k ∈ chainL x y) : Tx (keyOf k) ∧ keyB sg (keyOf k) = true ∧ IsKey (keyOf k) k.1 k.2 := by
  have pl : ∀ h, h ∈ plainL → Tx (keyOf (h, 0)) ∧ keyB sg (keyOf (h, 0)) = true ∧ IsKey (keyOf (h, 0)) h 0 := fun h hh => by
    have e : keyOf (h, 0) = [h] := by
      simp only [plainL, List.mem_cons, List.not_mem_nil, or_false] at hh
      rcases hh with rfl | rfl | rfl | rfl | rfl | rfl | rfl | rfl <;> rfl
    rw [e]
    exact plain_key hh
  have sn : ∀ z, z ∈ sg → z < 256 → Tx (keyOf (39, z)) ∧ keyB sg (keyOf (39, z)) = true ∧ IsKey (keyOf (39, z)) 39 z := fun z hz h => by
    show Tx [39, z] ∧ keyB sg [39, z] = true ∧ IsKey [39, z] 39 z
    refine ⟨⟨by simp, fun c hc => ?_⟩, by simp [keyB, signL, hz], .inr ⟨rfl, by decide⟩⟩
    simp at hc
    omega
  simp only [chainL, List.mem_cons, List.not_mem_nil, or_false] at hk
  rcases hk with rfl | rfl | rfl | rfl | rfl | rfl | rfl | rfl | rfl | rfl | rfl | rfl | rfl | rfl
  all_goals first | exact pl _ (by decide) | exact sn _ hx h1 | exact sn _ hy h2
def spChain (C CA : Addr) : Sp := fun vs H Q _ => ∃ (pg dx al o : Addr) (p : Pg) (l v : List Nat) (x y n : Nat), vs = [.ref pg, .ref o, .str (S [x]), .str (S [y])] ∧ PgAt C H pg dx al p ∧ IsOwn H o p ∧ p.okN n ∧ n ≤ 4000 ∧ IsAl CA H al l v ∧ x ∈ 45 :: srtL l ∧ y ∈ 45 :: srtL l ∧ x < 256 ∧ y < 256 ∧
  ∀ H' p', PgAt C H' pg dx al p' → IsOwn H' o p' → p'.ok → Fr [pg, o] H H' → Q (.bl true) H'
theorem scChain : FnScope ["_law_page", "_law_own", "_law_one", "_law_two", "_law_key_here"] ["_law_page", "_law_own", "_law_one", "_law_two"] (defScope sChain) := ⟨rfl, rfl, rfl, by decide +kernel, rfl, by decide +kernel, by decide +kernel⟩
theorem ok_chain (T : Fns K mg a d) (GBadKey : FnOk P w K mg base CX0 1 a.eBadKey d.eBadKey ["self", "key"] (spEBadKey a.cBadKey)) : FnOk P w K mg base CX0 6 a.aChain d.dChain ["_law_page", "_law_own", "_law_one", "_law_two"] (spChain a.cPage a.cAlphabet) := by
  have hcl := T.clP
  have GWorked : FnOk P w K mg base CX0 5 a.aWorked d.dWorked ["_law_page", "_law_own", "_law_key_here"] (spWorked a.cPage a.cAlphabet) := ok_worked T GBadKey
  have GSame : FnOk P w K mg base CX0 3 a.aSame d.dSame ["_law_page", "_law_own"] (spSame a.cPage) := ok_same T
  refine T.FChain.ok scChain (fun vs H Q E h => ?_) (fun cdv A0 outer s H vs Q E hr h => ?_)
  · obtain ⟨pg, dx, al, o, p, l, v, x, y, n, rfl, _⟩ := h
    rfl
  · obtain ⟨pg, dx, al, o, p, l, v, x, y, n, rfl, ho, hw, hok, hn, hal, hx, hy, hx2, hy2, k⟩ := h
    have hapg : al ≠ pg := fun e => by
      obtain ⟨_, q⟩ := hal
      have h2 : H pg = some (.ins a.cPage dx (Pg.fs al p)) := ho
      rw [e, h2] at q
      injection q with q
      injection q with q1 q2 q3
      have := congrArg List.length q3
      simp [Pg.fs, alF] at this
    have hapo : al ≠ o := fun e => by
      obtain ⟨_, q⟩ := hal
      have h2 : H o = some (.lst p.vs) := hw
      rw [e, h2] at q
      cases q
    refine ⟨_, ((pss_cons (ps_for PassesOwn.never rfl (pi_list (pe_lst (pa_cons (pe_strS (l := [109]) (by decide +kernel)) (pa_cons (pe_op op_addS (pe_strS (l := [39]) (by decide +kernel)) (pv 2)) (pa_cons (pe_op op_addS (pe_strS (l := [39]) (by decide +kernel)) (pv 3)) (pa_cons (pe_strS (l := [107]) (by decide +kernel)) (pa_cons (pe_op op_addS (pe_strS (l := [39]) (by decide +kernel)) (pv 2)) (pa_cons (pe_strS (l := [99]) (by decide +kernel)) (pa_cons (pe_strS (l := [109]) (by decide +kernel)) (pa_cons (pe_strS (l := [112]) (by decide +kernel)) (pa_cons (pe_strS (l := [112]) (by decide +kernel)) (pa_cons (pe_strS (l := [107]) (by decide +kernel)) (pa_cons (pe_strS (l := [112]) (by decide +kernel)) (pa_cons (pe_strS (l := [109]) (by decide +kernel)) (pa_cons (pe_strS (l := [99]) (by decide +kernel)) (pa_cons (pe_strS (l := [112]) (by decide +kernel)) pa_nil)))))))))))))))) (pg_name (i := 4) scChain.nd rfl (Or.inl rfl)) (pss_one (ps_if (PW.pt (pw_or (pt_not (pt_val (pe_call GWorked (hr.mono (by decide)) (by rfl) T.gWorked T.FWorked.kp T.bWorked .nil pass0 (pa_cons (pv 0) (pa_cons (pv 1) (pa_cons (pv 4) pa_nil)))))) (pw_or1 (pt_not (pt_val (pe_call GSame (hr.mono (by decide)) (by rfl) T.gSame T.FSame.kp T.bSame .nil pass0 (pa_cons (pv 0) (pa_cons (pv 1) pa_nil)))))))) (pss_one (ps_ret pe_bl)) pss_nil)))
      (pss_one (ps_ret (pe_and (pe_cmpR op_eq (pe_ix (r := rIxL K) ix_list (pv 1) pe_int (fun _ _ => rfl)) (pe_strS (l := []) (by decide +kernel)) (nomark _)) (pe_one (pe_cmpR op_notN (pe_ix (r := rIxL K) ix_list (pv 1) pe_int (fun _ _ => rfl)) pe_non (nomark _)))))))), ?_⟩
    walk_at "go"
    rename_i q hq
    have eL : (HO.lst [V.str (S [109]), V.str (S ([39] ++ [x])), V.str (S ([39] ++ [y])), V.str (S [107]), V.str (S ([39] ++ [x])), V.str (S [99]), V.str (S [109]), V.str (S [112]), V.str (S [112]), V.str (S [107]), V.str (S [112]), V.str (S [109]), V.str (S [99]), V.str (S [112])]) = .lst (rowV ((chainL x y).map keyOf)) := rfl
    rw [eL]
    have hpq : q ≠ pg := fun e => by
      subst e
      have h2 : H q = some (.ins a.cPage dx (Pg.fs al p)) := ho
      rw [hq] at h2
      cases h2
    have hoq : q ≠ o := fun e => by
      subst e
      have h2 : H q = some (.lst p.vs) := hw
      rw [hq] at h2
      cases h2
    have sQ : Same H (upd H q (.lst (rowV ((chainL x y).map keyOf)))) := Same.upd_new hq
    have hQ : (upd H q (.lst (rowV ((chainL x y).map keyOf)))) q = some (.lst (rowV ((chainL x y).map keyOf))) := upd_same
    generalize upd H q (.lst (rowV ((chainL x y).map keyOf))) = H1 at sQ hQ
    have hal1 := hal.same sQ
    refine for_L (K := K) (a := q) (xs := rowV ((chainL x y).map keyOf)) (fun i σ H' => Stop (∃ (v4 : Option V), σ = [some (.ref pg), some (.ref o), some (.str (S [x])), some (.str (S [y])), v4] ∧
        PgAt a.cPage H' pg dx al (pressKs p ((chainL x y).take i)) ∧ IsOwn H' o (pressKs p ((chainL x y).take i)) ∧ Fr [pg, o] H1 H'))
      ⟨none, rfl, sQ _ _ ho, sQ _ _ hw, Fr.refl _ _⟩ ?_ ?_ ?_
    · rintro i σ H3 hi ⟨v4, rfl, hp3, hw3, f3⟩
      exact SqL.of (f3 _ _ (by simp [hpq, hoq]) hQ)
    · rintro i z σ H3 hz ⟨v4, rfl, hp3, hw3, f3⟩
      unfold rowV at hz
      rw [List.getElem?_map, List.getElem?_map] at hz
      cases hk : (chainL x y)[i]? with
      | none => rw [hk] at hz; cases hz
      | some kk =>
        rw [hk] at hz
        cases hz
        have hi : i < 14 := (List.getElem?_eq_some_iff.mp hk).1
        obtain ⟨k1, k2, k3⟩ := chain_key hx hy hx2 hy2 (List.mem_of_getElem? hk)
        have okp : (pressKs p ((chainL x y).take i)).ok := (pressKs_ok hok).ok (by rw [List.length_take]; omega)
        have okp2 : (pressKs p ((chainL x y).take (i + 1))).ok := (pressKs_ok hok).ok (by rw [List.length_take]; omega)
        walk_at "go"
        refine ⟨pg, dx, al, o, _, l, v, keyOf kk, kk.1, kk.2, rfl, hp3, hw3, okp, hal1.fr f3 (by simp [hapg, hapo]), k1, k2, k3, fun H4 hp4 hw4 f4 => ?_⟩
        rw [← pressKs_take hk] at hp4 hw4
        walk_at "go"
        refine cSame hp4 hw4 okp2 ?_
        walk_at "go"
        exact ⟨_, rfl, hp4, hw4, Fr.trans f3 f4⟩
    · rintro σ H3 ⟨v4, rfl, hp3, hw3, f3⟩
      have e14 : (chainL x y).take (rowV ((chainL x y).map keyOf)).length = chainL x y := List.take_of_length_le (by simp [rowV])
      rw [e14] at hp3 hw3
      have okp : (pressKs p (chainL x y)).ok := (pressKs_ok hok).ok (by simp [chainL]; omega)
      obtain ⟨ek, i, em⟩ := chain_end p x y
      generalize pressKs p (chainL x y) = p2 at hp3 hw3 okp ek em
      obtain ⟨t2, c2, m2, k2⟩ := p2
      have ek : k2 = [] := ek
      have em : m2 = some i := em
      subst ek em
      have hw3' : H3 o = some (.lst [.str (S t2), .int (c2 : Int), .int (i : Int), .str (S [])]) := hw3
      have fin := k H3 _ hp3 hw3 okp (Fr.trans (Fr.of_same sQ) f3)
      walk_at "go"
      rw [show (!decide (V.int (i : Int) = V.non)) = true by simp]
      exact fin
end
end Vk

set_option Elab.async false
set_option linter.all false
set_option maxRecDepth 100000
set_option maxHeartbeats 1000000
namespace Vk
open PySem PySem.Spec PyProof.Rows L2
/-! the walk over a reading -/
open L2 in
local macro_rules | `(tactic| walk_at "lk") => `(tactic| first
  | assumption
  | exact upd_same
  | (refine upd_old (by assumption) ?_; walk_at "lk")
  | (refine upd_oth (by first | assumption | (apply Ne.symm; assumption)) ?_; walk_at "lk")
  | (refine Same.get (by assumption) ?_; walk_at "lk")
  | (refine Fr.get (by assumption) (by first | assumption | (simp only [List.mem_cons, List.not_mem_nil, or_false, not_or]; first | assumption | (refine ⟨?_, ?_⟩ <;> assumption) | (apply Ne.symm; assumption))) ?_; walk_at "lk"))
local macro_rules | `(tactic| walk_at "len") => `(tactic| first
  | (simp only [List.length_cons, List.length_nil, sizeLine_eq]; omega)
  | (simp only [S_len, sizeLine_eq]; omega)
  | (simp only [S_len, sizeLine_eq, List.length_take, List.length_drop, List.length_append, List.length_cons, List.length_nil]; omega))
local macro_rules | `(tactic| walk_at "num") => `(tactic| first | assumption | omega | (simp only [List.length_take, List.length_drop, List.length_append, List.length_cons, List.length_nil]; omega))
local macro_rules | `(tactic| walk_at "ix") => `(tactic| first | exact rfl | assumption | exact atI_nat (by assumption))
local macro_rules | `(tactic| walk_at "putq") => `(tactic| exact rfl)
local macro_rules | `(tactic| walk_at "sq") => `(tactic| first
  | exact .inr (by assumption)
  | exact .inl (by assumption)
  | exact .inl (SqL.of (by walk_at "lk"))
  | exact .inr (SqT.of (by walk_at "lk")))
local macro_rules | `(tactic| walk_at "mapq") => `(tactic| first
  | exact rfl
  | exact (rfl : _ = List.map (fun l => V.str (S l)) [_])
  | exact (rfl : _ = List.map (fun l => V.str (S l)) [_, _])
  | exact (rfl : _ = List.map (fun l => V.str (S l)) [_, _, _])
  | exact (rfl : _ = List.map (fun l => V.str (S l)) [_, _, _, _])
  | exact (rfl : _ = List.map (fun l => V.str (S l)) [_, _, _, _, _]))
local macro_rules | `(tactic| walk_at "setq") => `(tactic| ((try simp only [Int.reduceToNat, List.set_cons_succ, List.set_cons_zero]); exact rfl))
local macro_rules | `(tactic| walk_at "toN") => `(tactic| first | exact rfl | exact (Int.natCast_add _ _).symm | exact (Int.natCast_add _ 1).symm)
local macro_rules | `(tactic| walk_at "cond") => `(tactic| first | omega | (simp only [List.length_map]; omega) | (refine Or.inl ⟨?_, ?_⟩ <;> omega) | (refine Or.inr ⟨?_, ?_⟩ <;> omega) | (refine ⟨?_, ?_⟩ <;> omega))
local macro_rules | `(tactic| walk_at "side") => `(tactic| first
  | rfl
  | (walk_at "lk")
  | exact SqL.of (by walk_at "lk")
  | exact SqT.of (by walk_at "lk")
  | exact .inl (SqL.of (by walk_at "lk"))
  | exact .inr (SqT.of (by walk_at "lk"))
  | exact .inl ⟨rfl, _, SqL.of (by walk_at "lk")⟩
  | exact ⟨_, rfl⟩
  | exact ⟨_, SqL.of (by walk_at "lk")⟩
  | exact ⟨_, by assumption⟩
  | (walk_at "len")
  | omega)
local macro_rules | `(tactic| walk_at "go1") => `(tactic| first
  | (with_reducible refine iSeq ?_)
  | ((with_reducible apply iVar); exact rfl)
  | (with_reducible refine iC ?_)
  | (with_reducible refine iOp ?_)
  | (with_reducible refine iAsg ?_)
  | (with_reducible refine iName ?_)
  | (with_reducible refine iSub ?_)
  | (with_reducible refine iCons ?_)
  | (with_reducible refine iNil ?_)
  | (with_reducible refine iCB ?_)
  | (with_reducible refine iCall0 ?_)
  | (with_reducible refine iCall ?_)
  | (with_reducible refine iI0 ?_)
  | (with_reducible refine iU ?_)
  | (with_reducible refine iUn ?_)
  | (with_reducible refine iIfS ?_)
  | (with_reducible refine iB ?_)
  | (with_reducible refine iTest ?_)
  | (with_reducible refine iAnd ?_)
  | (with_reducible refine iOr ?_)
  | (with_reducible refine iNot ?_)
  | (with_reducible refine iAndV ?_)
  | (with_reducible refine iOrV ?_)
  | (with_reducible refine iNotV ?_)
  | (with_reducible refine iIfE ?_)
  | (with_reducible refine iRet ?_)
  | (with_reducible refine iRetN ?_)
  | (with_reducible refine iDrop ?_)
  | (with_reducible refine iNext ?_)
  | ((with_reducible apply iEq); exact rfl)
  | ((with_reducible apply iNe); exact rfl)
  | ((with_reducible apply iI); walk_at "cond")
  | (with_reducible refine iM1 ?_)
  | (with_reducible refine iBM ?_)
  | (with_reducible refine iSl ?_)
  | ((with_reducible apply iIxL); exact SqL.of (by walk_at "lk"); walk_at "ix")
  | ((with_reducible apply iIxT); exact SqT.of (by walk_at "lk"); walk_at "ix")
  | ((with_reducible apply iIxS); walk_at "num"; walk_at "ix")
  | ((with_reducible apply iSlTo); walk_at "num"; walk_at "toN")
  | ((with_reducible apply iSlFrom); walk_at "num"; walk_at "toN")
  | ((with_reducible apply iSlMid); walk_at "num"; walk_at "toN"; walk_at "toN")
  | ((with_reducible apply iSlS); walk_at "num")
  | ((with_reducible apply iAddS); walk_at "num")
  | ((with_reducible apply iLenS1); walk_at "num")
  | (with_reducible refine iInS ?_)
  | (with_reducible refine iNotInS ?_)
  | ((with_reducible apply iFindYes); assumption)
  | ((with_reducible apply iFindNo); assumption)
  | (with_reducible refine iFindS ?_)
  | (with_reducible refine iStartS ?_)
  | ((with_reducible apply iPartS); walk_at "num")
  | ((with_reducible apply iSetL); (walk_at "lk"); exact rfl; (walk_at "setq"))
  | (with_reducible refine iNoPart ?_)
  | (with_reducible refine iPart ?_)
  | (with_reducible refine iTup ?_)
  | (with_reducible refine iLst ?_)
  | (with_reducible refine isi_int_int ?_)
  | (with_reducible refine isi_int_bool ?_)
  | (with_reducible refine isi_int_str ?_)
  | (with_reducible refine isi_str_str ?_)
  | (with_reducible refine isi_str_int ?_)
  | (with_reducible refine isi_str_bool ?_)
  | (with_reducible refine isi_bl_bool ?_)
  | (with_reducible refine isi_bl_int ?_)
  | (with_reducible refine isi_bl_str ?_)
  | (with_reducible refine iFld ?_)
  | (with_reducible refine iSFld ?_)
  | (with_reducible refine iCon ?_)
  | (with_reducible refine iProp ?_)
  | (with_reducible refine iMeth0 ?_)
  | (with_reducible refine iMeth ?_)
  | (with_reducible refine iWT ?_)
  | (with_reducible refine iWF ?_)
  | ((with_reducible apply iInL); (walk_at "sq"); (walk_at "mapq"))
  | ((with_reducible apply iNInL); (walk_at "sq"); (walk_at "mapq"))
  | (with_reducible refine iLcL ?_)
  | (with_reducible refine iLcS ?_)
  | (with_reducible refine iLcR1 ?_)
  | (with_reducible refine iForL ?_)
  | (with_reducible refine iForS ?_)
  | (with_reducible refine iForR1 ?_)
  | (with_reducible refine iForR2 ?_)
  | (with_reducible refine iYes ?_)
  | ((with_reducible apply iSlL); (first | assumption | exact SqL.of (by walk_at "lk")))
  | ((with_reducible apply iCat); (walk_at "lk"); (walk_at "lk"); (walk_at "len"))
  | ((with_reducible apply iAppend); (walk_at "lk"); (walk_at "len"))
  | ((with_reducible apply iTruNil); exact SqL.of (by walk_at "lk"))
  | ((with_reducible apply iTruCons); exact SqL.of (by walk_at "lk"))
  | ((with_reducible apply iTruL); (first | assumption | exact SqL.of (by walk_at "lk")))
  | ((with_reducible apply iListT); (walk_at "num"))
  | (with_reducible refine iTT ?_)
  | (with_reducible refine iFF ?_)
  | (with_reducible refine iNTT ?_)
  | (with_reducible refine iNFF ?_)
  | ((with_reducible apply eSFld); (walk_at "lk"); assumption; assumption; (simp only [List.length_cons, List.length_nil]; decide); (walk_at "putq"))
  | (walk_at "proj")
  | (with_reducible apply Exists.intro)
  | ((with_reducible apply And.intro); exact rfl)
  | ((with_reducible apply And.intro); walk_at "side")
  | ((with_reducible apply Or.inl); (with_reducible apply Exists.intro); (with_reducible apply And.intro); exact rfl)
  | ((with_reducible apply Or.inr); (with_reducible apply Exists.intro); (with_reducible apply And.intro); exact rfl))
local macro_rules | `(tactic| walk_at "fr") => `(tactic| first
  | exact Fr.refl _ _
  | assumption
  | (refine Fr.trans ?_ Fr.in0; walk_at "fr")
  | (refine Fr.trans ?_ Fr.in1; walk_at "fr")
  | (refine Fr.trans ?_ Fr.in2; walk_at "fr")
  | (refine Fr.trans ?_ (Fr.upd_new (by assumption)); walk_at "fr")
  | (refine Fr.trans ?_ (Fr.of_same (by assumption)); walk_at "fr")
  | (refine Fr.trans ?_ (by assumption); walk_at "fr")
  | (refine Fr.trans ?_ (Fr.wk (by assumption)); walk_at "fr")
  | (refine Fr.trans ?_ (Fr.wk1 (by assumption)); walk_at "fr")
  | (refine Fr.trans ?_ (Fr.wk (Fr.wk (by assumption))); walk_at "fr"))
local macro_rules | `(tactic| walk_at "proj") => `(tactic| first
  | (with_reducible refine (show (Ends.mk _ _ _ _).nx _ _ from ?_); dsimp only)
  | (with_reducible refine (show (Ends.mk _ _ _ _).rt _ _ from ?_); dsimp only))
local macro_rules | `(tactic| walk_at "br0") => `(tactic| first
  | (with_reducible apply iBd)
  | (with_reducible apply iBnd)
  | (with_reducible apply iBb)
  | (with_reducible apply iBbn)
  | (with_reducible apply iWD)
  | (with_reducible apply iWDN))
local macro_rules | `(tactic| walk_at "dead") => `(tactic| first | (exfalso; omega) | contradiction)
local macro_rules | `(tactic| walk_at "br") => `(tactic| (walk_at "br0" <;> (intro hbr; (try simp only [V.str.injEq, V.int.injEq, V.bl.injEq, Vk.S_inj, reduceCtorEq, List.cons.injEq, and_true, not_true_eq_false, not_false_eq_true, decide_eq_true_eq, decide_eq_false_iff_not, Nat.reduceEqDiff, List.length_cons, List.length_nil, and_false, false_and, eq_self] at hbr); (try walk_at "dead"))))
local macro_rules | `(tactic| walk_at "new") => `(tactic| (refine fun (p : Addr) (hp : _ = none) => ?_))
local macro_rules | `(tactic| walk_at "go") => `(tactic| repeat' (first | walk_at "go1" | walk_at "br" | walk_at "new" | (refine fun (y z : V) => ?_)))
/-- a loop of two turns, each by itself -/
theorem for_R2 {g : TG} {tb : TS} {σ : L2.St} {H : Hp} {D : Ends} (h : g (.int 0) σ H fun σ1 H1 => tb { nx := fun σ2 H2 => g (.int 1) σ2 H2 fun σ3 H3 => tb { nx := D.nx, rt := D.rt, bk := D.nx, ct := D.nx } σ3 H3, rt := D.rt, bk := D.nx, ct := fun σ2 H2 => g (.int 1) σ2 H2 fun σ3 H3 => tb { nx := D.nx, rt := D.rt, bk := D.nx, ct := D.nx } σ3 H3 } σ1 H1) : ForG (Itr 0 2) g tb D σ H :=
  for_R (n := 2) (fun i σ' H' => match i with
    | 0 => σ' = σ ∧ H' = H
    | 1 => g (.int 1) σ' H' fun σ3 H3 => tb { nx := D.nx, rt := D.rt, bk := D.nx, ct := D.nx } σ3 H3
    | _ => D.nx σ' H') ⟨rfl, rfl⟩ (fun i σ' H' hi hp => by
      match i, hi, hp with
      | 0, _, hp =>
        obtain ⟨rfl, rfl⟩ := hp
        exact h
      | 1, _, hp => exact hp) (fun _ _ h => h)
theorem iMakeD {C : Addr} {sp : Sp} {dvs : List V} {E : XK} {t : TA} {σ : L2.St} {H : Hp} {Q : VK} (h : t σ H fun vs H1 => ∀ x dx, H1 x = none → H1 dx = none → dx ≠ x → sp (.ref x :: (vs ++ dvs)) (upd (upd H1 dx (.own x)) x (.ins C dx [])) (fun v H2 => v = .non ∧ Q (.ref x) H2) E) : tMake C sp dvs E t σ H Q := h
theorem iMake0 {C : Addr} {sp : Sp} {E : XK} {t : TA} {σ : L2.St} {H : Hp} {Q : VK} (h : t σ H fun vs H1 => ∀ x dx, H1 x = none → H1 dx = none → dx ≠ x → sp (.ref x :: vs) (upd (upd H1 dx (.own x)) x (.ins C dx [])) (fun v H2 => v = .non ∧ Q (.ref x) H2) E) : tMake C sp [] E t σ H Q := by
  have e : (fun (vs : List V) (H1 : Hp) => ∀ x dx, H1 x = none → H1 dx = none → dx ≠ x → sp (.ref x :: (vs ++ [])) (upd (upd H1 dx (.own x)) x (.ins C dx [])) (fun v H2 => v = .non ∧ Q (.ref x) H2) E) = fun vs H1 => ∀ x dx, H1 x = none → H1 dx = none → dx ≠ x → sp (.ref x :: vs) (upd (upd H1 dx (.own x)) x (.ins C dx [])) (fun v H2 => v = .non ∧ Q (.ref x) H2) E := by
    funext vs H1
    rw [List.append_nil]
  show t σ H fun (vs : List V) (H1 : Hp) => ∀ x dx, H1 x = none → H1 dx = none → dx ≠ x → sp (.ref x :: (vs ++ [])) (upd (upd H1 dx (.own x)) x (.ins C dx [])) (fun v H2 => v = .non ∧ Q (.ref x) H2) E
  rw [e]
  exact h
local macro_rules | `(tactic| walk_at "go1") => `(tactic| (with_reducible refine iMake0 ?_))
theorem fr_made {H H' : Hp} {pg dx C : Addr} (hx : H pg = none) (hd : H dx = none) (hn : dx ≠ pg) (f : Fr [pg] (upd (upd H dx (.own pg)) pg (.ins C dx [])) H') : Fr [pg] H H' :=
  Fr.trans (Fr.trans (Fr.upd_new hd) Fr.in0) f
/-- two pages, the law's own two, the box -/
structure WS (C CA : Addr) (H : Hp) (b g al ps os pg0 dx0 o0 pg1 dx1 o1 : Addr) (p0 p1 : Pg) (l v : List Nat) : Prop where
  hb : IsBox H b g
  hal : IsAl CA H al l v
  hps : H ps = some (.lst [.ref pg0, .ref pg1])
  hos : H os = some (.lst [.ref o0, .ref o1])
  h0 : PgAt C H pg0 dx0 al p0
  h1 : PgAt C H pg1 dx1 al p1
  w0 : IsOwn H o0 p0
  w1 : IsOwn H o1 p1
  np : pg0 ≠ pg1
  no : o0 ≠ o1
section
variable {C CA : Addr} {H H' : Hp} {b g al ps os pg0 dx0 o0 pg1 dx1 o1 : Addr} {p0 p1 : Pg} {l v : List Nat}
theorem WS.same (h : WS C CA H b g al ps os pg0 dx0 o0 pg1 dx1 o1 p0 p1 l v) (s : Same H H') : WS C CA H' b g al ps os pg0 dx0 o0 pg1 dx1 o1 p0 p1 l v := by
  obtain ⟨hb, hal, hps, hos, h0, h1, w0, w1, np, no⟩ := h
  exact ⟨hb.same s, hal.same s, s _ _ hps, s _ _ hos, s _ _ h0, s _ _ h1, s _ _ w0, s _ _ w1, np, no⟩
theorem WS.take (h : WS C CA H b g al ps os pg0 dx0 o0 pg1 dx1 o1 p0 p1 l v) (f : Fr [b] H H') (hb : IsBox H' b g) : WS C CA H' b g al ps os pg0 dx0 o0 pg1 dx1 o1 p0 p1 l v := by
  obtain ⟨hb0, ⟨dxa, hal⟩, hps, hos, h0, h1, w0, w1, np, no⟩ := h
  obtain ⟨_, x, m, cs, eb, eg, _⟩ := hb0
  have h0' : H pg0 = some (.ins C dx0 (p0.fs al)) := h0
  have h1' : H pg1 = some (.ins C dx1 (p1.fs al)) := h1
  have w0' : H o0 = some (.lst p0.vs) := w0
  have w1' : H o1 = some (.lst p1.vs) := w1
  exact ⟨hb, ⟨dxa, f _ _ (by simpa using ne_get hal eb (by simp)) hal⟩, f _ _ (by simpa using ne_get hps eb (by simp)) hps, f _ _ (by simpa using ne_get hos eb (by simp)) hos,
    f _ _ (by simpa using ne_get h0' eb (by simp)) h0', f _ _ (by simpa using ne_get h1' eb (by simp)) h1', f _ _ (by simpa using ne_get w0' eb (by simp [Pg.vs])) w0', f _ _ (by simpa using ne_get w1' eb (by simp [Pg.vs])) w1', np, no⟩
theorem WS.one0 (h : WS C CA H b g al ps os pg0 dx0 o0 pg1 dx1 o1 p0 p1 l v) {q : Pg} (f : Fr [pg0, o0] H H') (h0n : PgAt C H' pg0 dx0 al q) (w0n : IsOwn H' o0 q) : WS C CA H' b g al ps os pg0 dx0 o0 pg1 dx1 o1 q p1 l v := by
  obtain ⟨hb0, ⟨dxa, hal⟩, hps, hos, h0, h1, w0, w1, np, no⟩ := h
  obtain ⟨nbg, x, m, cs, eb, eg, m0, hc, hrest⟩ := hb0
  have h0' : H pg0 = some (.ins C dx0 (p0.fs al)) := h0
  have h1' : H pg1 = some (.ins C dx1 (p1.fs al)) := h1
  have w0' : H o0 = some (.lst p0.vs) := w0
  have w1' : H o1 = some (.lst p1.vs) := w1
  have ego : (HO.lst (cs.map V.int)) ≠ .lst p0.vs := fun e => by
    cases cs with
    | nil => simp at hc
    | cons c r => simp [Pg.vs] at e
  have hb' : H' b = some (.lst [.int x, .int m, .ref g]) := f _ _ (by simp [ne_get eb h0' (by simp), ne_get eb w0' (by simp [Pg.vs])]) eb
  have hg' : H' g = some (.lst (cs.map V.int)) := f _ _ (by simp [ne_get eg h0' (by simp), ne_get eg w0' ego]) eg
  exact ⟨⟨nbg, x, m, cs, hb', hg', m0, hc, hrest⟩, ⟨dxa, f _ _ (by simp [ne_get hal h0' alF_ne, ne_get hal w0' (by simp)]) hal⟩,
    f _ _ (by simp [ne_get hps h0' (by simp), ne_get hps w0' (by simp [Pg.vs])]) hps, f _ _ (by simp [ne_get hos h0' (by simp), ne_get hos w0' (by simp [Pg.vs])]) hos,
    h0n, f _ _ (by simp [np.symm, ne_get h1' w0' (by simp)]) h1', w0n, f _ _ (by simp [no.symm, ne_get w1' h0' (by simp)]) w1', np, no⟩
theorem WS.one1 (h : WS C CA H b g al ps os pg0 dx0 o0 pg1 dx1 o1 p0 p1 l v) {q : Pg} (f : Fr [pg1, o1] H H') (h1n : PgAt C H' pg1 dx1 al q) (w1n : IsOwn H' o1 q) : WS C CA H' b g al ps os pg0 dx0 o0 pg1 dx1 o1 p0 q l v := by
  obtain ⟨hb0, ⟨dxa, hal⟩, hps, hos, h0, h1, w0, w1, np, no⟩ := h
  obtain ⟨nbg, x, m, cs, eb, eg, m0, hc, hrest⟩ := hb0
  have h0' : H pg0 = some (.ins C dx0 (p0.fs al)) := h0
  have h1' : H pg1 = some (.ins C dx1 (p1.fs al)) := h1
  have w0' : H o0 = some (.lst p0.vs) := w0
  have w1' : H o1 = some (.lst p1.vs) := w1
  have ego : (HO.lst (cs.map V.int)) ≠ .lst p1.vs := fun e => by
    cases cs with
    | nil => simp at hc
    | cons c r => simp [Pg.vs] at e
  have hb' : H' b = some (.lst [.int x, .int m, .ref g]) := f _ _ (by simp [ne_get eb h1' (by simp), ne_get eb w1' (by simp [Pg.vs])]) eb
  have hg' : H' g = some (.lst (cs.map V.int)) := f _ _ (by simp [ne_get eg h1' (by simp), ne_get eg w1' ego]) eg
  exact ⟨⟨nbg, x, m, cs, hb', hg', m0, hc, hrest⟩, ⟨dxa, f _ _ (by simp [ne_get hal h1' alF_ne, ne_get hal w1' (by simp)]) hal⟩,
    f _ _ (by simp [ne_get hps h1' (by simp), ne_get hps w1' (by simp [Pg.vs])]) hps, f _ _ (by simp [ne_get hos h1' (by simp), ne_get hos w1' (by simp [Pg.vs])]) hos,
    f _ _ (by simp [np, ne_get h0' w1' (by simp)]) h0', h1n, f _ _ (by simp [no, ne_get w0' h1' (by simp)]) w0', w1n, np, no⟩
end
def kStr0 : List Nat := [109, 39, 62, 119, 107, 47, 112, 99]
theorem kStr0_eq : PySem.Str.ofString "m'>wk/pc" = S kStr0 := by decide +kernel
def kStr1 : List Nat := [109, 107, 99, 112, 62, 39, 120, 119, 47, 61, 94]
theorem kStr1_eq : PySem.Str.ofString "mkcp>'xw/=^" = S kStr1 := by decide +kernel
def kStr2 : List Nat := [109, 62, 107, 112, 39, 99]
theorem kStr2_eq : PySem.Str.ofString "m>kp'c" = S kStr2 := by decide +kernel
section
variable {P : Program} {w : World} {K : PySem.W.Frag} {mg : Str → Option Value} {base : Heap} {a : Ad} {d : Fd}
def spWorld (K : PySem.W.Frag) : Sp := fun vs H Q _ => ∃ (x : Addr) (ns : List Int) (k : Nat), vs = [.ref x, .int (k : Int)] ∧ SqL K H x (ns.map V.int) ∧ ns.length ≤ 63 ∧ ∀ H', Same H H' → Q (.bl true) H'
theorem back_ok {p : Pg} {n : Nat} (h : p.okN n) : (backP p).okN n := by
  obtain ⟨t, c, m, k⟩ := p
  cases m with
  | none => exact h
  | some i =>
    obtain ⟨h1, h2, h3, h4⟩ := h
    refine ⟨h1, h2, h3, ?_⟩
    show ((t.take c).drop i).length ≤ 2
    obtain ⟨h5, h6⟩ := h2 i rfl
    have h5 : i ≤ c := h5
    have h6 : c ≤ i + 2 := h6
    rw [List.length_drop, List.length_take]
    omega
theorem scWorld : FnScope ["_law_script", "_law_k", "_law_box_here", "_law_letters_here", "_law_alphabet", "_law_signs", "_law_pages", "_law_owns", "_law_turn", "_law_text_here", "_law_menu", "_law_at", "_law_one", "_law_two"] ["_law_script", "_law_k"] (defScope sWorld) := ⟨rfl, rfl, rfl, by decide +kernel, rfl, by decide +kernel, by decide +kernel⟩
set_option maxHeartbeats 40000000 in
theorem ok_world {fA B : Addr} {fdA : FuncData} {mc : Value} {tm tj tl : Tok} {ds1 : List Value} (T : Fns K mg a d) (A : AlF K a.cAlphabet) (AV : AlV K mg a.cAlphabet mc tm tj tl) (MA : Mk K a.cAlphabet fA)
    (GA : FnOk P w K mg base (L2.CX P w) 3 fA fdA ["self", "letters", "vowels"] (spAl a.cAlphabet B)) (bA : Binds K fdA ["self", "letters", "vowels"] [])
    (GBadKey : FnOk P w K mg base CX0 1 a.eBadKey d.eBadKey ["self", "key"] (spEBadKey a.cBadKey))
    (FPI : FunD K "__init__" "Page.__init__" (defArgs sPageInit) (defBody sPageInit) (defScope sPageInit) [.str ""] [] a.fPI d.fPI) (bPI2 : Binds K d.fPI ["self", "alphabet", "text"] []) : FnOk P w K mg base CX0 7 a.aWorld d.dWorld ["_law_script", "_law_k"] (spWorld K) := by
  have GTake : FnOk P w K mg base CX0 1 a.aTake d.dTake ["_law_box_here", "_law_size_here"] spTake := ok_take T
  have GBox := ok_box (P := P) (w := w) (base := base) T
  have GLetters := ok_letters (P := P) (w := w) (base := base) T
  have GVowels := ok_vowels (P := P) (w := w) (base := base) T
  have GSize := ok_size (P := P) (w := w) (base := base) T
  have GText := ok_text (P := P) (w := w) (base := base) T
  have GKey := ok_key (P := P) (w := w) (base := base) T
  have GPI : FnOk P w K mg base CX0 3 a.fPI d.fPI ["self", "alphabet", "text"] (spPI a.cPage a.cAlphabet) := ok_pageInit T FPI
  have GSame : FnOk P w K mg base CX0 3 a.aSame d.dSame ["_law_page", "_law_own"] (spSame a.cPage) := ok_same T
  have GWorked : FnOk P w K mg base CX0 5 a.aWorked d.dWorked ["_law_page", "_law_own", "_law_key_here"] (spWorked a.cPage a.cAlphabet) := ok_worked T GBadKey
  have GRestored := ok_restored (P := P) (w := w) (base := base) T GBadKey
  have GChain := ok_chain (P := P) (w := w) (base := base) T GBadKey
  refine T.FWorld.ok scWorld (fun vs H Q E h => ?_) (fun cdv A0 outer s H vs Q E hr h => ?_)
  · obtain ⟨x, ns, k, rfl, _⟩ := h
    rfl
  · obtain ⟨x, ns, kk, rfl, hS, hl, k⟩ := h
    refine ⟨_, ((pss_cons (ps_set (i := 2) scWorld.nd rfl (Or.inl rfl) (pe_call GBox (hr.mono (by decide)) (by rfl) T.gBox T.FBox.kp T.bBox .nil pass0 (pa_cons (pv 0) (pa_cons (pv 1) pa_nil))))
      (pss_cons (ps_set (i := 3) scWorld.nd rfl (Or.inl rfl) (pe_call GLetters (hr.mono (by decide)) (by rfl) T.gLetters T.FLetters.kp T.bLetters .nil pass0 (pa_cons (pv 2) (pa_cons (pe_op op_add pe_int (pe_call GTake (hr.mono (by decide)) (by rfl) T.gTake T.FTake.kp T.bTake .nil pass0 (pa_cons (pv 2) (pa_cons pe_int pa_nil)))) pa_nil))))
      (pss_cons (ps_set (i := 4) scWorld.nd rfl (Or.inl rfl) (pe_make MA GA (hr.mono (by decide)) (by rfl) AV.gC bA .nil passE (pa_cons (pv 3) (pa_cons (pe_call GVowels (hr.mono (by decide)) (by rfl) T.gVowels T.FVowels.kp T.bVowels .nil pass0 (pa_cons (pv 2) (pa_cons (pv 3) pa_nil))) pa_nil))))
      (pss_cons (ps_set (i := 5) scWorld.nd rfl (Or.inl rfl) (pe_op op_addS (pe_strS (l := [45]) (by decide +kernel)) (pe_join (pe_strS (l := []) (by decide +kernel)) (pe_callB (cr_sortT rfl) (by rfl) T.z_sorted (by decide +kernel) (pa_cons (pv 3) pa_nil)))))
      (pss_cons (ps_set (i := 6) scWorld.nd rfl (Or.inl rfl) (pe_lst pa_nil))
      (pss_cons (ps_set (i := 7) scWorld.nd rfl (Or.inl rfl) (pe_lst pa_nil))
      (pss_cons (ps_for PassesOwn.never rfl (pi_range1 (by rfl) T.z_range (pa_cons pe_int pa_nil)) (pg_name (i := 8) scWorld.nd rfl (Or.inl rfl)) (pss_cons (ps_set (i := 9) scWorld.nd rfl (Or.inl rfl) (pe_call GText (hr.mono (by decide)) (by rfl) T.gText T.FText.kp T.bText .nil pass0 (pa_cons (pv 2) (pa_cons (pv 5) (pa_cons (pe_call GSize (hr.mono (by decide)) (by rfl) T.gSize T.FSize.kp T.bSize .nil pass0 (pa_cons (pv 2) (pa_cons pe_int pa_nil))) pa_nil)))))
      (pss_cons (ps_expr (pe_bm PySem.F.plainAttrs_list PySem.F.slot_list_append PySem.F.type_list_append mt_append (pv 6) (pa_cons (pe_make T.mkPage GPI (hr.mono (by decide)) (by rfl) T.gPage bPI2 .nil pass0 (pa_cons (pv 4) (pa_cons (pv 9) pa_nil))) pa_nil)))
      (pss_one (ps_expr (pe_bm PySem.F.plainAttrs_list PySem.F.slot_list_append PySem.F.type_list_append mt_append (pv 7) (pa_cons (pe_lst (pa_cons (pv 9) (pa_cons pe_int (pa_cons pe_non (pa_cons (pe_strS (l := []) (by decide +kernel)) pa_nil))))) pa_nil)))))))
      (pss_cons (ps_set (i := 10) scWorld.nd rfl (Or.inl rfl) (pe_ix (r := rIxL K) ix_list (pe_lst (pa_cons (pe_strS (l := kStr2) kStr2_eq) (pa_cons (pe_strS (l := kStr1) kStr1_eq) (pa_cons (pe_strS (l := kStr0) kStr0_eq) pa_nil)))) (pe_call GTake (hr.mono (by decide)) (by rfl) T.gTake T.FTake.kp T.bTake .nil pass0 (pa_cons (pv 2) (pa_cons pe_int pa_nil))) (fun _ _ => rfl)))
      (pss_cons (ps_for PassesOwn.never rfl (pi_range1 (by rfl) T.z_range (pa_cons (pe_op op_add pe_int (pe_call GTake (hr.mono (by decide)) (by rfl) T.gTake T.FTake.kp T.bTake .nil pass0 (pa_cons (pv 2) (pa_cons pe_int pa_nil)))) pa_nil)) (pg_name (i := 8) scWorld.nd rfl (Or.inl rfl)) (pss_cons (ps_set (i := 11) scWorld.nd rfl (Or.inl rfl) (pe_op op_mod (pe_callTy call_int1 (by rfl) T.z_int (by decide +kernel) (pa_cons (pe_call GTake (hr.mono (by decide)) (by rfl) T.gTake T.FTake.kp T.bTake .nil pass0 (pa_cons (pv 2) (pa_cons pe_int pa_nil))) pa_nil)) pe_int))
      (pss_cons (ps_if (pt_not (pt_val (pe_call GWorked (hr.mono (by decide)) (by rfl) T.gWorked T.FWorked.kp T.bWorked .nil pass0 (pa_cons (pe_ix (r := rIxL K) ix_list (pv 6) (pv 11) (fun _ _ => rfl)) (pa_cons (pe_ix (r := rIxL K) ix_list (pv 7) (pv 11) (fun _ _ => rfl)) (pa_cons (pe_call GKey (hr.mono (by decide)) (by rfl) T.gKey T.FKey.kp T.bKey .nil pass0 (pa_cons (pv 2) (pa_cons (pv 5) (pa_cons (pv 10) pa_nil)))) pa_nil)))))) (pss_one (ps_ret pe_bl)) pss_nil)
      (pss_one (ps_if (pt_cmpR op_lt (pe_call GTake (hr.mono (by decide)) (by rfl) T.gTake T.FTake.kp T.bTake .nil pass0 (pa_cons (pv 2) (pa_cons pe_int pa_nil))) pe_int (nomark _)) (pss_one (ps_if (PW.pt (pw_or (pt_not (pt_val (pe_call GSame (hr.mono (by decide)) (by rfl) T.gSame T.FSame.kp T.bSame .nil pass0 (pa_cons (pe_ix (r := rIxL K) ix_list (pv 6) (pv 11) (fun _ _ => rfl)) (pa_cons (pe_ix (r := rIxL K) ix_list (pv 7) (pv 11) (fun _ _ => rfl)) pa_nil))))) (pw_or1 (pt_not (pt_val (pe_call GSame (hr.mono (by decide)) (by rfl) T.gSame T.FSame.kp T.bSame .nil pass0 (pa_cons (pe_ix (r := rIxL K) ix_list (pv 6) (pe_op op_sub pe_int (pv 11)) (fun _ _ => rfl)) (pa_cons (pe_ix (r := rIxL K) ix_list (pv 7) (pe_op op_sub pe_int (pv 11)) (fun _ _ => rfl)) pa_nil)))))))) (pss_one (ps_ret pe_bl)) pss_nil)) pss_nil)))))
      (pss_cons (ps_for PassesOwn.never rfl (pi_range1 (by rfl) T.z_range (pa_cons pe_int pa_nil)) (pg_name (i := 11) scWorld.nd rfl (Or.inl rfl)) (pss_one (ps_if (PW.pt (pw_or (pt_not (pt_val (pe_call GSame (hr.mono (by decide)) (by rfl) T.gSame T.FSame.kp T.bSame .nil pass0 (pa_cons (pe_ix (r := rIxL K) ix_list (pv 6) (pv 11) (fun _ _ => rfl)) (pa_cons (pe_ix (r := rIxL K) ix_list (pv 7) (pv 11) (fun _ _ => rfl)) pa_nil))))) (pw_or1 (pt_not (pt_val (pe_call GRestored (hr.mono (by decide)) (by rfl) T.gRestored T.FRestored.kp T.bRestored .nil pass0 (pa_cons (pe_ix (r := rIxL K) ix_list (pv 6) (pv 11) (fun _ _ => rfl)) (pa_cons (pe_ix (r := rIxL K) ix_list (pv 7) (pv 11) (fun _ _ => rfl)) pa_nil)))))))) (pss_one (ps_ret pe_bl)) pss_nil)))
      (pss_cons (ps_set (i := 12) scWorld.nd rfl (Or.inl rfl) (pe_ix ix_str (pv 5) (pe_call GTake (hr.mono (by decide)) (by rfl) T.gTake T.FTake.kp T.bTake .nil pass0 (pa_cons (pv 2) (pa_cons (pe_callB call_lenS (by rfl) T.z_len (by decide +kernel) (pa_cons (pv 5) pa_nil)) pa_nil))) (fun _ _ => rfl)))
      (pss_cons (ps_set (i := 13) scWorld.nd rfl (Or.inl rfl) (pe_ix ix_str (pv 5) (pe_call GTake (hr.mono (by decide)) (by rfl) T.gTake T.FTake.kp T.bTake .nil pass0 (pa_cons (pv 2) (pa_cons (pe_callB call_lenS (by rfl) T.z_len (by decide +kernel) (pa_cons (pv 5) pa_nil)) pa_nil))) (fun _ _ => rfl)))
      (pss_cons (ps_for PassesOwn.never rfl (pi_range1 (by rfl) T.z_range (pa_cons pe_int pa_nil)) (pg_name (i := 11) scWorld.nd rfl (Or.inl rfl)) (pss_one (ps_if (pt_not (pt_val (pe_call GChain (hr.mono (by decide)) (by rfl) T.gChain T.FChain.kp T.bChain .nil pass0 (pa_cons (pe_ix (r := rIxL K) ix_list (pv 6) (pv 11) (fun _ _ => rfl)) (pa_cons (pe_ix (r := rIxL K) ix_list (pv 7) (pv 11) (fun _ _ => rfl)) (pa_cons (pv 12) (pa_cons (pv 13) pa_nil))))))) (pss_one (ps_ret pe_bl)) pss_nil)))
      (pss_one (ps_ret (pe_call GSame (hr.mono (by decide)) (by rfl) T.gSame T.FSame.kp T.bSame .nil pass0 (pa_cons (pe_ix (r := rIxL K) ix_list (pv 6) pe_int (fun _ _ => rfl)) (pa_cons (pe_ix (r := rIxL K) ix_list (pv 7) pe_int (fun _ _ => rfl)) pa_nil))))))))))))))))))), ?_⟩
    walk_at "go"
    refine ⟨x, ns, kk, rfl, hS, hl, fun b g H1 hb hg hB1 s1 => ?_⟩
    walk_at "go"
    refine ⟨b, g, 4, rfl, hB1, by decide, by decide, fun r H2 hr2 hB2 f2 => ?_⟩
    walk_at "go"
    refine ⟨b, g, 1 + r, by rw [show (1 : Int) + (r : Int) = ((1 + r : Nat) : Int) by omega], hB2, by omega, fun l H3 hll hld hB3 f3 => ?_⟩
    walk_at "go"
    refine ⟨b, g, l, rfl, hB3, by omega, hld.1, fun v H4 hvn hvl hvlen hB4 f4 => ?_⟩
    walk_at "go"
    have hdue : dueT l v = "" := by
      unfold dueT
      rw [if_neg (by
        rintro (h | h | h)
        · omega
        · omega
        · exact h hld), if_neg (fun h => h ⟨hvn, hvl⟩)]
    intro al dxa hal0 hdx0 hne0
    refine ⟨al, dxa, l, v, rfl, upd_same, by omega, by omega, fun _ H5 hA5 hk5 => ⟨rfl, ?_⟩, fun hne => absurd hdue hne⟩
    have s5 : Same H4 H5 := fun c u e => by
      have h1 : c ≠ al := ne_of_none e hal0
      have h2 : c ≠ dxa := ne_of_none e hdx0
      exact hk5 c u h1 (by rw [upd_ne h1, upd_ne h2]; exact e)
    have hB5 := hB4.same s5
    have F5 : Fr [b] H1 H5 := Fr.trans (Fr.trans (Fr.trans f2 f3) f4) (Fr.of_same s5)
    have hbg := hB5.1
    walk_at "go"
    refine ⟨S l, rfl, (by rw [S_len]; omega), fun ys p1 hp hs n1 => ?_⟩
    obtain ⟨b1, e1⟩ := joined (by omega) hp hs
    have s6 : Same H5 (upd H5 p1 (.lst (ys.map V.str))) := upd_laid n1
    have eE : S [] = PySem.Str.ofString "" := by decide +kernel
    refine ⟨_, p1, ys, rfl, rfl, .inl (SqL.of upd_same), by rw [eE]; exact b1, ?_⟩
    rw [eE, e1, ← eE]
    have hB6 := hB5.same s6
    have hA6 := hA5.same s6
    have F6 := Fr.trans F5 (Fr.of_same s6)
    generalize upd H5 p1 (.lst (ys.map V.str)) = H6 at hB6 hA6 F6
    show rAddS (.str (S [45])) (.str (S (srtL l))) H6 _
    refine iAddS (by rw [srtL_len]; simp; omega) ?_
    have e45 : [45] ++ srtL l = 45 :: srtL l := rfl
    rw [e45]
    have hsl : (45 :: srtL l).length ≤ 5 := by rw [List.length_cons, srtL_len]; omega
    have hsp : 0 < (45 :: srtL l).length := by simp
    have hsc : ∀ c ∈ 45 :: srtL l, c < 128 := fun c hc => by
      rcases List.mem_cons.mp hc with rfl | hc
      · decide
      · have := hld.2 c ((srtL_perm l).mem_iff.mp hc)
        have h128 : ∀ c ∈ azL, c < 128 := by decide +kernel
        exact h128 c this
    generalize hsg : 45 :: srtL l = sg at hsl hsp hsc
    clear hB5 hB4 hB3 hB2 hB1 f2 f3 f4 F5 hA5 hk5 s5 s6 hal0 hdx0
    walk_at "go"
    rename_i ps hps0 os hos0
    have hop : os ≠ ps := fun e => by
      subst e
      rw [upd_same] at hos0
      cases hos0
    have hos6 : H6 os = none := by
      rw [upd_ne hop] at hos0
      exact hos0
    have hps7 : (upd (upd H6 ps (.lst [])) os (.lst [])) ps = some (.lst []) := upd_old hos0 upd_same
    have hos7 : (upd (upd H6 ps (.lst [])) os (.lst [])) os = some (.lst []) := upd_same
    have s7 : Same H6 (upd (upd H6 ps (.lst [])) os (.lst [])) := Same.trans (Same.upd_new hps0) (Same.upd_new hos0)
    have nbps : b ≠ ps := by
      obtain ⟨_, _, _, _, e, _⟩ := hB6
      exact ne_of_none e hps0
    have nbos : b ≠ os := by
      obtain ⟨_, _, _, _, e, _⟩ := hB6
      exact ne_of_none e hos6
    have nab : al ≠ b := by
      obtain ⟨_, _, _, _, e, _⟩ := hB6
      obtain ⟨_, q⟩ := hA6
      exact ne_get q e (by simp)
    have hB7 := hB6.same s7
    have hA7 := hA6.same s7
    have F7 := Fr.trans F6 (Fr.of_same s7)
    generalize upd (upd H6 ps (.lst [])) os (.lst []) = H7 at hps7 hos7 s7 hB7 hA7 F7
    show ForG (Itr 0 2) _ _ _ _ _
    refine for_R2 ?_
    walk_at "go"
    refine ⟨b, g, 7, rfl, hB7, by decide, by decide, fun n0 H8 hn8 hB8 f8 => ?_⟩
    walk_at "go"
    refine ⟨b, g, sg, n0, rfl, hB8, hsp, by omega, by omega, fun t0 H9 ht9 hc9 hB9 f9 => ?_⟩
    have f9 : Fr [b] H7 H9 := Fr.trans f8 f9
    have hA9 := hA7.fr f9 (by simpa using nab)
    have hps9 := f9 _ _ (by simpa using nbps.symm) hps7
    have hos9 := f9 _ _ (by simpa using nbos.symm) hos7
    walk_at "go"
    intro pg0 dx0 hpg0 hdx0 hne0
    have na0 : al ≠ pg0 := hA9.ne hpg0
    refine ⟨pg0, dx0, al, l, v, t0, rfl, upd_same, hA9.fr (L := [pg0]) (Fr.trans (Fr.upd_new hdx0) Fr.in0) (by simpa using na0), by omega, by rw [hsg]; exact hc9, fun H10 hp10 f10 => ⟨rfl, ?_⟩⟩
    have f10 : Fr [pg0] H9 H10 := fr_made hpg0 hdx0 hne0 f10
    have hps10 := f10 _ _ (by simpa using ne_of_none hps9 hpg0) hps9
    have hos10 := f10 _ _ (by simpa using ne_of_none hos9 hpg0) hos9
    walk_at "go"
    rename_i o0 ho0
    have hA10 := hA9.fr f10 (by simpa using na0)
    have nb0 : b ≠ pg0 := by
      obtain ⟨_, _, _, _, e, _⟩ := hB9
      exact ne_of_none e hpg0
    have ng0 : g ≠ pg0 := by
      obtain ⟨_, _, _, _, _, e, _⟩ := hB9
      exact ne_of_none e hpg0
    have hB10 := hB9.fr f10 (by simpa using nb0) (by simpa using ng0)
    have hp10' : H10 pg0 = some (.ins a.cPage dx0 ((⟨t0, 0, none, []⟩ : Pg).fs al)) := hp10
    have n0ps : o0 ≠ ps := fun e => by
      subst e
      rw [upd_same] at ho0
      cases ho0
    have ho10 : H10 o0 = none := by
      rw [upd_ne n0ps] at ho0
      exact ho0
    have n0os : os ≠ o0 := ne_of_none hos10 ho10
    have n00 : pg0 ≠ o0 := ne_of_none hp10' ho10
    have nps0 : pg0 ≠ ps := ne_get hp10' hps10 (by simp)
    have nos0 : pg0 ≠ os := ne_get hp10' hos10 (by simp)
    have naps : al ≠ ps := by
      obtain ⟨_, q⟩ := hA10
      exact ne_get q hps10 (by simp)
    have naos : al ≠ os := by
      obtain ⟨_, q⟩ := hA10
      exact ne_get q hos10 (by simp)
    have nao0 : al ≠ o0 := hA10.ne ho10
    have nbo0 : b ≠ o0 := by
      obtain ⟨_, _, _, _, e, _⟩ := hB10
      exact ne_of_none e ho10
    have ngps : g ≠ ps := by
      obtain ⟨_, _, _, cs, _, e, _, hc, _⟩ := hB10
      exact ne_get e hps10 (fun h => by
        injection h with h
        rw [List.map_eq_nil_iff] at h
        rw [h] at hc
        simp at hc)
    have ngos : g ≠ os := by
      obtain ⟨_, _, _, cs, _, e, _, hc, _⟩ := hB10
      exact ne_get e hos10 (fun h => by
        injection h with h
        rw [List.map_eq_nil_iff] at h
        rw [h] at hc
        simp at hc)
    have F10 : Fr [b, pg0] H1 H10 := Fr.trans (Fr.mono F7 (by simp)) (Fr.trans (Fr.mono f9 (by simp)) (Fr.mono f10 (by simp)))
    have hpsA : (upd (upd (upd H10 ps (.lst ([] ++ [.ref pg0]))) o0 (.lst [.str (S t0), .int 0, .non, .str (S [])])) os (.lst ([] ++ [.ref o0]))) ps = some (.lst [.ref pg0]) := upd_oth hop.symm (upd_oth n0ps.symm upd_same)
    have hosA : (upd (upd (upd H10 ps (.lst ([] ++ [.ref pg0]))) o0 (.lst [.str (S t0), .int 0, .non, .str (S [])])) os (.lst ([] ++ [.ref o0]))) os = some (.lst [.ref o0]) := upd_same
    have h0A : PgAt a.cPage (upd (upd (upd H10 ps (.lst ([] ++ [.ref pg0]))) o0 (.lst [.str (S t0), .int 0, .non, .str (S [])])) os (.lst ([] ++ [.ref o0]))) pg0 dx0 al ⟨t0, 0, none, []⟩ := upd_oth nos0 (upd_oth n00 (upd_oth nps0 hp10'))
    have w0A : IsOwn (upd (upd (upd H10 ps (.lst ([] ++ [.ref pg0]))) o0 (.lst [.str (S t0), .int 0, .non, .str (S [])])) os (.lst ([] ++ [.ref o0]))) o0 ⟨t0, 0, none, []⟩ := upd_oth n0os.symm upd_same
    have fA : Fr [ps, os, o0] H10 (upd (upd (upd H10 ps (.lst ([] ++ [.ref pg0]))) o0 (.lst [.str (S t0), .int 0, .non, .str (S [])])) os (.lst ([] ++ [.ref o0]))) := Fr.trans (Fr.trans (Fr.upd_in (by simp)) (Fr.upd_in (by simp))) (Fr.upd_in (by simp))
    generalize (upd (upd (upd H10 ps (.lst ([] ++ [.ref pg0]))) o0 (.lst [.str (S t0), .int 0, .non, .str (S [])])) os (.lst ([] ++ [.ref o0]))) = HA at hpsA hosA h0A w0A fA
    have hAA := hA10.fr fA (by simp [naps, naos, nao0])
    have hBA := hB10.fr fA (by simp [nbps, nbos, nbo0]) (by
      have ngo0 : g ≠ o0 := by
        obtain ⟨_, _, _, _, _, e, _⟩ := hB10
        exact ne_of_none e ho10
      simp [ngps, ngos, ngo0])
    have FA : Fr [b, pg0, ps, os, o0] H1 HA := Fr.trans (Fr.mono F10 (by intro x hx; simp only [List.mem_cons, List.not_mem_nil, or_false] at hx ⊢; grind)) (Fr.mono fA (by intro x hx; simp only [List.mem_cons, List.not_mem_nil, or_false] at hx ⊢; grind))
    refine ⟨b, g, 7, rfl, hBA, by decide, by decide, fun n1 H11 hn11 hB11 f11 => ?_⟩
    walk_at "go"
    refine ⟨b, g, sg, n1, rfl, hB11, hsp, by omega, by omega, fun t1 H12 ht12 hc12 hB12 f12 => ?_⟩
    have f12 : Fr [b] HA H12 := Fr.trans f11 f12
    have hA12 := hAA.fr f12 (by simpa using nab)
    have hps12 := f12 _ _ (by simpa using nbps.symm) hpsA
    have hos12 := f12 _ _ (by simpa using nbos.symm) hosA
    have h012 : PgAt a.cPage H12 pg0 dx0 al ⟨t0, 0, none, []⟩ := f12 _ _ (by simpa using nb0.symm) h0A
    have w012 : IsOwn H12 o0 ⟨t0, 0, none, []⟩ := f12 _ _ (by simpa using nbo0.symm) w0A
    walk_at "go"
    intro pg1 dx1 hpg1 hdx1 hne1
    have na1 : al ≠ pg1 := hA12.ne hpg1
    refine ⟨pg1, dx1, al, l, v, t1, rfl, upd_same, hA12.fr (L := [pg1]) (Fr.trans (Fr.upd_new hdx1) Fr.in0) (by simpa using na1), by omega, by rw [hsg]; exact hc12, fun H13 hp13 f13 => ⟨rfl, ?_⟩⟩
    have f13 : Fr [pg1] H12 H13 := fr_made hpg1 hdx1 hne1 f13
    have np : pg0 ≠ pg1 := ne_of_none h012 hpg1
    have nps1 : ps ≠ pg1 := ne_of_none hps12 hpg1
    have nos1 : os ≠ pg1 := ne_of_none hos12 hpg1
    have no1 : o0 ≠ pg1 := ne_of_none w012 hpg1
    have hps13 := f13 _ _ (by simpa using nps1) hps12
    have hos13 := f13 _ _ (by simpa using nos1) hos12
    have h013 := f13 _ _ (by simpa using np) h012
    have w013 := f13 _ _ (by simpa using no1) w012
    walk_at "go"
    rename_i o1 ho1 mn hmn
    have hB13 := hB12.fr f13 (by
      obtain ⟨_, _, _, _, e, _⟩ := hB12
      simpa using ne_of_none e hpg1) (by
      obtain ⟨_, _, _, _, _, e, _⟩ := hB12
      simpa using ne_of_none e hpg1)
    have hA13 := hA12.fr f13 (by simpa using na1)
    have hp13' : H13 pg1 = some (.ins a.cPage dx1 ((⟨t1, 0, none, []⟩ : Pg).fs al)) := hp13
    have n1ps : o1 ≠ ps := fun e => by
      subst e
      rw [upd_same] at ho1
      cases ho1
    have ho13 : H13 o1 = none := by
      rw [upd_ne n1ps] at ho1
      exact ho1
    have n1os : os ≠ o1 := ne_of_none hos13 ho13
    have n11 : pg1 ≠ o1 := ne_of_none hp13' ho13
    have n01 : pg0 ≠ o1 := ne_of_none h013 ho13
    have no : o0 ≠ o1 := ne_of_none w013 ho13
    have hpsZ : (upd (upd (upd H13 ps (.lst ([.ref pg0] ++ [.ref pg1]))) o1 (.lst [.str (S t1), .int 0, .non, .str (S [])])) os (.lst ([.ref o0] ++ [.ref o1]))) ps = some (.lst [.ref pg0, .ref pg1]) := upd_oth hop.symm (upd_oth n1ps.symm upd_same)
    have hosZ : (upd (upd (upd H13 ps (.lst ([.ref pg0] ++ [.ref pg1]))) o1 (.lst [.str (S t1), .int 0, .non, .str (S [])])) os (.lst ([.ref o0] ++ [.ref o1]))) os = some (.lst [.ref o0, .ref o1]) := upd_same
    have h0Z : PgAt a.cPage (upd (upd (upd H13 ps (.lst ([.ref pg0] ++ [.ref pg1]))) o1 (.lst [.str (S t1), .int 0, .non, .str (S [])])) os (.lst ([.ref o0] ++ [.ref o1]))) pg0 dx0 al ⟨t0, 0, none, []⟩ := upd_oth nos0 (upd_oth n01 (upd_oth nps0 h013))
    have h1Z : PgAt a.cPage (upd (upd (upd H13 ps (.lst ([.ref pg0] ++ [.ref pg1]))) o1 (.lst [.str (S t1), .int 0, .non, .str (S [])])) os (.lst ([.ref o0] ++ [.ref o1]))) pg1 dx1 al ⟨t1, 0, none, []⟩ := upd_oth nos1.symm (upd_oth n11 (upd_oth nps1.symm hp13'))
    have w0Z : IsOwn (upd (upd (upd H13 ps (.lst ([.ref pg0] ++ [.ref pg1]))) o1 (.lst [.str (S t1), .int 0, .non, .str (S [])])) os (.lst ([.ref o0] ++ [.ref o1]))) o0 ⟨t0, 0, none, []⟩ := upd_oth n0os.symm (upd_oth no (upd_oth n0ps w013))
    have w1Z : IsOwn (upd (upd (upd H13 ps (.lst ([.ref pg0] ++ [.ref pg1]))) o1 (.lst [.str (S t1), .int 0, .non, .str (S [])])) os (.lst ([.ref o0] ++ [.ref o1]))) o1 ⟨t1, 0, none, []⟩ := upd_oth n1os.symm upd_same
    have fZ : Fr [ps, os, o1] H13 (upd (upd (upd H13 ps (.lst ([.ref pg0] ++ [.ref pg1]))) o1 (.lst [.str (S t1), .int 0, .non, .str (S [])])) os (.lst ([.ref o0] ++ [.ref o1]))) := Fr.trans (Fr.trans (Fr.upd_in (by simp)) (Fr.upd_in (by simp))) (Fr.upd_in (by simp))
    generalize (upd (upd (upd H13 ps (.lst ([.ref pg0] ++ [.ref pg1]))) o1 (.lst [.str (S t1), .int 0, .non, .str (S [])])) os (.lst ([.ref o0] ++ [.ref o1]))) = HZ at hpsZ hosZ h0Z h1Z w0Z w1Z fZ hmn ⊢
    have hAZ := hA13.fr fZ (by
      obtain ⟨_, q⟩ := hA13
      simp [naps, naos, ne_of_none q ho13])
    have hBZ := hB13.fr fZ (by
      obtain ⟨_, _, _, _, e, _⟩ := hB13
      simp [nbps, nbos, ne_of_none e ho13]) (by
      obtain ⟨_, _, _, _, _, e, _⟩ := hB13
      simp [ngps, ngos, ne_of_none e ho13])
    have ws : WS a.cPage a.cAlphabet HZ b g al ps os pg0 dx0 o0 pg1 dx1 o1 ⟨t0, 0, none, []⟩ ⟨t1, 0, none, []⟩ l v := ⟨hBZ, hAZ, hpsZ, hosZ, h0Z, h1Z, w0Z, w1Z, np, no⟩
    have FZ : Fr [b, ps, os, pg0, o0, pg1, o1] H HZ := by
      have m : ∀ {L : List Addr} {H1 H2 : Hp}, Fr L H1 H2 → (∀ x ∈ L, x ∈ [b, ps, os, pg0, o0, pg1, o1]) → Fr [b, ps, os, pg0, o0, pg1, o1] H1 H2 := fun f h => Fr.mono f h
      refine Fr.trans (Fr.of_same s1) (Fr.trans (m FA ?_) (Fr.trans (m f12 ?_) (Fr.trans (m f13 ?_) (m fZ ?_))))
      all_goals
        intro x hx
        simp only [List.mem_cons, List.not_mem_nil, or_false] at hx ⊢
        grind
    have ok0 : (⟨t0, 0, none, []⟩ : Pg).okN 60 := ⟨Nat.zero_le _, (fun i (hi : (none : Option Nat) = some i) => nomatch hi), by show t0.length ≤ 60; omega, Nat.zero_le 2⟩
    have ok1 : (⟨t1, 0, none, []⟩ : Pg).okN 60 := ⟨Nat.zero_le _, (fun i (hi : (none : Option Nat) = some i) => nomatch hi), by show t1.length ≤ 60; omega, Nat.zero_le 2⟩
    have fresh : ∀ y ∈ [b, ps, os, pg0, o0, pg1, o1], y ∈ ([] : List Addr) ∨ H y = none := by
      have E6 : Fr [b] H H6 := Fr.trans (Fr.of_same s1) F6
      have E9 : Fr [b] H H9 := Fr.trans (Fr.trans (Fr.of_same s1) F7) f9
      have E10 : Fr [b, pg0] H H10 := Fr.trans (Fr.of_same s1) F10
      have E12 : Fr [b, pg0, ps, os, o0] H H12 := Fr.trans (Fr.trans (Fr.of_same s1) FA) (Fr.mono f12 (by simp))
      have E13 : Fr [b, pg0, ps, os, o0, pg1] H H13 := by
        refine Fr.trans (Fr.mono E12 ?_) (Fr.mono f13 ?_)
        all_goals
          intro x hx
          simp only [List.mem_cons, List.not_mem_nil, or_false] at hx ⊢
          grind
      have nb1 : b ≠ pg1 := by
        obtain ⟨_, _, _, _, e, _⟩ := hB12
        exact ne_of_none e hpg1
      have nbo1 : b ≠ o1 := by
        obtain ⟨_, _, _, _, e, _⟩ := hB13
        exact ne_of_none e ho13
      intro y hy
      right
      simp only [List.mem_cons, List.not_mem_nil, or_false] at hy
      rcases hy with rfl | rfl | rfl | rfl | rfl | rfl | rfl
      · exact hb
      · exact Fr.none E6 (by simpa using nbps.symm) hps0
      · exact Fr.none E6 (by simpa using nbos.symm) hos6
      · exact Fr.none E9 (by simpa using nb0.symm) hpg0
      · exact Fr.none E10 (by simp [nbo0.symm, n00.symm]) ho10
      · exact Fr.none E12 (by simp [nb1.symm, np.symm, nps1.symm, nos1.symm, no1.symm]) hpg1
      · exact Fr.none E13 (by simp [nbo1.symm, n01.symm, n1ps, n1os.symm, no.symm, n11.symm]) ho13
    clear hBZ hAZ hpsZ hosZ h0Z h1Z w0Z w1Z fZ hA13 hB13 h013 w013 hps13 hos13 hp13 hp13' f13 hA12 hB12 h012 w012 hps12 hos12 f12 hB11 f11 FA hBA hAA hpsA hosA h0A w0A fA F10 hp10 hp10' hps10 hos10 hB10 hA10 f10 hps9 hos9 hA9 hB9 f9 hB8 f8 hps7 hos7 hB7 hA7 F7 s7 hB6 hA6 F6 hps0 hos0 hos6 ho0 ho1 ho10 ho13 hdx0 hdx1 hpg0 hpg1
    have sM : Same HZ (upd HZ mn (.lst [.str (S kStr2), .str (S kStr1), .str (S kStr0)])) := Same.upd_new hmn
    have hM : (upd HZ mn (.lst [.str (S kStr2), .str (S kStr1), .str (S kStr0)])) mn = some (.lst [.str (S kStr2), .str (S kStr1), .str (S kStr0)]) := upd_same
    have nmb : mn ≠ b := by
      obtain ⟨⟨_, _, _, _, e, _⟩, _⟩ := ws
      exact (ne_of_none e hmn).symm
    have ws := ws.same sM
    have FZ := Fr.trans FZ (Fr.of_same sM)
    generalize upd HZ mn (.lst [.str (S kStr2), .str (S kStr1), .str (S kStr0)]) = HM at hM ws FZ
    clear hmn sM
    refine ⟨b, g, 3, rfl, ws.hb, by decide, by decide, fun mi H14 hmi hB14 f14 => ?_⟩
    have hM14 := f14 _ _ (by simpa using nmb) hM
    have ws := ws.take f14 hB14
    have FZ := Fr.trans FZ (Fr.mono f14 (by simp))
    clear hB14 f14
    obtain ⟨mL, hmL, hm0, hm1, hmx⟩ : ∃ mL : List Nat, [V.str (S kStr2), V.str (S kStr1), V.str (S kStr0)][mi]? = some (V.str (S mL)) ∧ 0 < mL.length ∧ mL.length ≤ 100 ∧ ∀ c ∈ mL, c ∈ plainL ∨ c ∈ signL := by
      match mi, hmi with
      | 0, _ => exact ⟨kStr2, rfl, by decide +kernel, by decide +kernel, by decide +kernel⟩
      | 1, _ => exact ⟨kStr1, rfl, by decide +kernel, by decide +kernel, by decide +kernel⟩
      | 2, _ => exact ⟨kStr0, rfl, by decide +kernel, by decide +kernel, by decide +kernel⟩
    refine iIxL (SqL.of hM14) (atI_nat hmL) ?_
    walk_at "go"
    refine ⟨b, g, 30, rfl, ws.hb, by decide, by decide, fun tn H15 htn hB15 f15 => ?_⟩
    have ws := ws.take f15 hB15
    have FZ := Fr.trans FZ (Fr.mono f15 (by simp))
    clear hB15 f15
    walk_at "go"
    rw [show ((4 : Int) + (tn : Int)).toNat = 4 + tn by omega]
    refine for_R (n := 4 + tn) (fun i σ H' => Stop (∃ (p0 p1 : Pg) (v8 v11 : Option V), σ = [some (.ref x), some (.int (kk : Int)), some (.ref b), some (.str (S l)), some (.ref al), some (.str (S sg)), some (.ref ps), some (.ref os), v8, some (.str (S t1)), some (.str (S mL)), v11, none, none] ∧
        WS a.cPage a.cAlphabet H' b g al ps os pg0 dx0 o0 pg1 dx1 o1 p0 p1 l v ∧ p0.okN (60 + 2 * i) ∧ p1.okN (60 + 2 * i) ∧ Fr [b, ps, os, pg0, o0, pg1, o1] H H'))
      ⟨_, _, _, none, rfl, ws, ok0, ok1, FZ⟩ ?_ ?_
    · clear ws FZ ok0 ok1 hM14 hM fresh
      rintro i σ H15 hi ⟨p0, p1, v8, v11, rfl, ws, ok0, ok1, FY⟩
      walk_at "go"
      refine ⟨b, g, 3, rfl, ws.hb, by decide, by decide, fun r3 H16 hr3 hB16 f16 => ?_⟩
      have ws := ws.take f16 hB16
      have FY := Fr.trans FY (Fr.mono f16 (by simp))
      have hps := ws.hps
      have hos := ws.hos
      clear f16 hB16
      obtain rfl | rfl | rfl : r3 = 0 ∨ r3 = 1 ∨ r3 = 2 := by omega
      · walk_at "go"
        refine ⟨b, g, sg, mL, rfl, ws.hb, hsp, by omega, fun c hc => Nat.lt_trans (hsc c hc) (by decide), hm0, hm1, hmx, fun key h c H17 tx kb ik hB17 f17 => ?_⟩
        have ws := ws.take f17 hB17
        have FY := Fr.trans FY (Fr.mono f17 (by simp))
        walk_at "go"
        refine ⟨pg0, dx0, al, o0, p0, l, v, key, h, c, rfl, ws.h0, ws.w0, ok0.ok (by omega), ws.hal, tx, by rw [hsg]; exact kb, ik, fun H18 hp18 hw18 f18 => ?_⟩
        have ws := ws.one0 f18 hp18 hw18
        have FY := Fr.trans FY (Fr.mono f18 (by simp))
        have ok0 : (pressP p0 h c).2.okN (60 + 2 * (i + 1)) := press_ok ok0
        have ok1 : p1.okN (60 + 2 * (i + 1)) := ok1.mono (by omega)
        generalize (pressP p0 h c).2 = q0 at ws ok0
        clear f17 hB17 f18 hp18 hw18
        walk_at "go"
        refine ⟨b, g, 3, rfl, ws.hb, by decide, by decide, fun r2 H19 hr2 hB19 f19 => ?_⟩
        have ws := ws.take f19 hB19
        have FY := Fr.trans FY (Fr.mono f19 (by simp))
        have hps := ws.hps
        have hos := ws.hos
        clear f19 hB19
        walk_at "go"
        · refine cSame ws.h0 ws.w0 (ok0.ok (by omega)) ?_
          walk_at "go"
          refine cSame ws.h1 ws.w1 (ok1.ok (by omega)) ?_
          walk_at "go"
          exact ⟨_, _, _, _, rfl, ws, ok0, ok1, FY⟩
        · exact ⟨_, _, _, _, rfl, ws, ok0, ok1, FY⟩
      · walk_at "go"
        refine ⟨b, g, sg, mL, rfl, ws.hb, hsp, by omega, fun c hc => Nat.lt_trans (hsc c hc) (by decide), hm0, hm1, hmx, fun key h c H17 tx kb ik hB17 f17 => ?_⟩
        have ws := ws.take f17 hB17
        have FY := Fr.trans FY (Fr.mono f17 (by simp))
        walk_at "go"
        refine ⟨pg1, dx1, al, o1, p1, l, v, key, h, c, rfl, ws.h1, ws.w1, ok1.ok (by omega), ws.hal, tx, by rw [hsg]; exact kb, ik, fun H18 hp18 hw18 f18 => ?_⟩
        have ws := ws.one1 f18 hp18 hw18
        have FY := Fr.trans FY (Fr.mono f18 (by simp))
        have ok1 : (pressP p1 h c).2.okN (60 + 2 * (i + 1)) := press_ok ok1
        have ok0 : p0.okN (60 + 2 * (i + 1)) := ok0.mono (by omega)
        generalize (pressP p1 h c).2 = q1 at ws ok1
        clear f17 hB17 f18 hp18 hw18
        walk_at "go"
        refine ⟨b, g, 3, rfl, ws.hb, by decide, by decide, fun r2 H19 hr2 hB19 f19 => ?_⟩
        have ws := ws.take f19 hB19
        have FY := Fr.trans FY (Fr.mono f19 (by simp))
        have hps := ws.hps
        have hos := ws.hos
        clear f19 hB19
        walk_at "go"
        · refine cSame ws.h1 ws.w1 (ok1.ok (by omega)) ?_
          walk_at "go"
          refine cSame ws.h0 ws.w0 (ok0.ok (by omega)) ?_
          walk_at "go"
          exact ⟨_, _, _, _, rfl, ws, ok0, ok1, FY⟩
        · exact ⟨_, _, _, _, rfl, ws, ok0, ok1, FY⟩
      · walk_at "go"
        refine ⟨b, g, sg, mL, rfl, ws.hb, hsp, by omega, fun c hc => Nat.lt_trans (hsc c hc) (by decide), hm0, hm1, hmx, fun key h c H17 tx kb ik hB17 f17 => ?_⟩
        have ws := ws.take f17 hB17
        have FY := Fr.trans FY (Fr.mono f17 (by simp))
        walk_at "go"
        refine ⟨pg0, dx0, al, o0, p0, l, v, key, h, c, rfl, ws.h0, ws.w0, ok0.ok (by omega), ws.hal, tx, by rw [hsg]; exact kb, ik, fun H18 hp18 hw18 f18 => ?_⟩
        have ws := ws.one0 f18 hp18 hw18
        have FY := Fr.trans FY (Fr.mono f18 (by simp))
        have ok0 : (pressP p0 h c).2.okN (60 + 2 * (i + 1)) := press_ok ok0
        have ok1 : p1.okN (60 + 2 * (i + 1)) := ok1.mono (by omega)
        generalize (pressP p0 h c).2 = q0 at ws ok0
        clear f17 hB17 f18 hp18 hw18
        walk_at "go"
        refine ⟨b, g, 3, rfl, ws.hb, by decide, by decide, fun r2 H19 hr2 hB19 f19 => ?_⟩
        have ws := ws.take f19 hB19
        have FY := Fr.trans FY (Fr.mono f19 (by simp))
        have hps := ws.hps
        have hos := ws.hos
        clear f19 hB19
        walk_at "go"
        · refine cSame ws.h0 ws.w0 (ok0.ok (by omega)) ?_
          walk_at "go"
          refine cSame ws.h1 ws.w1 (ok1.ok (by omega)) ?_
          walk_at "go"
          exact ⟨_, _, _, _, rfl, ws, ok0, ok1, FY⟩
        · exact ⟨_, _, _, _, rfl, ws, ok0, ok1, FY⟩
    · rintro σ H15 ⟨p0, p1, v8, v11, rfl, ws, ok0, ok1, FY⟩
      clear FZ hM14 hM
      have hps := ws.hps
      have hos := ws.hos
      have ok0 : p0.okN 200 := ok0.mono (by omega)
      have ok1 : p1.okN 200 := ok1.mono (by omega)
      walk_at "go"
      show ForG (Itr 0 2) _ _ _ _ _
      refine for_R2 ?_
      walk_at "go"
      refine cSame ws.h0 ws.w0 (ok0.ok (by omega)) ?_
      walk_at "go"
      refine ⟨pg0, dx0, al, o0, p0, l, v, rfl, ws.h0, ws.w0, ok0.ok (by omega), ws.hal, fun H30 hp30 hw30 f30 => ?_⟩
      have ws := ws.one0 f30 hp30 hw30
      have FY := Fr.trans FY (Fr.mono f30 (by simp))
      have ok0 : (backP p0).okN 200 := back_ok ok0
      have hps := ws.hps
      have hos := ws.hos
      clear hp30 hw30 f30
      generalize backP p0 = q0 at ws ok0
      walk_at "go"
      refine cSame ws.h1 ws.w1 (ok1.ok (by omega)) ?_
      walk_at "go"
      refine ⟨pg1, dx1, al, o1, p1, l, v, rfl, ws.h1, ws.w1, ok1.ok (by omega), ws.hal, fun H31 hp31 hw31 f31 => ?_⟩
      have ws := ws.one1 f31 hp31 hw31
      have FY := Fr.trans FY (Fr.mono f31 (by simp))
      have ok1 : (backP p1).okN 200 := back_ok ok1
      have hps := ws.hps
      have hos := ws.hos
      clear hp31 hw31 f31
      generalize backP p1 = q1 at ws ok1
      walk_at "go"
      refine ⟨b, g, sg.length, rfl, ws.hb, by omega, by omega, fun r1 H51 hr1 hB51 f51 => ?_⟩
      have ws := ws.take f51 hB51
      have FY := Fr.trans FY (Fr.mono f51 (by simp))
      have hps := ws.hps
      have hos := ws.hos
      have hx1 : sg[r1]? = some sg[r1] := List.getElem?_eq_getElem hr1
      have hx1m : sg[r1] ∈ sg := List.getElem_mem hr1
      generalize sg[r1] = x1 at hx1 hx1m
      clear f51 hB51
      refine iIxS (by omega) (atI_nat hx1) ?_
      walk_at "go"
      refine ⟨b, g, sg.length, rfl, ws.hb, by omega, by omega, fun r2 H52 hr2 hB52 f52 => ?_⟩
      have ws := ws.take f52 hB52
      have FY := Fr.trans FY (Fr.mono f52 (by simp))
      have hps := ws.hps
      have hos := ws.hos
      have hx2 : sg[r2]? = some sg[r2] := List.getElem?_eq_getElem hr2
      have hx2m : sg[r2] ∈ sg := List.getElem_mem hr2
      generalize sg[r2] = x2 at hx2 hx2m
      clear f52 hB52
      refine iIxS (by omega) (atI_nat hx2) ?_
      walk_at "go"
      show ForG (Itr 0 2) _ _ _ _ _
      refine for_R2 ?_
      walk_at "go"
      refine ⟨pg0, dx0, al, o0, q0, l, v, _, _, 200, rfl, ws.h0, ws.w0, ok0, by decide, ws.hal, by rw [hsg]; exact hx1m, by rw [hsg]; exact hx2m, Nat.lt_trans (hsc _ hx1m) (by decide), Nat.lt_trans (hsc _ hx2m) (by decide), fun H40 z0 hp40 hw40 okz0 f40 => ?_⟩
      have ws := ws.one0 f40 hp40 hw40
      have FY := Fr.trans FY (Fr.mono f40 (by simp))
      have hps := ws.hps
      have hos := ws.hos
      clear hp40 hw40 f40
      walk_at "go"
      refine ⟨pg1, dx1, al, o1, q1, l, v, _, _, 200, rfl, ws.h1, ws.w1, ok1, by decide, ws.hal, by rw [hsg]; exact hx1m, by rw [hsg]; exact hx2m, Nat.lt_trans (hsc _ hx1m) (by decide), Nat.lt_trans (hsc _ hx2m) (by decide), fun H41 z1 hp41 hw41 okz1 f41 => ?_⟩
      have ws := ws.one1 f41 hp41 hw41
      have FY := Fr.trans FY (Fr.mono f41 (by simp))
      have hps := ws.hps
      have hos := ws.hos
      clear hp41 hw41 f41
      walk_at "go"
      refine cSame ws.h0 ws.w0 okz0 ?_
      exact k _ (Fr.forget (L := []) FY fresh).same
end
end Vk

set_option Elab.async false
set_option linter.all false
set_option maxRecDepth 100000
set_option maxHeartbeats 1000000
namespace Vk
open PySem PySem.Spec PyProof.Rows L2
/-! the walk over a reading -/
open L2 in
local macro_rules | `(tactic| walk_at "lk") => `(tactic| first
  | assumption
  | exact upd_same
  | (refine upd_old (by assumption) ?_; walk_at "lk")
  | (refine upd_oth (by first | assumption | (apply Ne.symm; assumption)) ?_; walk_at "lk")
  | (refine Same.get (by assumption) ?_; walk_at "lk")
  | (refine Fr.get (by assumption) (by first | assumption | (simp only [List.mem_cons, List.not_mem_nil, or_false, not_or]; first | assumption | (refine ⟨?_, ?_⟩ <;> assumption) | (apply Ne.symm; assumption))) ?_; walk_at "lk"))
local macro_rules | `(tactic| walk_at "len") => `(tactic| first
  | (simp only [List.length_cons, List.length_nil, sizeLine_eq]; omega)
  | (simp only [S_len, sizeLine_eq]; omega)
  | (simp only [S_len, sizeLine_eq, List.length_take, List.length_drop, List.length_append, List.length_cons, List.length_nil]; omega))
local macro_rules | `(tactic| walk_at "num") => `(tactic| first | assumption | omega | (simp only [List.length_take, List.length_drop, List.length_append, List.length_cons, List.length_nil]; omega))
local macro_rules | `(tactic| walk_at "ix") => `(tactic| first | exact rfl | assumption | exact atI_nat (by assumption))
local macro_rules | `(tactic| walk_at "putq") => `(tactic| exact rfl)
local macro_rules | `(tactic| walk_at "sq") => `(tactic| first
  | exact .inr (by assumption)
  | exact .inl (by assumption)
  | exact .inl (SqL.of (by walk_at "lk"))
  | exact .inr (SqT.of (by walk_at "lk")))
local macro_rules | `(tactic| walk_at "mapq") => `(tactic| first
  | exact rfl
  | exact (rfl : _ = List.map (fun l => V.str (S l)) [_])
  | exact (rfl : _ = List.map (fun l => V.str (S l)) [_, _])
  | exact (rfl : _ = List.map (fun l => V.str (S l)) [_, _, _])
  | exact (rfl : _ = List.map (fun l => V.str (S l)) [_, _, _, _])
  | exact (rfl : _ = List.map (fun l => V.str (S l)) [_, _, _, _, _]))
local macro_rules | `(tactic| walk_at "setq") => `(tactic| ((try simp only [Int.reduceToNat, List.set_cons_succ, List.set_cons_zero]); exact rfl))
local macro_rules | `(tactic| walk_at "toN") => `(tactic| first | exact rfl | exact (Int.natCast_add _ _).symm | exact (Int.natCast_add _ 1).symm)
local macro_rules | `(tactic| walk_at "cond") => `(tactic| first | omega | (simp only [List.length_map]; omega) | (refine Or.inl ⟨?_, ?_⟩ <;> omega) | (refine Or.inr ⟨?_, ?_⟩ <;> omega) | (refine ⟨?_, ?_⟩ <;> omega))
local macro_rules | `(tactic| walk_at "side") => `(tactic| first
  | rfl
  | (walk_at "lk")
  | exact SqL.of (by walk_at "lk")
  | exact SqT.of (by walk_at "lk")
  | exact .inl (SqL.of (by walk_at "lk"))
  | exact .inr (SqT.of (by walk_at "lk"))
  | exact .inl ⟨rfl, _, SqL.of (by walk_at "lk")⟩
  | exact ⟨_, rfl⟩
  | exact ⟨_, SqL.of (by walk_at "lk")⟩
  | exact ⟨_, by assumption⟩
  | (walk_at "len")
  | omega)
local macro_rules | `(tactic| walk_at "go1") => `(tactic| first
  | (with_reducible refine iSeq ?_)
  | ((with_reducible apply iVar); exact rfl)
  | (with_reducible refine iC ?_)
  | (with_reducible refine iOp ?_)
  | (with_reducible refine iAsg ?_)
  | (with_reducible refine iName ?_)
  | (with_reducible refine iSub ?_)
  | (with_reducible refine iCons ?_)
  | (with_reducible refine iNil ?_)
  | (with_reducible refine iCB ?_)
  | (with_reducible refine iCall0 ?_)
  | (with_reducible refine iCall ?_)
  | (with_reducible refine iI0 ?_)
  | (with_reducible refine iU ?_)
  | (with_reducible refine iUn ?_)
  | (with_reducible refine iIfS ?_)
  | (with_reducible refine iB ?_)
  | (with_reducible refine iTest ?_)
  | (with_reducible refine iAnd ?_)
  | (with_reducible refine iOr ?_)
  | (with_reducible refine iNot ?_)
  | (with_reducible refine iAndV ?_)
  | (with_reducible refine iOrV ?_)
  | (with_reducible refine iNotV ?_)
  | (with_reducible refine iIfE ?_)
  | (with_reducible refine iRet ?_)
  | (with_reducible refine iRetN ?_)
  | (with_reducible refine iDrop ?_)
  | (with_reducible refine iNext ?_)
  | ((with_reducible apply iEq); exact rfl)
  | ((with_reducible apply iNe); exact rfl)
  | ((with_reducible apply iI); walk_at "cond")
  | (with_reducible refine iM1 ?_)
  | (with_reducible refine iBM ?_)
  | (with_reducible refine iSl ?_)
  | ((with_reducible apply iIxL); exact SqL.of (by walk_at "lk"); walk_at "ix")
  | ((with_reducible apply iIxT); exact SqT.of (by walk_at "lk"); walk_at "ix")
  | ((with_reducible apply iIxS); walk_at "num"; walk_at "ix")
  | ((with_reducible apply iSlTo); walk_at "num"; walk_at "toN")
  | ((with_reducible apply iSlFrom); walk_at "num"; walk_at "toN")
  | ((with_reducible apply iSlMid); walk_at "num"; walk_at "toN"; walk_at "toN")
  | ((with_reducible apply iSlS); walk_at "num")
  | ((with_reducible apply iAddS); walk_at "num")
  | ((with_reducible apply iLenS1); walk_at "num")
  | (with_reducible refine iInS ?_)
  | (with_reducible refine iNotInS ?_)
  | ((with_reducible apply iFindYes); assumption)
  | ((with_reducible apply iFindNo); assumption)
  | (with_reducible refine iFindS ?_)
  | (with_reducible refine iStartS ?_)
  | ((with_reducible apply iPartS); walk_at "num")
  | ((with_reducible apply iSetL); (walk_at "lk"); exact rfl; (walk_at "setq"))
  | (with_reducible refine iNoPart ?_)
  | (with_reducible refine iPart ?_)
  | (with_reducible refine iTup ?_)
  | (with_reducible refine iLst ?_)
  | (with_reducible refine isi_int_int ?_)
  | (with_reducible refine isi_int_bool ?_)
  | (with_reducible refine isi_int_str ?_)
  | (with_reducible refine isi_str_str ?_)
  | (with_reducible refine isi_str_int ?_)
  | (with_reducible refine isi_str_bool ?_)
  | (with_reducible refine isi_bl_bool ?_)
  | (with_reducible refine isi_bl_int ?_)
  | (with_reducible refine isi_bl_str ?_)
  | (with_reducible refine iFld ?_)
  | (with_reducible refine iSFld ?_)
  | (with_reducible refine iCon ?_)
  | (with_reducible refine iProp ?_)
  | (with_reducible refine iMeth0 ?_)
  | (with_reducible refine iMeth ?_)
  | (with_reducible refine iWT ?_)
  | (with_reducible refine iWF ?_)
  | ((with_reducible apply iInL); (walk_at "sq"); (walk_at "mapq"))
  | ((with_reducible apply iNInL); (walk_at "sq"); (walk_at "mapq"))
  | (with_reducible refine iLcL ?_)
  | (with_reducible refine iLcS ?_)
  | (with_reducible refine iLcR1 ?_)
  | (with_reducible refine iForL ?_)
  | (with_reducible refine iForS ?_)
  | (with_reducible refine iForR1 ?_)
  | (with_reducible refine iForR2 ?_)
  | (with_reducible refine iYes ?_)
  | ((with_reducible apply iSlL); (first | assumption | exact SqL.of (by walk_at "lk")))
  | ((with_reducible apply iCat); (walk_at "lk"); (walk_at "lk"); (walk_at "len"))
  | ((with_reducible apply iAppend); (walk_at "lk"); (walk_at "len"))
  | ((with_reducible apply iTruNil); exact SqL.of (by walk_at "lk"))
  | ((with_reducible apply iTruCons); exact SqL.of (by walk_at "lk"))
  | ((with_reducible apply iTruL); (first | assumption | exact SqL.of (by walk_at "lk")))
  | ((with_reducible apply iListT); (walk_at "num"))
  | (with_reducible refine iTT ?_)
  | (with_reducible refine iFF ?_)
  | (with_reducible refine iNTT ?_)
  | (with_reducible refine iNFF ?_)
  | ((with_reducible apply eSFld); (walk_at "lk"); assumption; assumption; (simp only [List.length_cons, List.length_nil]; decide); (walk_at "putq"))
  | (walk_at "proj")
  | (with_reducible apply Exists.intro)
  | ((with_reducible apply And.intro); exact rfl)
  | ((with_reducible apply And.intro); walk_at "side")
  | ((with_reducible apply Or.inl); (with_reducible apply Exists.intro); (with_reducible apply And.intro); exact rfl)
  | ((with_reducible apply Or.inr); (with_reducible apply Exists.intro); (with_reducible apply And.intro); exact rfl))
local macro_rules | `(tactic| walk_at "fr") => `(tactic| first
  | exact Fr.refl _ _
  | assumption
  | (refine Fr.trans ?_ Fr.in0; walk_at "fr")
  | (refine Fr.trans ?_ Fr.in1; walk_at "fr")
  | (refine Fr.trans ?_ Fr.in2; walk_at "fr")
  | (refine Fr.trans ?_ (Fr.upd_new (by assumption)); walk_at "fr")
  | (refine Fr.trans ?_ (Fr.of_same (by assumption)); walk_at "fr")
  | (refine Fr.trans ?_ (by assumption); walk_at "fr")
  | (refine Fr.trans ?_ (Fr.wk (by assumption)); walk_at "fr")
  | (refine Fr.trans ?_ (Fr.wk1 (by assumption)); walk_at "fr")
  | (refine Fr.trans ?_ (Fr.wk (Fr.wk (by assumption))); walk_at "fr"))
local macro_rules | `(tactic| walk_at "proj") => `(tactic| first
  | (with_reducible refine (show (Ends.mk _ _ _ _).nx _ _ from ?_); dsimp only)
  | (with_reducible refine (show (Ends.mk _ _ _ _).rt _ _ from ?_); dsimp only))
local macro_rules | `(tactic| walk_at "br0") => `(tactic| first
  | (with_reducible apply iBd)
  | (with_reducible apply iBnd)
  | (with_reducible apply iBb)
  | (with_reducible apply iBbn)
  | (with_reducible apply iWD)
  | (with_reducible apply iWDN))
local macro_rules | `(tactic| walk_at "dead") => `(tactic| first | (exfalso; omega) | contradiction)
local macro_rules | `(tactic| walk_at "br") => `(tactic| (walk_at "br0" <;> (intro hbr; (try simp only [V.str.injEq, V.int.injEq, V.bl.injEq, Vk.S_inj, reduceCtorEq, List.cons.injEq, and_true, not_true_eq_false, not_false_eq_true, decide_eq_true_eq, decide_eq_false_iff_not, Nat.reduceEqDiff, List.length_cons, List.length_nil, and_false, false_and, eq_self] at hbr); (try walk_at "dead"))))
local macro_rules | `(tactic| walk_at "new") => `(tactic| (refine fun (p : Addr) (hp : _ = none) => ?_))
local macro_rules | `(tactic| walk_at "go") => `(tactic| repeat' (first | walk_at "go1" | walk_at "br" | walk_at "new" | (refine fun (y z : V) => ?_)))
section
variable {P : Program} {w : World} {K : PySem.W.Frag} {mg : Str → Option Value} {base : Heap} {a : Ad} {d : Fd}
def spLaw (K : PySem.W.Frag) : Sp := fun vs H Q _ => ∃ (x : Addr) (ns : List Int), vs = [.ref x] ∧ SqL K H x (ns.map V.int) ∧ ns.length ≤ 63 ∧ ∀ H', Q (.bl true) H'
theorem SqL.upS {K : PySem.W.Frag} {H H' : Hp} {x : Addr} {vs : List V} (h : SqL K H x vs) (s : Same H H') : SqL K H' x vs := SqL.same h s
theorem scLaw : FnScope ["_law_script", "_law_k"] ["_law_script"] (defScope sLaw) := ⟨rfl, rfl, rfl, by decide +kernel, rfl, by decide +kernel, by decide +kernel⟩
theorem ok_law (T : Fns K mg a d) (GWorld : FnOk P w K mg base CX0 7 a.aWorld d.dWorld ["_law_script", "_law_k"] (spWorld K)) : FnOk P w K mg base CX0 8 a.aLaw d.dLaw ["_law_script"] (spLaw K) := by
  have GWhole : FnOk P w K mg base CX0 1 a.aWhole d.dWhole ["_law_told", "_law_due"] spWhole := ok_whole T
  refine T.FLaw.ok scLaw (fun vs H Q E h => ?_) (fun cdv A0 outer s H vs Q E hr h => ?_)
  · obtain ⟨x, ns, rfl, _⟩ := h
    rfl
  · obtain ⟨x, ns, rfl, hS, hl, k⟩ := h
    refine ⟨_, ((pss_cons (ps_if (pt_not (pt_val (pe_call GWhole (hr.mono (by decide)) (by rfl) T.gWhole T.FWhole.kp T.bWhole .nil pass0 (pa_cons (pe_glob (v := .int 2) (by rfl) T.gHold ⟨_, rfl⟩) (pa_cons pe_int pa_nil))))) (pss_one (ps_ret pe_bl)) pss_nil)
      (pss_cons (ps_for PassesOwn.never rfl (pi_range1 (by rfl) T.z_range (pa_cons (pe_callB (call_min2 rfl) (by rfl) T.z_min (by decide +kernel) (pa_cons pe_int (pa_cons (pe_callB (call_max2 rfl) (by rfl) T.z_max (by decide +kernel) (pa_cons pe_int (pa_cons (pe_callB call_len_seq (by rfl) T.z_len (by decide +kernel) (pa_cons (pv 0) pa_nil)) pa_nil))) pa_nil))) pa_nil)) (pg_name (i := 1) scLaw.nd rfl (Or.inl rfl)) (pss_one (ps_if (pt_not (pt_val (pe_call GWorld (hr.mono (by decide)) (by rfl) T.gWorld T.FWorld.kp T.bWorld .nil pass0 (pa_cons (pv 0) (pa_cons (pv 1) pa_nil))))) (pss_one (ps_ret pe_bl)) pss_nil)))
      (pss_one (ps_ret pe_bl))))), ?_⟩
    walk_at "go"
    refine cWhole ?_
    rw [show decide ((2 : Int) = 2) = true by decide]
    refine ⟨_, rfl, ?_⟩
    rw [if_neg (by decide)]
    show tSeq _ _ _ _ _
    refine ⟨_, rfl, x, ns.map V.int, rfl, .inl hS, _, _, rfl, _, _, rfl, ?_⟩
    generalize hj : (if ((ns.map V.int).length : Int) > 1 then ((ns.map V.int).length : Int) else 1) = j
    obtain ⟨m, hm, hm3⟩ : ∃ m : Nat, (if j < 3 then j else 3) = (m : Int) ∧ m ≤ 3 := by
      refine ⟨(if j < 3 then j else 3).toNat, ?_, ?_⟩
      · split at hj <;> split <;> omega
      · split at hj <;> split <;> omega
    rw [hm]
    refine ⟨_, rfl, by omega, by omega, ?_⟩
    have go := for_R (D := { nx := tRet (tC (V.bl true)) { nx := fun x H' => Q V.non H', rt := Q }, rt := Q, bk := fun _ _ => False, ct := fun _ _ => False }) (σ := L2.start ["_law_script", "_law_k"] [V.ref x]) (H := H) (g := gName 1)
      (tb := tIfS (tNot (tB (tCall (spWorld K) [] E0 (tCons (tVar 0) (tCons (tVar 1) tNil))))) (tRet (tC (V.bl false))) tNext) (lo := 0) (n := m)
      (fun i σ H' => ∃ (v1 : Option V), σ = [some (.ref x), v1] ∧ Same H H') ⟨none, rfl, Same.refl _⟩ ?_ ?_
    · exact go
    · rintro i σ H1 hi ⟨v1, rfl, s1⟩
      walk_at "go"
      refine ⟨x, ns, i, by rw [Int.zero_add], SqL.upS hS s1, hl, fun H2 s2 => ?_⟩
      walk_at "go"
      exact Same.trans s1 s2
    · rintro σ H1 ⟨v1, rfl, s1⟩
      walk_at "go"
      exact k H1
end
end Vk

set_option Elab.async false
set_option linter.all false
set_option maxRecDepth 100000
set_option maxHeartbeats 8000000
namespace Vk
open PySem PySem.Spec PyProof.Rows L2
theorem str_rel {s : String} {t : Tok} (n : Nat) (h : S [n] = PySem.Str.ofString s) : RelV (.str (S [n])) (.str (PySem.Str.ofString s) t) := ⟨t, by rw [h]⟩
theorem all_mk {l : PySem.W.OpenLaw} {w : World} {K : PySem.W.Frag} {h : Heap} {mg : Str → Option Value} {fa : Addr} (X : K.In h) (G : h.Ns mainGlobals mg) (hfa : mg "law" = some (.ref fa))
    {fDiff fBox fTake fWhole fLetters fVowels fSize fText fPass fInsert fPress fSame fWorked fPIsKey fKey fRestored fChain fWorld fLaw C CP fGoOn fPutIn fUntil fWillWork fCarry fHeld fPress2 fIsText fCheck fAlEq KH TDA fA TDPI fPI KP KS TE BA fBA ccBA cdaBA BK fBK ccBK cdaBK : Addr} {odDiff anDiff odBox anBox odTake anTake odWhole anWhole odLetters anLetters odVowels anVowels odSize anSize odText anText odPass anPass odInsert anInsert odPress anPress odSame anSame odWorked anWorked odPIsKey anPIsKey odKey anKey odRestored anRestored odChain anChain odWorld anWorld odLaw anLaw odGoOn anGoOn odPutIn anPutIn odUntil anUntil odWillWork anWillWork odCarry anCarry odHeld anHeld odPress2 anPress2 odIsText anIsText odCheck anCheck odAlEq anAlEq odA anA odPI anPI odBA anBA ddccBA ddcdBA odBK anBK ddccBK ddcdBK : Option Addr} {slDiff slBox slTake slWhole slLetters slVowels slSize slText slPass slInsert slPress slSame slWorked slPIsKey slKey slRestored slChain slWorld slLaw slGoOn slPutIn slUntil slWillWork slCarry slHeld slPress2 slIsText slCheck slAlEq slA slPI slBA slccBA slcdBA slBK slccBK slcdBK : Array (Option Value)} {ocDiff kVDiff dcDiff pmDiff cdDiff ctDiff ocBox kVBox dcBox pmBox cdBox ctBox ocTake kVTake dcTake pmTake cdTake ctTake ocWhole kVWhole dcWhole pmWhole cdWhole ctWhole ocLetters kVLetters dcLetters pmLetters cdLetters ctLetters ocVowels kVVowels dcVowels pmVowels cdVowels ctVowels ocSize kVSize dcSize pmSize cdSize ctSize ocText kVText dcText pmText cdText ctText ocPass kVPass dcPass pmPass cdPass ctPass ocInsert kVInsert dcInsert pmInsert cdInsert ctInsert ocPress kVPress dcPress pmPress cdPress ctPress ocSame kVSame dcSame pmSame cdSame ctSame ocWorked kVWorked dcWorked pmWorked cdWorked ctWorked ocPIsKey kVPIsKey dcPIsKey pmPIsKey cdPIsKey ctPIsKey ocKey kVKey dcKey pmKey cdKey ctKey ocRestored kVRestored dcRestored pmRestored cdRestored ctRestored ocChain kVChain dcChain pmChain cdChain ctChain ocWorld kVWorld dcWorld pmWorld cdWorld ctWorld ocLaw kVLaw dcLaw pmLaw cdLaw ctLaw ocGoOn kVGoOn dcGoOn pmGoOn cdGoOn ctGoOn ocPutIn kVPutIn dcPutIn pmPutIn cdPutIn ctPutIn ocUntil kVUntil dcUntil pmUntil cdUntil ctUntil ocWillWork kVWillWork dcWillWork pmWillWork cdWillWork ctWillWork ocCarry kVCarry dcCarry pmCarry cdCarry ctCarry ocHeld kVHeld dcHeld pmHeld cdHeld ctHeld ocPress2 kVPress2 dcPress2 pmPress2 cdPress2 ctPress2 ocIsText kVIsText dcIsText pmIsText cdIsText ctIsText ocCheck kVCheck dcCheck pmCheck cdCheck ctCheck ocAlEq kVAlEq dcAlEq pmAlEq cdAlEq ctAlEq ocA kVA dcA pmA cdA ctA ocPI kVPI dcPI pmPI cdPI ctPI ocBA kVBA dcBA pmBA ctBA clccBA clcdBA ocBK kVBK dcBK pmBK ctBK clccBK clcdBK : Value} {tM tJ tl tj2 tho tp0 tp1 tp2 tp3 tp4 tp5 tp6 tp7 ts0 ts1 ts2 : Tok} {restH : List Value} {nDA : Nat} {odDA : Option Addr} {slDA : Array (Option Value)} {ocDA : Value} {tDA : Tok} {nDPI : Nat} {odDPI : Option Addr} {slDPI : Array (Option Value)} {ocDPI : Value} {tDPI : Tok} {nKP : Nat} {slKP : Array (Option Value)} {nKS : Nat} {slKS : Array (Option Value)} {vsCBA : Array Value} {flBA : Str} {tfBA : Tok} {vsCBK : Array Value} {flBK : Str} {tfBK : Tok}
    {nmTE qTE : Str} {NTE : Addr} {bsTE : List Value} {snTE : List Str} {subTE : List Value} {abTE : Bool} {colTE : Option Bool} {ddTE : Option Addr} {m0TE m1TE m2TE m3TE m5TE : Option Value}
    {nmBA qBA : Str} {NBA : Addr} {bsBA : List Value} {snBA : List Str} {subBA : List Value} {abBA : Bool} {colBA : Option Bool} {ddBA : Option Addr} {m0BA m1BA m2BA m3BA m5BA : Option Value}
    {nmBK qBK : Str} {NBK : Addr} {bsBK : List Value} {snBK : List Str} {subBK : List Value} {abBK : Bool} {colBK : Option Bool} {ddBK : Option Addr} {m0BK m1BK m2BK m3BK m5BK : Option Value}
    (lDiff : K.lookup fDiff = some ⟨ocDiff, odDiff, .func (PySem.W.fnOf "differ_within" "differ_within" (defArgs sDiff) (defBody sDiff) (defScope sDiff) .none kVDiff dcDiff pmDiff anDiff cdDiff ctDiff), slDiff⟩)
    (cDiff : PySem.W.codeIn K cdDiff "differ_within" = true)
    (aDiff : PySem.W.nsIn K mainGlobals "differ_within" = some (some (.ref fDiff)))
    (kDiff : PySem.W.keepIn K (.ref fDiff) = true)
    (lBox : K.lookup fBox = some ⟨ocBox, odBox, .func (PySem.W.fnOf "_law_box" "_law_box" (defArgs sBox) (defBody sBox) (defScope sBox) .none kVBox dcBox pmBox anBox cdBox ctBox), slBox⟩)
    (cBox : PySem.W.codeIn K cdBox "_law_box" = true)
    (aBox : PySem.W.nsIn K mainGlobals "_law_box" = some (some (.ref fBox)))
    (kBox : PySem.W.keepIn K (.ref fBox) = true)
    (lTake : K.lookup fTake = some ⟨ocTake, odTake, .func (PySem.W.fnOf "_law_take" "_law_take" (defArgs sTake) (defBody sTake) (defScope sTake) .none kVTake dcTake pmTake anTake cdTake ctTake), slTake⟩)
    (cTake : PySem.W.codeIn K cdTake "_law_take" = true)
    (aTake : PySem.W.nsIn K mainGlobals "_law_take" = some (some (.ref fTake)))
    (kTake : PySem.W.keepIn K (.ref fTake) = true)
    (lWhole : K.lookup fWhole = some ⟨ocWhole, odWhole, .func (PySem.W.fnOf "_law_whole" "_law_whole" (defArgs sWhole) (defBody sWhole) (defScope sWhole) .none kVWhole dcWhole pmWhole anWhole cdWhole ctWhole), slWhole⟩)
    (cWhole : PySem.W.codeIn K cdWhole "_law_whole" = true)
    (aWhole : PySem.W.nsIn K mainGlobals "_law_whole" = some (some (.ref fWhole)))
    (kWhole : PySem.W.keepIn K (.ref fWhole) = true)
    (lLetters : K.lookup fLetters = some ⟨ocLetters, odLetters, .func (PySem.W.fnOf "_law_letters" "_law_letters" (defArgs sLetters) (defBody sLetters) (defScope sLetters) .none kVLetters dcLetters pmLetters anLetters cdLetters ctLetters), slLetters⟩)
    (cLetters : PySem.W.codeIn K cdLetters "_law_letters" = true)
    (aLetters : PySem.W.nsIn K mainGlobals "_law_letters" = some (some (.ref fLetters)))
    (kLetters : PySem.W.keepIn K (.ref fLetters) = true)
    (lVowels : K.lookup fVowels = some ⟨ocVowels, odVowels, .func (PySem.W.fnOf "_law_vowels" "_law_vowels" (defArgs sVowels) (defBody sVowels) (defScope sVowels) .none kVVowels dcVowels pmVowels anVowels cdVowels ctVowels), slVowels⟩)
    (cVowels : PySem.W.codeIn K cdVowels "_law_vowels" = true)
    (aVowels : PySem.W.nsIn K mainGlobals "_law_vowels" = some (some (.ref fVowels)))
    (kVowels : PySem.W.keepIn K (.ref fVowels) = true)
    (lSize : K.lookup fSize = some ⟨ocSize, odSize, .func (PySem.W.fnOf "_law_size" "_law_size" (defArgs sSize) (defBody sSize) (defScope sSize) .none kVSize dcSize pmSize anSize cdSize ctSize), slSize⟩)
    (cSize : PySem.W.codeIn K cdSize "_law_size" = true)
    (aSize : PySem.W.nsIn K mainGlobals "_law_size" = some (some (.ref fSize)))
    (kSize : PySem.W.keepIn K (.ref fSize) = true)
    (lText : K.lookup fText = some ⟨ocText, odText, .func (PySem.W.fnOf "_law_text" "_law_text" (defArgs sText) (defBody sText) (defScope sText) .none kVText dcText pmText anText cdText ctText), slText⟩)
    (cText : PySem.W.codeIn K cdText "_law_text" = true)
    (aText : PySem.W.nsIn K mainGlobals "_law_text" = some (some (.ref fText)))
    (kText : PySem.W.keepIn K (.ref fText) = true)
    (lPass : K.lookup fPass = some ⟨ocPass, odPass, .func (PySem.W.fnOf "_law_pass" "_law_pass" (defArgs sPass) (defBody sPass) (defScope sPass) .none kVPass dcPass pmPass anPass cdPass ctPass), slPass⟩)
    (cPass : PySem.W.codeIn K cdPass "_law_pass" = true)
    (aPass : PySem.W.nsIn K mainGlobals "_law_pass" = some (some (.ref fPass)))
    (kPass : PySem.W.keepIn K (.ref fPass) = true)
    (lInsert : K.lookup fInsert = some ⟨ocInsert, odInsert, .func (PySem.W.fnOf "_law_insert" "_law_insert" (defArgs sInsert) (defBody sInsert) (defScope sInsert) .none kVInsert dcInsert pmInsert anInsert cdInsert ctInsert), slInsert⟩)
    (cInsert : PySem.W.codeIn K cdInsert "_law_insert" = true)
    (aInsert : PySem.W.nsIn K mainGlobals "_law_insert" = some (some (.ref fInsert)))
    (kInsert : PySem.W.keepIn K (.ref fInsert) = true)
    (lPress : K.lookup fPress = some ⟨ocPress, odPress, .func (PySem.W.fnOf "_law_press" "_law_press" (defArgs sPress) (defBody sPress) (defScope sPress) .none kVPress dcPress pmPress anPress cdPress ctPress), slPress⟩)
    (cPress : PySem.W.codeIn K cdPress "_law_press" = true)
    (aPress : PySem.W.nsIn K mainGlobals "_law_press" = some (some (.ref fPress)))
    (kPress : PySem.W.keepIn K (.ref fPress) = true)
    (lSame : K.lookup fSame = some ⟨ocSame, odSame, .func (PySem.W.fnOf "_law_same" "_law_same" (defArgs sSame) (defBody sSame) (defScope sSame) .none kVSame dcSame pmSame anSame cdSame ctSame), slSame⟩)
    (cSame : PySem.W.codeIn K cdSame "_law_same" = true)
    (aSame : PySem.W.nsIn K mainGlobals "_law_same" = some (some (.ref fSame)))
    (kSame : PySem.W.keepIn K (.ref fSame) = true)
    (lWorked : K.lookup fWorked = some ⟨ocWorked, odWorked, .func (PySem.W.fnOf "_law_worked" "_law_worked" (defArgs sWorked) (defBody sWorked) (defScope sWorked) .none kVWorked dcWorked pmWorked anWorked cdWorked ctWorked), slWorked⟩)
    (cWorked : PySem.W.codeIn K cdWorked "_law_worked" = true)
    (aWorked : PySem.W.nsIn K mainGlobals "_law_worked" = some (some (.ref fWorked)))
    (kWorked : PySem.W.keepIn K (.ref fWorked) = true)
    (lPIsKey : K.lookup fPIsKey = some ⟨ocPIsKey, odPIsKey, .func (PySem.W.fnOf "is_key" "is_key" (defArgs sPIsKey) (defBody sPIsKey) (defScope sPIsKey) .none kVPIsKey dcPIsKey pmPIsKey anPIsKey cdPIsKey ctPIsKey), slPIsKey⟩)
    (cPIsKey : PySem.W.codeIn K cdPIsKey "is_key" = true)
    (aPIsKey : PySem.W.nsIn K mainGlobals "is_key" = some (some (.ref fPIsKey)))
    (kPIsKey : PySem.W.keepIn K (.ref fPIsKey) = true)
    (lKey : K.lookup fKey = some ⟨ocKey, odKey, .func (PySem.W.fnOf "_law_key" "_law_key" (defArgs sKey) (defBody sKey) (defScope sKey) .none kVKey dcKey pmKey anKey cdKey ctKey), slKey⟩)
    (cKey : PySem.W.codeIn K cdKey "_law_key" = true)
    (aKey : PySem.W.nsIn K mainGlobals "_law_key" = some (some (.ref fKey)))
    (kKey : PySem.W.keepIn K (.ref fKey) = true)
    (lRestored : K.lookup fRestored = some ⟨ocRestored, odRestored, .func (PySem.W.fnOf "_law_restored" "_law_restored" (defArgs sRestored) (defBody sRestored) (defScope sRestored) .none kVRestored dcRestored pmRestored anRestored cdRestored ctRestored), slRestored⟩)
    (cRestored : PySem.W.codeIn K cdRestored "_law_restored" = true)
    (aRestored : PySem.W.nsIn K mainGlobals "_law_restored" = some (some (.ref fRestored)))
    (kRestored : PySem.W.keepIn K (.ref fRestored) = true)
    (lChain : K.lookup fChain = some ⟨ocChain, odChain, .func (PySem.W.fnOf "_law_chain" "_law_chain" (defArgs sChain) (defBody sChain) (defScope sChain) .none kVChain dcChain pmChain anChain cdChain ctChain), slChain⟩)
    (cChain : PySem.W.codeIn K cdChain "_law_chain" = true)
    (aChain : PySem.W.nsIn K mainGlobals "_law_chain" = some (some (.ref fChain)))
    (kChain : PySem.W.keepIn K (.ref fChain) = true)
    (lWorld : K.lookup fWorld = some ⟨ocWorld, odWorld, .func (PySem.W.fnOf "_law_world" "_law_world" (defArgs sWorld) (defBody sWorld) (defScope sWorld) .none kVWorld dcWorld pmWorld anWorld cdWorld ctWorld), slWorld⟩)
    (cWorld : PySem.W.codeIn K cdWorld "_law_world" = true)
    (aWorld : PySem.W.nsIn K mainGlobals "_law_world" = some (some (.ref fWorld)))
    (kWorld : PySem.W.keepIn K (.ref fWorld) = true)
    (lLaw : K.lookup fLaw = some ⟨ocLaw, odLaw, .func (PySem.W.fnOf "law" "law" (defArgs sLaw) (defBody sLaw) (defScope sLaw) .none kVLaw dcLaw pmLaw anLaw cdLaw ctLaw), slLaw⟩)
    (cLaw : PySem.W.codeIn K cdLaw "law" = true)
    (aLaw : PySem.W.nsIn K mainGlobals "law" = some (some (.ref fLaw)))
    (kLaw : PySem.W.keepIn K (.ref fLaw) = true)
    (z_len : PySem.W.nsIn K mainGlobals "len" = some none)
    (z_set : PySem.W.nsIn K mainGlobals "set" = some none)
    (z_all : PySem.W.nsIn K mainGlobals "all" = some none)
    (z_abs : PySem.W.nsIn K mainGlobals "abs" = some none)
    (z_int : PySem.W.nsIn K mainGlobals "int" = some none)
    (z_range : PySem.W.nsIn K mainGlobals "range" = some none)
    (z_sorted : PySem.W.nsIn K mainGlobals "sorted" = some none)
    (z_isinstance : PySem.W.nsIn K mainGlobals "isinstance" = some none)
    (z_str : PySem.W.nsIn K mainGlobals "str" = some none)
    (z_bool : PySem.W.nsIn K mainGlobals "bool" = some none)
    (z_list : PySem.W.nsIn K mainGlobals "list" = some none)
    (z_tuple : PySem.W.nsIn K mainGlobals "tuple" = some none)
    (z_any : PySem.W.nsIn K mainGlobals "any" = some none)
    (z_enumerate : PySem.W.nsIn K mainGlobals "enumerate" = some none)
    (z_min : PySem.W.nsIn K mainGlobals "min" = some none)
    (z_max : PySem.W.nsIn K mainGlobals "max" = some none)
    (z_ValueError : PySem.W.nsIn K mainGlobals "ValueError" = some none)
    (aC : PySem.W.nsIn K mainGlobals "Alphabet" = some (some (.ref C)))
    (pgC : PySem.W.plainGet K C Str.empty = true)
    (hdC : PySem.W.hasDictIn K C = true)
    (poC : PySem.W.plainOver K C = true)
    (saC : PySem.W.findIn K (.ref C) "__setattr__" = some (some (.builtin "object.__setattr__")))
    (mkC : PySem.W.makesIn K C = true)
    (kC : PySem.W.keepIn K (.ref C) = true)
    (nC_letters : PySem.W.findIn K (.ref C) "letters" = some none)
    (nC_vowels : PySem.W.findIn K (.ref C) "vowels" = some none)
    (nC_consonants : PySem.W.findIn K (.ref C) "consonants" = some none)
    (nC_signs : PySem.W.findIn K (.ref C) "signs" = some none)
    (ig : PySem.W.specialIn K (.builtin "object.__class__") "__get__" = some (some (.builtin "getset_descriptor.__get__")))
    (it : PySem.W.takesIn K (.builtin "object.__class__") = some true)
    (icC : PySem.W.findIn K (.ref C) "__class__" = some (some (.builtin "object.__class__")))
    (imC : PySem.W.mroIn K C (.type "object") = some true)
    (rdC : PySem.W.readsIn K C (.type "type") = true)
    (gaC : PySem.W.specialIn K (.ref C) "__getattribute__" = some (some (.builtin "type.__getattribute__")))
    (vM : PySem.W.findCls K (.ref C) (.type "type") "MOST" = some (.val (.int 4 tM)))
    (vJ : PySem.W.findCls K (.ref C) (.type "type") "JOINT" = some (.val (.str "-" tJ)))
    (aJ : PySem.W.findIn K (.ref C) "JOINT" = some (some (.str "-" tj2)))
    (gJ : PySem.W.specialIn K (.str "-" tj2) "__get__" = some none)
    (aSL : PySem.W.nsIn K mainGlobals "SMALL_LETTERS" = some (some (.str "abcdefghijklmnopqrstuvwxyz" tl)))
    (nE : PySem.W.notFirst K C (.ref C) = true)
    (aCP : PySem.W.nsIn K mainGlobals "Page" = some (some (.ref CP)))
    (pgCP : PySem.W.plainGet K CP Str.empty = true)
    (hdCP : PySem.W.hasDictIn K CP = true)
    (poCP : PySem.W.plainOver K CP = true)
    (saCP : PySem.W.findIn K (.ref CP) "__setattr__" = some (some (.builtin "object.__setattr__")))
    (mkCP : PySem.W.makesIn K CP = true)
    (kCP : PySem.W.keepIn K (.ref CP) = true)
    (nCP_alphabet : PySem.W.findIn K (.ref CP) "alphabet" = some none)
    (nCP_text : PySem.W.findIn K (.ref CP) "text" = some none)
    (nCP_caret : PySem.W.findIn K (.ref CP) "caret" = some none)
    (nCP_mark : PySem.W.findIn K (.ref CP) "mark" = some none)
    (nCP_kept : PySem.W.findIn K (.ref CP) "kept" = some none)
    (lGoOn : K.lookup fGoOn = some ⟨ocGoOn, odGoOn, .func (PySem.W.fnOf "go_on" "Page.go_on" (defArgs sGoOn) (defBody sGoOn) (defScope sGoOn) .none kVGoOn dcGoOn pmGoOn anGoOn cdGoOn ctGoOn), slGoOn⟩)
    (cGoOn : PySem.W.codeIn K cdGoOn "Page.go_on" = true)
    (aGoOn : PySem.W.findIn K (.ref CP) "go_on" = some (some (.ref fGoOn)))
    (kGoOn : PySem.W.keepIn K (.ref fGoOn) = true)
    (iGoOn : PySem.W.isFn K (.ref fGoOn) = true)
    (lPutIn : K.lookup fPutIn = some ⟨ocPutIn, odPutIn, .func (PySem.W.fnOf "put_in" "Page.put_in" (defArgs sPutIn) (defBody sPutIn) (defScope sPutIn) .none kVPutIn dcPutIn pmPutIn anPutIn cdPutIn ctPutIn), slPutIn⟩)
    (cPutIn : PySem.W.codeIn K cdPutIn "Page.put_in" = true)
    (aPutIn : PySem.W.findIn K (.ref CP) "put_in" = some (some (.ref fPutIn)))
    (kPutIn : PySem.W.keepIn K (.ref fPutIn) = true)
    (iPutIn : PySem.W.isFn K (.ref fPutIn) = true)
    (lUntil : K.lookup fUntil = some ⟨ocUntil, odUntil, .func (PySem.W.fnOf "pass_until" "Page.pass_until" (defArgs sUntil) (defBody sUntil) (defScope sUntil) .none kVUntil dcUntil pmUntil anUntil cdUntil ctUntil), slUntil⟩)
    (cUntil : PySem.W.codeIn K cdUntil "Page.pass_until" = true)
    (aUntil : PySem.W.findIn K (.ref CP) "pass_until" = some (some (.ref fUntil)))
    (kUntil : PySem.W.keepIn K (.ref fUntil) = true)
    (iUntil : PySem.W.isFn K (.ref fUntil) = true)
    (lWillWork : K.lookup fWillWork = some ⟨ocWillWork, odWillWork, .func (PySem.W.fnOf "will_work" "Page.will_work" (defArgs sWillWork) (defBody sWillWork) (defScope sWillWork) .none kVWillWork dcWillWork pmWillWork anWillWork cdWillWork ctWillWork), slWillWork⟩)
    (cWillWork : PySem.W.codeIn K cdWillWork "Page.will_work" = true)
    (aWillWork : PySem.W.findIn K (.ref CP) "will_work" = some (some (.ref fWillWork)))
    (kWillWork : PySem.W.keepIn K (.ref fWillWork) = true)
    (iWillWork : PySem.W.isFn K (.ref fWillWork) = true)
    (lCarry : K.lookup fCarry = some ⟨ocCarry, odCarry, .func (PySem.W.fnOf "carry_out" "Page.carry_out" (defArgs sCarry) (defBody sCarry) (defScope sCarry) .none kVCarry dcCarry pmCarry anCarry cdCarry ctCarry), slCarry⟩)
    (cCarry : PySem.W.codeIn K cdCarry "Page.carry_out" = true)
    (aCarry : PySem.W.findIn K (.ref CP) "carry_out" = some (some (.ref fCarry)))
    (kCarry : PySem.W.keepIn K (.ref fCarry) = true)
    (iCarry : PySem.W.isFn K (.ref fCarry) = true)
    (lHeld : K.lookup fHeld = some ⟨ocHeld, odHeld, .func (PySem.W.fnOf "held" "Page.held" (defArgs sHeld) (defBody sHeld) (defScope sHeld) .none kVHeld dcHeld pmHeld anHeld cdHeld ctHeld), slHeld⟩)
    (cHeld : PySem.W.codeIn K cdHeld "Page.held" = true)
    (kHeld : PySem.W.keepIn K (.ref fHeld) = true)
    (lPress2 : K.lookup fPress2 = some ⟨ocPress2, odPress2, .func (PySem.W.fnOf "press" "Page.press" (defArgs sPress2) (defBody sPress2) (defScope sPress2) .none kVPress2 dcPress2 pmPress2 anPress2 cdPress2 ctPress2), slPress2⟩)
    (cPress2 : PySem.W.codeIn K cdPress2 "Page.press" = true)
    (aPress2 : PySem.W.findIn K (.ref CP) "press" = some (some (.ref fPress2)))
    (kPress2 : PySem.W.keepIn K (.ref fPress2) = true)
    (iPress2 : PySem.W.isFn K (.ref fPress2) = true)
    (lIsText : K.lookup fIsText = some ⟨ocIsText, odIsText, .func (PySem.W.fnOf "is_text" "Alphabet.is_text" (defArgs sIsText) (defBody sIsText) (defScope sIsText) .none kVIsText dcIsText pmIsText anIsText cdIsText ctIsText), slIsText⟩)
    (cIsText : PySem.W.codeIn K cdIsText "Alphabet.is_text" = true)
    (aIsText : PySem.W.findIn K (.ref C) "is_text" = some (some (.ref fIsText)))
    (kIsText : PySem.W.keepIn K (.ref fIsText) = true)
    (iIsText : PySem.W.isFn K (.ref fIsText) = true)
    (lCheck : K.lookup fCheck = some ⟨ocCheck, odCheck, .func (PySem.W.fnOf "check" "Alphabet.check" (defArgs sCheck) (defBody sCheck) (defScope sCheck) .none kVCheck dcCheck pmCheck anCheck cdCheck ctCheck), slCheck⟩)
    (cCheck : PySem.W.codeIn K cdCheck "Alphabet.check" = true)
    (aCheck : PySem.W.findIn K (.ref C) "check" = some (some (.ref fCheck)))
    (kCheck : PySem.W.keepIn K (.ref fCheck) = true)
    (iCheck : PySem.W.isFn K (.ref fCheck) = true)
    (lAlEq : K.lookup fAlEq = some ⟨ocAlEq, odAlEq, .func (PySem.W.fnOf "__eq__" "Alphabet.__eq__" (defArgs sAlEq) (defBody sAlEq) (defScope sAlEq) .none kVAlEq dcAlEq pmAlEq anAlEq cdAlEq ctAlEq), slAlEq⟩)
    (cAlEq : PySem.W.codeIn K cdAlEq "Alphabet.__eq__" = true)
    (aAlEq : PySem.W.findIn K (.ref C) "__eq__" = some (some (.ref fAlEq)))
    (kAlEq : PySem.W.keepIn K (.ref fAlEq) = true)
    (iAlEq : PySem.W.isFn K (.ref fAlEq) = true)
    (aHeld : PySem.W.findIn K (.ref CP) "held" = some (some (.ref KH)))
    (gHeld : PySem.W.specialIn K (.ref KH) "__get__" = some (some (.builtin "property.__get__")))
    (tHeld : PySem.W.takesIn K (.ref KH) = some true)
    (rHeld : PySem.W.recIn K KH "property" = some (.ref fHeld :: restH))
    (lA : K.lookup fA = some ⟨ocA, odA, .func (PySem.W.fnOf "__init__" "Alphabet.__init__" (defArgs sAI) (defBody sAI) (defScope sAI) (.ref TDA) kVA dcA pmA anA cdA ctA), slA⟩)
    (cA : PySem.W.codeIn K cdA "Alphabet.__init__" = true)
    (aA : PySem.W.findIn K (.ref C) "__init__" = some (some (.ref fA)))
    (lDA : K.lookup TDA = some ⟨ocDA, odDA, .seq [Value.str "" tDA].toArray nDA, slDA⟩)
    (kA : PySem.W.keepIn K (.ref fA) = true)
    (iA : PySem.W.isFn K (.ref fA) = true)
    (lPI : K.lookup fPI = some ⟨ocPI, odPI, .func (PySem.W.fnOf "__init__" "Page.__init__" (defArgs sPageInit) (defBody sPageInit) (defScope sPageInit) (.ref TDPI) kVPI dcPI pmPI anPI cdPI ctPI), slPI⟩)
    (cPI : PySem.W.codeIn K cdPI "Page.__init__" = true)
    (aPI : PySem.W.findIn K (.ref CP) "__init__" = some (some (.ref fPI)))
    (lDPI : K.lookup TDPI = some ⟨ocDPI, odDPI, .seq [Value.str "" tDPI].toArray nDPI, slDPI⟩)
    (kPI : PySem.W.keepIn K (.ref fPI) = true)
    (iPI : PySem.W.isFn K (.ref fPI) = true)
    (aHold : PySem.W.nsIn K mainGlobals "HOLD" = some (some (.int 2 tho)))
    (aKP : PySem.W.nsIn K mainGlobals "PLAIN_KEYS" = some (some (.ref KP)))
    (lKP : K.lookup KP = some ⟨.type "tuple", none, .seq [Value.str ">" tp0, Value.str "x" tp1, Value.str "w" tp2, Value.str "^" tp3, Value.str "m" tp4, Value.str "k" tp5, Value.str "c" tp6, Value.str "p" tp7].toArray nKP, slKP⟩)
    (aKS : PySem.W.nsIn K mainGlobals "SIGN_KEYS" = some (some (.ref KS)))
    (lKS : K.lookup KS = some ⟨.type "tuple", none, .seq [Value.str "'" ts0, Value.str "=" ts1, Value.str "/" ts2].toArray nKS, slKS⟩)
    (xTE : K.lookup TE = some (excClassObj nmTE qTE TE NTE bsTE [.type "ValueError", .type "Exception", .type "BaseException", .type "object"] true snTE subTE abTE colTE ddTE m0TE m1TE m2TE m3TE m5TE "ValueError.__new__"))
    (aTE : PySem.W.nsIn K mainGlobals "TaleError" = some (some (.ref TE)))
    (eTE : PySem.W.subIn K (.ref TE) (.type "BaseException") = some true)
    (tTE : PySem.W.typeIn K (.ref TE) = some (.type "type"))
    (hTE : PySem.W.hasDictIn K TE = true)
    (iTE : PySem.W.findIn K (.ref TE) "__init__" = some (some (.builtin "ValueError.__init__")))
    (noT : (l.prog.main.scope.names.lookup ("super" : Str)).isSome = false)
    (noM : PySem.W.nsIn K mainGlobals "super" = some none)
    (anyS : PySem.W.nsIn K cStatics "thirdparty.any" = some none)
    (xBA : K.lookup BA = some (excClassObj nmBA qBA BA NBA bsBA [.ref TE, .type "ValueError", .type "Exception", .type "BaseException", .type "object"] true snBA subBA abBA colBA ddBA m0BA m1BA m2BA m3BA m5BA "ValueError.__new__"))
    (aBA : PySem.W.nsIn K mainGlobals "BadAlphabet" = some (some (.ref BA)))
    (eBA : PySem.W.subIn K (.ref BA) (.type "BaseException") = some true)
    (tBA : PySem.W.typeIn K (.ref BA) = some (.type "type"))
    (hBA : PySem.W.hasDictIn K BA = true)
    (nBA_part : PySem.W.findIn K (.ref BA) "part" = some none)
    (saBA : PySem.W.findIn K (.ref BA) "__setattr__" = some (some (.builtin "object.__setattr__")))
    (gaBA : PySem.W.findIn K (.ref BA) "__getattribute__" = some (some (.builtin "BaseException.__getattribute__")))
    (ggBA : PySem.W.findIn K (.ref BA) "__getattr__" = some none)
    (aFBA : PySem.W.findIn K (.ref BA) "__init__" = some (some (.ref fBA)))
    (tFBA : PySem.W.typeIn K (.ref fBA) = some (.type "function"))
    (lBA : K.lookup fBA = some ⟨ocBA, odBA, .func (PySem.W.ksFn "__init__" "BadAlphabet.__init__" (defArgs sBA) (defBody sBA) (defScope sBA) .none kVBA dcBA pmBA anBA (.ref cdaBA) ctBA ccBA), slBA⟩)
    (cBA : PySem.W.codeIn K (.ref cdaBA) "BadAlphabet.__init__" = true)
    (kBA : PySem.W.keepIn K (.ref BA) = true)
    (lccBA : K.lookup ccBA = some ⟨clccBA, ddccBA, .cell (some (.ref BA)), slccBA⟩)
    (lcdBA : K.lookup cdaBA = some ⟨clcdBA, ddcdBA, .fields vsCBA, slcdBA⟩)
    (hvBA : vsCBA[2]? = some (.str flBA tfBA))
    (hflBA : ((l.prog.main.file : Str) == flBA) = true)
    (mmBA : PySem.W.mroIn K BA (.ref BA) = some true)
    (vBA : PySem.W.subIn K (.ref BA) (.type "ValueError") = some true)
    (xBK : K.lookup BK = some (excClassObj nmBK qBK BK NBK bsBK [.ref TE, .type "ValueError", .type "Exception", .type "BaseException", .type "object"] true snBK subBK abBK colBK ddBK m0BK m1BK m2BK m3BK m5BK "ValueError.__new__"))
    (aBK : PySem.W.nsIn K mainGlobals "BadKey" = some (some (.ref BK)))
    (eBK : PySem.W.subIn K (.ref BK) (.type "BaseException") = some true)
    (tBK : PySem.W.typeIn K (.ref BK) = some (.type "type"))
    (hBK : PySem.W.hasDictIn K BK = true)
    (nBK_key : PySem.W.findIn K (.ref BK) "key" = some none)
    (saBK : PySem.W.findIn K (.ref BK) "__setattr__" = some (some (.builtin "object.__setattr__")))
    (gaBK : PySem.W.findIn K (.ref BK) "__getattribute__" = some (some (.builtin "BaseException.__getattribute__")))
    (ggBK : PySem.W.findIn K (.ref BK) "__getattr__" = some none)
    (aFBK : PySem.W.findIn K (.ref BK) "__init__" = some (some (.ref fBK)))
    (tFBK : PySem.W.typeIn K (.ref fBK) = some (.type "function"))
    (lBK : K.lookup fBK = some ⟨ocBK, odBK, .func (PySem.W.ksFn "__init__" "BadKey.__init__" (defArgs sBadKey) (defBody sBadKey) (defScope sBadKey) .none kVBK dcBK pmBK anBK (.ref cdaBK) ctBK ccBK), slBK⟩)
    (cBK : PySem.W.codeIn K (.ref cdaBK) "BadKey.__init__" = true)
    (kBK : PySem.W.keepIn K (.ref BK) = true)
    (lccBK : K.lookup ccBK = some ⟨clccBK, ddccBK, .cell (some (.ref BK)), slccBK⟩)
    (lcdBK : K.lookup cdaBK = some ⟨clcdBK, ddcdBK, .fields vsCBK, slcdBK⟩)
    (hvBK : vsCBK[2]? = some (.str flBK tfBK))
    (hflBK : ((l.prog.main.file : Str) == flBK) = true)
    (mmBK : PySem.W.mroIn K BK (.ref BK) = some true)
    (vBK : PySem.W.subIn K (.ref BK) (.type "ValueError") = some true) :
    ∃ fd : FuncData, (∀ (s : Shared) (v : Value), BindsTo s fd ⟨[v], []⟩ [("_law_script", v)]) ∧ ∀ base : Heap, K.In base → base.Ns mainGlobals mg → FnOk l.prog w K mg base CX0 8 fa fd ["_law_script"] (spLaw K) := by
  have e := hfa.symm.trans (PySem.W.mg_of X G aLaw)
  cases e
  have gm : ∀ {n : Str} {v : Value}, PySem.W.nsIn K mainGlobals n = some (some v) → mg n = some v := fun e => PySem.W.mg_of X G e
  have gn : ∀ {n : Str}, PySem.W.nsIn K mainGlobals n = some none → mg n = none := fun e => PySem.W.mg_none_of X G e
  have FDiff := fun_mk (st := sDiff) lDiff cDiff kDiff
  have bDiff := FDiff.binds (ps := ["text", "allowed"]) fun _ _ _ _ _ _ us hl => match us, hl with | [_, _], _ => rfl
  have FBox := fun_mk (st := sBox) lBox cBox kBox
  have bBox := FBox.binds (ps := ["_law_script", "_law_k"]) fun _ _ _ _ _ _ us hl => match us, hl with | [_, _], _ => rfl
  have FTake := fun_mk (st := sTake) lTake cTake kTake
  have bTake := FTake.binds (ps := ["_law_box_here", "_law_size_here"]) fun _ _ _ _ _ _ us hl => match us, hl with | [_, _], _ => rfl
  have FWhole := fun_mk (st := sWhole) lWhole cWhole kWhole
  have bWhole := FWhole.binds (ps := ["_law_told", "_law_due"]) fun _ _ _ _ _ _ us hl => match us, hl with | [_, _], _ => rfl
  have FLetters := fun_mk (st := sLetters) lLetters cLetters kLetters
  have bLetters := FLetters.binds (ps := ["_law_box_here", "_law_count"]) fun _ _ _ _ _ _ us hl => match us, hl with | [_, _], _ => rfl
  have FVowels := fun_mk (st := sVowels) lVowels cVowels kVowels
  have bVowels := FVowels.binds (ps := ["_law_box_here", "_law_letters_here"]) fun _ _ _ _ _ _ us hl => match us, hl with | [_, _], _ => rfl
  have FSize := fun_mk (st := sSize) lSize cSize kSize
  have bSize := FSize.binds (ps := ["_law_box_here", "_law_small"]) fun _ _ _ _ _ _ us hl => match us, hl with | [_, _], _ => rfl
  have FText := fun_mk (st := sText) lText cText kText
  have bText := FText.binds (ps := ["_law_box_here", "_law_signs", "_law_size_here"]) fun _ _ _ _ _ _ us hl => match us, hl with | [_, _, _], _ => rfl
  have FPass := fun_mk (st := sPass) lPass cPass kPass
  have bPass := FPass.binds (ps := ["_law_page", "_law_count"]) fun _ _ _ _ _ _ us hl => match us, hl with | [_, _], _ => rfl
  have FInsert := fun_mk (st := sInsert) lInsert cInsert kInsert
  have bInsert := FInsert.binds (ps := ["_law_page", "_law_signs"]) fun _ _ _ _ _ _ us hl => match us, hl with | [_, _], _ => rfl
  have FPress := fun_mk (st := sPress) lPress cPress kPress
  have bPress := FPress.binds (ps := ["_law_page", "_law_key_here"]) fun _ _ _ _ _ _ us hl => match us, hl with | [_, _], _ => rfl
  have FSame := fun_mk (st := sSame) lSame cSame kSame
  have bSame := FSame.binds (ps := ["_law_page", "_law_own"]) fun _ _ _ _ _ _ us hl => match us, hl with | [_, _], _ => rfl
  have FWorked := fun_mk (st := sWorked) lWorked cWorked kWorked
  have bWorked := FWorked.binds (ps := ["_law_page", "_law_own", "_law_key_here"]) fun _ _ _ _ _ _ us hl => match us, hl with | [_, _, _], _ => rfl
  have FPIsKey := fun_mk (st := sPIsKey) lPIsKey cPIsKey kPIsKey
  have bPIsKey := FPIsKey.binds (ps := ["alphabet", "key"]) fun _ _ _ _ _ _ us hl => match us, hl with | [_, _], _ => rfl
  have FKey := fun_mk (st := sKey) lKey cKey kKey
  have bKey := FKey.binds (ps := ["_law_box_here", "_law_signs", "_law_menu"]) fun _ _ _ _ _ _ us hl => match us, hl with | [_, _, _], _ => rfl
  have FRestored := fun_mk (st := sRestored) lRestored cRestored kRestored
  have bRestored := FRestored.binds (ps := ["_law_page", "_law_own"]) fun _ _ _ _ _ _ us hl => match us, hl with | [_, _], _ => rfl
  have FChain := fun_mk (st := sChain) lChain cChain kChain
  have bChain := FChain.binds (ps := ["_law_page", "_law_own", "_law_one", "_law_two"]) fun _ _ _ _ _ _ us hl => match us, hl with | [_, _, _, _], _ => rfl
  have FWorld := fun_mk (st := sWorld) lWorld cWorld kWorld
  have bWorld := FWorld.binds (ps := ["_law_script", "_law_k"]) fun _ _ _ _ _ _ us hl => match us, hl with | [_, _], _ => rfl
  have FLaw := fun_mk (st := sLaw) lLaw cLaw kLaw
  have bLaw := FLaw.binds (ps := ["_law_script"]) fun _ _ _ _ _ _ us hl => match us, hl with | [_], _ => rfl
  have FGoOn := fun_mk (st := sGoOn) lGoOn cGoOn kGoOn
  have bGoOn := FGoOn.binds (ps := ["self"]) fun _ _ _ _ _ _ us hl => match us, hl with | [_], _ => rfl
  have FPutIn := fun_mk (st := sPutIn) lPutIn cPutIn kPutIn
  have bPutIn := FPutIn.binds (ps := ["self", "signs"]) fun _ _ _ _ _ _ us hl => match us, hl with | [_, _], _ => rfl
  have FUntil := fun_mk (st := sUntil) lUntil cUntil kUntil
  have bUntil := FUntil.binds (ps := ["self", "sign"]) fun _ _ _ _ _ _ us hl => match us, hl with | [_, _], _ => rfl
  have FWillWork := fun_mk (st := sWillWork) lWillWork cWillWork kWillWork
  have bWillWork := FWillWork.binds (ps := ["self", "key"]) fun _ _ _ _ _ _ us hl => match us, hl with | [_, _], _ => rfl
  have FCarry := fun_mk (st := sCarry) lCarry cCarry kCarry
  have bCarry := FCarry.binds (ps := ["self", "key"]) fun _ _ _ _ _ _ us hl => match us, hl with | [_, _], _ => rfl
  have FHeld := fun_mk (st := sHeld) lHeld cHeld kHeld
  have bHeld := FHeld.binds (ps := ["self"]) fun _ _ _ _ _ _ us hl => match us, hl with | [_], _ => rfl
  have FPress2 := fun_mk (st := sPress2) lPress2 cPress2 kPress2
  have bPress2 := FPress2.binds (ps := ["self", "key"]) fun _ _ _ _ _ _ us hl => match us, hl with | [_, _], _ => rfl
  have FIsText := fun_mk (st := sIsText) lIsText cIsText kIsText
  have bIsText := FIsText.binds (ps := ["self", "text"]) fun _ _ _ _ _ _ us hl => match us, hl with | [_, _], _ => rfl
  have FCheck := fun_mk (st := sCheck) lCheck cCheck kCheck
  have bCheck := FCheck.binds (ps := ["self", "text"]) fun _ _ _ _ _ _ us hl => match us, hl with | [_, _], _ => rfl
  have FAlEq := fun_mk (st := sAlEq) lAlEq cAlEq kAlEq
  have bAlEq := FAlEq.binds (ps := ["self", "other"]) fun _ _ _ _ _ _ us hl => match us, hl with | [_, _], _ => rfl
  have FA : FunD K "__init__" "Alphabet.__init__" (defArgs sAI) (defBody sAI) (defScope sAI) [.str ""] [] fA (PySem.W.fnOf "__init__" "Alphabet.__init__" (defArgs sAI) (defBody sAI) (defScope sAI) (.ref TDA) kVA dcA pmA anA cdA ctA) :=
    ⟨⟨_, _, _, _, _, _, _, _, _, _, rfl, lA, cA, .inr ⟨by simp, TDA, _, [Value.str "" tDA], nDA, rfl, lDA, rfl, .cons ⟨_, rfl⟩ .nil⟩, .inl rfl⟩, kA⟩
  obtain ⟨d0A, v0A, bA⟩ := FA.binds1 (ps := ["self", "letters", "vowels"]) 3 1 (by simp) rfl fun T kV doc pm an cdv ct us its h1 h2 => match us, its, h1, h2 with | [_, _, _], [_], _, _ => ⟨_, rfl, rfl⟩
  have ed0A : d0A = [] := by
    cases v0A
    rfl
  subst ed0A
  have FPI : FunD K "__init__" "Page.__init__" (defArgs sPageInit) (defBody sPageInit) (defScope sPageInit) [.str ""] [] fPI (PySem.W.fnOf "__init__" "Page.__init__" (defArgs sPageInit) (defBody sPageInit) (defScope sPageInit) (.ref TDPI) kVPI dcPI pmPI anPI cdPI ctPI) :=
    ⟨⟨_, _, _, _, _, _, _, _, _, _, rfl, lPI, cPI, .inr ⟨by simp, TDPI, _, [Value.str "" tDPI], nDPI, rfl, lDPI, rfl, .cons ⟨_, rfl⟩ .nil⟩, .inl rfl⟩, kPI⟩
  obtain ⟨d0PI, v0PI, bPI⟩ := FPI.binds1 (ps := ["self", "alphabet", "text"]) 3 1 (by simp) rfl fun T kV doc pm an cdv ct us its h1 h2 => match us, its, h1, h2 with | [_, _, _], [_], _, _ => ⟨_, rfl, rfl⟩
  have ed0PI : d0PI = [] := by
    cases v0PI
    rfl
  subst ed0PI
  have OXBA : OexC K BA := ⟨⟨_, _, _, _, _, _, _, _, _, _, _, _, _, _, _, xBA, rfl⟩, saBA, eBA, tBA, kBA⟩
  have supBA : PySem.W.ks_superIn K BA BA "__init__" = some (some (.builtin "ValueError.__init__")) := by
    have hcl : PySem.W.clsIn K BA = some { name := nmBA, bases := bsBA, mro := .ref BA :: [.ref TE, .type "ValueError", .type "Exception", .type "BaseException", .type "object"], ns := NBA, qualname := qBA, hasDict := true, slotNames := snBA, subclasses := subBA, abstract := abBA, collection := colBA, hasDel := false } := by
      unfold PySem.W.clsIn
      rw [xBA] <;> rfl
    unfold PySem.W.ks_superIn
    rw [hcl]
    have e1 : PySem.W.findIn K (.ref TE) "__init__" = PySem.W.alongIn K "__init__" [.ref TE, .type "ValueError", .type "Exception", .type "BaseException", .type "object"] := by
      unfold PySem.W.findIn
      simp only [xTE]
    rw [← iTE, e1]
    show PySem.W.alongIn K "__init__" (((Value.ref BA :: [.ref TE, .type "ValueError", .type "Exception", .type "BaseException", .type "object"]).dropWhile (· != .ref BA)).drop 1) = _
    have hb : (Value.ref BA != .ref BA) = false := by simp
    rw [List.dropWhile_cons, hb]
    rfl
  have SCBA : SupC l.prog K mg BA ccBA cdaBA := ⟨OXBA, ⟨_, _, _, lccBA⟩, ⟨_, _, _, _, _, _, lcdBA, hvBA, hflBA⟩, mmBA, supBA, vBA, noT, gn noM, anyS⟩
  have bBA : Binds K (PySem.W.ksFn "__init__" "BadAlphabet.__init__" (defArgs sBA) (defBody sBA) (defScope sBA) .none kVBA dcBA pmBA anBA (.ref cdaBA) ctBA ccBA) ["self", "part"] [] := Binds.all fun us hl => match us, hl with | [_, _], _ => rfl
  have OXBK : OexC K BK := ⟨⟨_, _, _, _, _, _, _, _, _, _, _, _, _, _, _, xBK, rfl⟩, saBK, eBK, tBK, kBK⟩
  have supBK : PySem.W.ks_superIn K BK BK "__init__" = some (some (.builtin "ValueError.__init__")) := by
    have hcl : PySem.W.clsIn K BK = some { name := nmBK, bases := bsBK, mro := .ref BK :: [.ref TE, .type "ValueError", .type "Exception", .type "BaseException", .type "object"], ns := NBK, qualname := qBK, hasDict := true, slotNames := snBK, subclasses := subBK, abstract := abBK, collection := colBK, hasDel := false } := by
      unfold PySem.W.clsIn
      rw [xBK] <;> rfl
    unfold PySem.W.ks_superIn
    rw [hcl]
    have e1 : PySem.W.findIn K (.ref TE) "__init__" = PySem.W.alongIn K "__init__" [.ref TE, .type "ValueError", .type "Exception", .type "BaseException", .type "object"] := by
      unfold PySem.W.findIn
      simp only [xTE]
    rw [← iTE, e1]
    show PySem.W.alongIn K "__init__" (((Value.ref BK :: [.ref TE, .type "ValueError", .type "Exception", .type "BaseException", .type "object"]).dropWhile (· != .ref BK)).drop 1) = _
    have hb : (Value.ref BK != .ref BK) = false := by simp
    rw [List.dropWhile_cons, hb]
    rfl
  have SCBK : SupC l.prog K mg BK ccBK cdaBK := ⟨OXBK, ⟨_, _, _, lccBK⟩, ⟨_, _, _, _, _, _, lcdBK, hvBK, hflBK⟩, mmBK, supBK, vBK, noT, gn noM, anyS⟩
  have bBK : Binds K (PySem.W.ksFn "__init__" "BadKey.__init__" (defArgs sBadKey) (defBody sBadKey) (defScope sBadKey) .none kVBK dcBK pmBK anBK (.ref cdaBK) ctBK ccBK) ["self", "key"] [] := Binds.all fun us hl => match us, hl with | [_, _], _ => rfl
  have EBK : EF K mg "BadKey" BK fBK (PySem.W.ksFn "__init__" "BadKey.__init__" (defArgs sBadKey) (defBody sBadKey) (defScope sBadKey) .none kVBK dcBK pmBK anBK (.ref cdaBK) ctBK ccBK) ["self", "key"] := ⟨OXBK, aFBK, tFBK, gm aBK, bBK⟩
  have T : Fns K mg ⟨fDiff, fBox, fTake, fWhole, fLetters, fVowels, fSize, fText, fPass, fInsert, fPress, fSame, fWorked, fGoOn, fPutIn, fUntil, fWillWork, fCarry, fHeld, fPress2, fIsText, fCheck, fPIsKey, fKey, fRestored, fChain, fWorld, fa, fAlEq, CP, C, KP, KS, KH, BK, fBK, fPI, TE, tho, tj2⟩ ⟨_, _, _, _, _, _, _, _, _, _, _, _, _, _, _, _, _, _, _, _, _, _, _, _, _, _, _, _, _, (PySem.W.ksFn "__init__" "BadKey.__init__" (defArgs sBadKey) (defBody sBadKey) (defScope sBadKey) .none kVBK dcBK pmBK anBK (.ref cdaBK) ctBK ccBK), (PySem.W.fnOf "__init__" "Page.__init__" (defArgs sPageInit) (defBody sPageInit) (defScope sPageInit) (.ref TDPI) kVPI dcPI pmPI anPI cdPI ctPI)⟩ :=
    { z_len := gn z_len, z_set := gn z_set, z_all := gn z_all, z_abs := gn z_abs, z_int := gn z_int, z_range := gn z_range, z_sorted := gn z_sorted, z_isinstance := gn z_isinstance, z_str := gn z_str, z_bool := gn z_bool, z_list := gn z_list, z_tuple := gn z_tuple, z_any := gn z_any, z_enum := gn z_enumerate, z_min := gn z_min, z_max := gn z_max, z_VE := gn z_ValueError,
      gDiff := gm aDiff, FDiff := FDiff, bDiff := bDiff,
      gBox := gm aBox, FBox := FBox, bBox := bBox,
      gTake := gm aTake, FTake := FTake, bTake := bTake,
      gWhole := gm aWhole, FWhole := FWhole, bWhole := bWhole,
      gLetters := gm aLetters, FLetters := FLetters, bLetters := bLetters,
      gVowels := gm aVowels, FVowels := FVowels, bVowels := bVowels,
      gSize := gm aSize, FSize := FSize, bSize := bSize,
      gText := gm aText, FText := FText, bText := bText,
      gPass := gm aPass, FPass := FPass, bPass := bPass,
      gInsert := gm aInsert, FInsert := FInsert, bInsert := bInsert,
      gPress := gm aPress, FPress := FPress, bPress := bPress,
      gSame := gm aSame, FSame := FSame, bSame := bSame,
      gWorked := gm aWorked, FWorked := FWorked, bWorked := bWorked,
      mGoOn := ⟨aGoOn, iGoOn, kGoOn⟩, FGoOn := FGoOn, bGoOn := bGoOn,
      mPutIn := ⟨aPutIn, iPutIn, kPutIn⟩, FPutIn := FPutIn, bPutIn := bPutIn,
      mUntil := ⟨aUntil, iUntil, kUntil⟩, FUntil := FUntil, bUntil := bUntil,
      mWillWork := ⟨aWillWork, iWillWork, kWillWork⟩, FWillWork := FWillWork, bWillWork := bWillWork,
      mCarry := ⟨aCarry, iCarry, kCarry⟩, FCarry := FCarry, bCarry := bCarry,
      FHeld := FHeld, bHeld := bHeld, prHeld := ⟨aHeld, gHeld, tHeld, ⟨_, rHeld⟩⟩,
      mPress2 := ⟨aPress2, iPress2, kPress2⟩, FPress2 := FPress2, bPress2 := bPress2,
      mIsText := ⟨aIsText, iIsText, kIsText⟩, FIsText := FIsText, bIsText := bIsText,
      mCheck := ⟨aCheck, iCheck, kCheck⟩, FCheck := FCheck, bCheck := bCheck,
      gPIsKey := gm aPIsKey, FPIsKey := FPIsKey, bPIsKey := bPIsKey,
      gKey := gm aKey, FKey := FKey, bKey := bKey,
      gRestored := gm aRestored, FRestored := FRestored, bRestored := bRestored,
      gChain := gm aChain, FChain := FChain, bChain := bChain,
      gWorld := gm aWorld, FWorld := FWorld, bWorld := bWorld,
      gLaw := gm aLaw, FLaw := FLaw, bLaw := bLaw,
      mAlEq := ⟨aAlEq, iAlEq, kAlEq⟩, FAlEq := FAlEq, bAlEq := bAlEq,
      mkPage := ⟨mkCP, aPI, iPI, kCP⟩,
      gPage := gm aCP,
      eqN := nE,
      gTale := gm aTE,
      xBadKey := EBK,
      clP := ⟨pgCP, hdCP, poCP, saCP⟩,
      nA := nCP_alphabet,
      nT := nCP_text,
      nC := nCP_caret,
      nM := nCP_mark,
      nK := nCP_kept,
      gHold := gm aHold,
      tPlain := fun H => .inr ⟨_, _, _, lKP, rfl, rfl, (show 8 ≤ sizeLine by decide), (.cons (str_rel 62 (by decide +kernel)) (.cons (str_rel 120 (by decide +kernel)) (.cons (str_rel 119 (by decide +kernel)) (.cons (str_rel 94 (by decide +kernel)) (.cons (str_rel 109 (by decide +kernel)) (.cons (str_rel 107 (by decide +kernel)) (.cons (str_rel 99 (by decide +kernel)) (.cons (str_rel 112 (by decide +kernel)) .nil))))))))⟩,
      tSign := fun H => .inr ⟨_, _, _, lKS, rfl, rfl, (show 3 ≤ sizeLine by decide), (.cons (str_rel 39 (by decide +kernel)) (.cons (str_rel 61 (by decide +kernel)) (.cons (str_rel 47 (by decide +kernel)) .nil)))⟩,
      clA := ⟨pgC, hdC, poC, saC⟩,
      nS := nC_signs,
      tj := ⟨aJ, ⟨_, by rw [show S [45] = PySem.Str.ofString "-" by decide +kernel]⟩, gJ, by decide +kernel⟩,
      gPlain := gm aKP,
      gSign := gm aKS }
  have A : AlF K C := ⟨⟨pgC, hdC, poC, saC⟩, nC_letters, nC_vowels, nC_consonants, nC_signs, icC, ig, it, imC⟩
  have AV : AlV K mg C (.type "type") tM tJ tl := ⟨gm aC, by rw [← az_S]; exact gm aSL, ⟨rdC, gaC⟩, ⟨vM, ⟨_, rfl⟩⟩, ⟨vJ, ⟨_, rfl⟩⟩⟩
  have BA' : BaF l.prog K mg BA fBA := ⟨OXBA, aFBA, tFBA, gm aBA⟩
  refine ⟨PySem.W.fnOf "law" "law" (defArgs sLaw) (defBody sLaw) (defScope sLaw) .none kVLaw dcLaw pmLaw anLaw cdLaw ctLaw, fun s v => .of_eq rfl, fun base _ _ => ?_⟩
  have GA := ok_alph (P := l.prog) (w := w) (base := base) FA T.toTxA A AV BA' FDiff bDiff (ok_ba SCBA nBA_part lBA cBA) bBA
  have GBK : FnOk l.prog w K mg base CX0 1 fBK (PySem.W.ksFn "__init__" "BadKey.__init__" (defArgs sBadKey) (defBody sBadKey) (defScope sBadKey) .none kVBK dcBK pmBK anBK (.ref cdaBK) ctBK ccBK) ["self", "key"] (spEBadKey BK) := ok_eBadKey SCBK nBK_key lBK cBK
  exact ok_law T (ok_world (ds1 := []) T A AV ⟨mkC, aA, iA, kC⟩ GA bA GBK FPI bPI)
theorem walk {l : PySem.W.OpenLaw} {q : Program} {loose : List Str} {XP : (Str → Option Value) → Heap → Prop} {YP : World → Heap → Prop} {d : DefRec} {K : Params → PySem.W.Frag} (hn : l.most = some 63) (hdf : d.params.defaults = [])
    (hY : ∀ (w : World) (h : Heap), YP w h → (K w.params).In h)
    (F : ∀ (w : World) (mg : Str → Option Value) (fa : Addr) (h : Heap), (K w.params).In h → h.Ns mainGlobals mg → mg d.name = some (.ref fa) →
      ∃ fd : FuncData, (∀ (s : Shared) (u : Value), BindsTo s fd ⟨[u], []⟩ [("_law_script", u)]) ∧ ∀ base : Heap, (K w.params).In base → base.Ns mainGlobals mg → FnOk l.prog w (K w.params) mg base CX0 8 fa fd ["_law_script"] (spLaw (K w.params))) :
    PySem.W.WalkO q loose XP YP l.row.toRowW d [] (fun f vs => PySem.call f vs) :=
  L2.walk_of (n := 63) (k := 8) (x := "_law_script") (CX := fun _ => CX0) (sp := fun w => spLaw (K w.params)) hn (by decide) hdf ⟨rfl, by decide, by decide⟩ hY F (fun _ _ a ns hl _ hS => ⟨a, ns, rfl, hS, hl, fun _ => rfl⟩) fun _ _ _ _ _ z => z
end Vk

set_option Elab.async false
open PySem PySem.W PyProof.Rows
set_option maxRecDepth 100000 in
set_option maxHeartbeats 0 in
theorem PySem.Challenge.cw_talepost_k45_marks_and_kept_holds : PySem.Challenge.rw_talepost_k45_marks_and_kept.Holds := by
  w_on; o_law; k_head; (case hw => w_witness2)
  k_fill
  refine Vk.walk (l := PySem.Challenge.rw_talepost_k45_marks_and_kept) rfl rfl (fun w h Y => PySem.W.kIn_of Y) ?F
  case F =>
    intro w mg fa h KX G hmg
    refine' Vk.all_mk KX G hmg ?lDiff ?cDiff ?aDiff ?kDiff ?lBox ?cBox ?aBox ?kBox ?lTake ?cTake ?aTake ?kTake ?lWhole ?cWhole ?aWhole ?kWhole ?lLetters ?cLetters ?aLetters ?kLetters ?lVowels ?cVowels ?aVowels ?kVowels ?lSize ?cSize ?aSize ?kSize ?lText ?cText ?aText ?kText ?lPass ?cPass ?aPass ?kPass ?lInsert ?cInsert ?aInsert ?kInsert ?lPress ?cPress ?aPress ?kPress ?lSame ?cSame ?aSame ?kSame ?lWorked ?cWorked ?aWorked ?kWorked ?lPIsKey ?cPIsKey ?aPIsKey ?kPIsKey ?lKey ?cKey ?aKey ?kKey ?lRestored ?cRestored ?aRestored ?kRestored ?lChain ?cChain ?aChain ?kChain ?lWorld ?cWorld ?aWorld ?kWorld ?lLaw ?cLaw ?aLaw ?kLaw ?z_len ?z_set ?z_all ?z_abs ?z_int ?z_range ?z_sorted ?z_isinstance ?z_str ?z_bool ?z_list ?z_tuple ?z_any ?z_enumerate ?z_min ?z_max ?z_ValueError ?aC ?pgC ?hdC ?poC ?saC ?mkC ?kC ?nC_letters ?nC_vowels ?nC_consonants ?nC_signs ?ig ?it ?icC ?imC ?rdC ?gaC ?vM ?vJ ?aJ ?gJ ?aSL ?nE ?aCP ?pgCP ?hdCP ?poCP ?saCP ?mkCP ?kCP ?nCP_alphabet ?nCP_text ?nCP_caret ?nCP_mark ?nCP_kept ?lGoOn ?cGoOn ?aGoOn ?kGoOn ?iGoOn ?lPutIn ?cPutIn ?aPutIn ?kPutIn ?iPutIn ?lUntil ?cUntil ?aUntil ?kUntil ?iUntil ?lWillWork ?cWillWork ?aWillWork ?kWillWork ?iWillWork ?lCarry ?cCarry ?aCarry ?kCarry ?iCarry ?lHeld ?cHeld ?kHeld ?lPress2 ?cPress2 ?aPress2 ?kPress2 ?iPress2 ?lIsText ?cIsText ?aIsText ?kIsText ?iIsText ?lCheck ?cCheck ?aCheck ?kCheck ?iCheck ?lAlEq ?cAlEq ?aAlEq ?kAlEq ?iAlEq ?aHeld ?gHeld ?tHeld ?rHeld ?lA ?cA ?aA ?lDA ?kA ?iA ?lPI ?cPI ?aPI ?lDPI ?kPI ?iPI ?aHold ?aKP ?lKP ?aKS ?lKS ?xTE ?aTE ?eTE ?tTE ?hTE ?iTE ?noT ?noM ?anyS ?xBA ?aBA ?eBA ?tBA ?hBA ?nBA_part ?saBA ?gaBA ?ggBA ?aFBA ?tFBA ?lBA ?cBA ?kBA ?lccBA ?lcdBA ?hvBA ?hflBA ?mmBA ?vBA ?xBK ?aBK ?eBK ?tBK ?hBK ?nBK_key ?saBK ?gaBK ?ggBK ?aFBK ?tFBK ?lBK ?cBK ?kBK ?lccBK ?lcdBK ?hvBK ?hflBK ?mmBK ?vBK
    (case aDiff => k_is)
    (case aBox => k_is)
    (case aTake => k_is)
    (case aWhole => k_is)
    (case aLetters => k_is)
    (case aVowels => k_is)
    (case aSize => k_is)
    (case aText => k_is)
    (case aPass => k_is)
    (case aInsert => k_is)
    (case aPress => k_is)
    (case aSame => k_is)
    (case aWorked => k_is)
    (case aPIsKey => k_is)
    (case aKey => k_is)
    (case aRestored => k_is)
    (case aChain => k_is)
    (case aWorld => k_is)
    (case aLaw => k_is)
    (case z_len => k_is)
    (case z_set => k_is)
    (case z_all => k_is)
    (case z_abs => k_is)
    (case z_int => k_is)
    (case z_range => k_is)
    (case z_sorted => k_is)
    (case z_isinstance => k_is)
    (case z_str => k_is)
    (case z_bool => k_is)
    (case z_list => k_is)
    (case z_tuple => k_is)
    (case z_any => k_is)
    (case z_enumerate => k_is)
    (case z_min => k_is)
    (case z_max => k_is)
    (case z_ValueError => k_is)
    (case aC => k_is)
    (case aSL => k_is)
    (case aCP => k_is)
    (case aHold => k_is)
    (case aKP => k_is)
    (case aKS => k_is)
    (case aTE => k_is)
    (case noM => k_is)
    (case aBA => k_is)
    (case aBK => k_is)
    (case aGoOn => k_is)
    (case aPutIn => k_is)
    (case aUntil => k_is)
    (case aWillWork => k_is)
    (case aCarry => k_is)
    (case aPress2 => k_is)
    (case aIsText => k_is)
    (case aCheck => k_is)
    (case aAlEq => k_is)
    (case aHeld => k_is)
    (case aA => k_is)
    (case aPI => k_is)
    (case aFBA => k_is)
    (case aFBK => k_is)
    (case rHeld => k_is)
    (case lDiff => k_is)
    (case cDiff => k_is)
    (case kDiff => k_is)
    (case lBox => k_is)
    (case cBox => k_is)
    (case kBox => k_is)
    (case lTake => k_is)
    (case cTake => k_is)
    (case kTake => k_is)
    (case lWhole => k_is)
    (case cWhole => k_is)
    (case kWhole => k_is)
    (case lLetters => k_is)
    (case cLetters => k_is)
    (case kLetters => k_is)
    (case lVowels => k_is)
    (case cVowels => k_is)
    (case kVowels => k_is)
    (case lSize => k_is)
    (case cSize => k_is)
    (case kSize => k_is)
    (case lText => k_is)
    (case cText => k_is)
    (case kText => k_is)
    (case lPass => k_is)
    (case cPass => k_is)
    (case kPass => k_is)
    (case lInsert => k_is)
    (case cInsert => k_is)
    (case kInsert => k_is)
    (case lPress => k_is)
    (case cPress => k_is)
    (case kPress => k_is)
    (case lSame => k_is)
    (case cSame => k_is)
    (case kSame => k_is)
    (case lWorked => k_is)
    (case cWorked => k_is)
    (case kWorked => k_is)
    (case lPIsKey => k_is)
    (case cPIsKey => k_is)
    (case kPIsKey => k_is)
    (case lKey => k_is)
    (case cKey => k_is)
    (case kKey => k_is)
    (case lRestored => k_is)
    (case cRestored => k_is)
    (case kRestored => k_is)
    (case lChain => k_is)
    (case cChain => k_is)
    (case kChain => k_is)
    (case lWorld => k_is)
    (case cWorld => k_is)
    (case kWorld => k_is)
    (case lLaw => k_is)
    (case cLaw => k_is)
    (case kLaw => k_is)
    (case pgC => k_is)
    (case hdC => k_is)
    (case poC => k_is)
    (case saC => k_is)
    (case mkC => k_is)
    (case kC => k_is)
    (case nC_letters => k_is)
    (case nC_vowels => k_is)
    (case nC_consonants => k_is)
    (case nC_signs => k_is)
    (case ig => k_is)
    (case it => k_is)
    (case icC => k_is)
    (case imC => k_is)
    (case rdC => k_is)
    (case gaC => k_is)
    (case vM => k_is)
    (case vJ => k_is)
    (case aJ => k_is)
    (case gJ => k_is)
    (case nE => k_is)
    (case pgCP => k_is)
    (case hdCP => k_is)
    (case poCP => k_is)
    (case saCP => k_is)
    (case mkCP => k_is)
    (case kCP => k_is)
    (case nCP_alphabet => k_is)
    (case nCP_text => k_is)
    (case nCP_caret => k_is)
    (case nCP_mark => k_is)
    (case nCP_kept => k_is)
    (case lGoOn => k_is)
    (case cGoOn => k_is)
    (case kGoOn => k_is)
    (case iGoOn => k_is)
    (case lPutIn => k_is)
    (case cPutIn => k_is)
    (case kPutIn => k_is)
    (case iPutIn => k_is)
    (case lUntil => k_is)
    (case cUntil => k_is)
    (case kUntil => k_is)
    (case iUntil => k_is)
    (case lWillWork => k_is)
    (case cWillWork => k_is)
    (case kWillWork => k_is)
    (case iWillWork => k_is)
    (case lCarry => k_is)
    (case cCarry => k_is)
    (case kCarry => k_is)
    (case iCarry => k_is)
    (case lHeld => k_is)
    (case cHeld => k_is)
    (case kHeld => k_is)
    (case lPress2 => k_is)
    (case cPress2 => k_is)
    (case kPress2 => k_is)
    (case iPress2 => k_is)
    (case lIsText => k_is)
    (case cIsText => k_is)
    (case kIsText => k_is)
    (case iIsText => k_is)
    (case lCheck => k_is)
    (case cCheck => k_is)
    (case kCheck => k_is)
    (case iCheck => k_is)
    (case lAlEq => k_is)
    (case cAlEq => k_is)
    (case kAlEq => k_is)
    (case iAlEq => k_is)
    (case gHeld => k_is)
    (case tHeld => k_is)
    (case lA => k_is)
    (case cA => k_is)
    (case lDA => k_is)
    (case kA => k_is)
    (case iA => k_is)
    (case lPI => k_is)
    (case cPI => k_is)
    (case lDPI => k_is)
    (case kPI => k_is)
    (case iPI => k_is)
    (case lKP => k_is)
    (case lKS => k_is)
    (case xTE => k_is)
    (case eTE => k_is)
    (case tTE => k_is)
    (case hTE => k_is)
    (case iTE => k_is)
    (case noT => first | rfl | decide +kernel)
    (case anyS => k_is)
    (case xBA => k_is)
    (case eBA => k_is)
    (case tBA => k_is)
    (case hBA => k_is)
    (case nBA_part => k_is)
    (case saBA => k_is)
    (case gaBA => k_is)
    (case ggBA => k_is)
    (case tFBA => k_is)
    (case lBA => k_is)
    (case cBA => k_is)
    (case kBA => k_is)
    (case lccBA => k_is)
    (case lcdBA => k_is)
    (case hvBA => rfl)
    (case hflBA => first | rfl | decide +kernel)
    (case mmBA => k_is)
    (case vBA => k_is)
    (case xBK => k_is)
    (case eBK => k_is)
    (case tBK => k_is)
    (case hBK => k_is)
    (case nBK_key => k_is)
    (case saBK => k_is)
    (case gaBK => k_is)
    (case ggBK => k_is)
    (case tFBK => k_is)
    (case lBK => k_is)
    (case cBK => k_is)
    (case kBK => k_is)
    (case lccBK => k_is)
    (case lcdBK => k_is)
    (case hvBK => rfl)
    (case hflBK => first | rfl | decide +kernel)
    (case mmBK => k_is)
    (case vBK => k_is)

