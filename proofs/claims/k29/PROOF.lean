import PyProof.Rows.All
import Wide.All
import OpenK.AllK
import Wide.FinOn
import HandS.ForExc
import HandS.ExcInit
import HandS.ExcField
import HandS.FStr
import HandS.ExcSuper
import KE.KExcSuper
import HandS.Strs
import HandS.Zip
import HandS.ForMost
import HandS.More
import PyProof.CollectStr
import HandS.ExcIs
import HandS.IsInst
import HandS.SlotsOwn
import HandS.Walk
import PyProof.ListStr
import HandS.Property
import HandS.Text
import HandS.Conv
import HandS.ExcOwn
import HandS.ClsMeth
import HandS.Defaults
import PySem.Challenge.RW_talepost_k29_books_changed
import HandS.TupSets
import KE.Datum
import KE.KEqSeq
import HandS.Replace
import HandS.ReplaceList
import PyProof.StrLawsRepr
import HandS.Sort
import HandS.NamedTupSort
import KE.KSortTupG
import PyProof.Rows.SortShell
import HandS.Iter
import KE.GoesMore
import KE.GoesEnum
import HandS.WordsExc
import HandS.Star
import HandS.DictComp
import HandS.Base
import HandS.Call
import HandS.Exc
import HandS.TryMany
import HandS.Dict
import HandS.WordsDict
import KE.KOpsOwn
import KE.KStar
import PyProof.Rows.StrMeet
import HandS.TryOnly
import PyProof.P3Eq
set_option Elab.async false
set_option linter.all false
set_option maxRecDepth 100000
set_option maxHeartbeats 2000000
namespace Vk
open PySem PySem.Spec PyProof.Rows L2

/-- the context of a body that closes over its class's cell -/
def cxS (CX : CXT) (P : Program) (w : World) (K : PySem.W.Frag) (mg : Str → Option Value) (base : Heap) (N : List Str) (qual : Str) (scope : Scope) (f cc : Addr) (cd : Value) (A : Around) (outer : List Env) (s : Shared) (H : Hp) (E : XK) : Cx where
  prog := P
  w := w
  K := K
  mg := mg
  base := base
  A := A.deeper (PySem.W.ksEnv qual scope s.heap.objs.size f cd cc)
  N := N
  s_0 := s
  H_0 := H
  env := PySem.W.ksEnv qual scope s.heap.objs.size f cd cc
  outer := outer
  stack := PySem.W.ksEnv qual scope s.heap.objs.size f cd cc :: outer
  ex := []
  calm := true
  fn := fun _ => false
  pn := []
  xe := fun e s' => wpAny (model P w) (A.deeper (PySem.W.ksEnv qual scope s.heap.objs.size f cd cc)) (leaving (PySem.W.ksEnv qual scope s.heap.objs.size f cd cc) e) (fun _ s'' => CX outer H s E e s'') (fun e' s'' => CX outer H s E e' s'') s'

/-- what the text has written of an own exception class at C and its __init__ at fI, whose code is at cda, its cell at cc -/
structure SupC (P : Program) (K : PySem.W.Frag) (mg : Str → Option Value) (C cc cda : Addr) : Prop where
  oex : OexC K C
  cell : ∃ cl cld csl, K.lookup cc = some ⟨cl, cld, .cell (some (.ref C)), csl⟩
  code : ∃ (ccl : Value) (cdd : Option Addr) (vs : Array Value) (ccs : Array (Option Value)) (file : Str) (tf : Tok), K.lookup cda = some ⟨ccl, cdd, .fields vs, ccs⟩ ∧ vs[2]? = some (.str file tf) ∧ ((P.main.file : Str) == file) = true
  sub : PySem.W.mroIn K C (.ref C) = some true
  sup : PySem.W.ks_superIn K C C "__init__" = some (some (.builtin "ValueError.__init__"))
  subV : PySem.W.subIn K (.ref C) (.type "ValueError") = some true
  noTop : (P.main.scope.names.lookup ("super" : Str)).isSome = false
  noMg : mg "super" = none
  any : PySem.W.nsIn K cStatics "thirdparty.any" = some none

structure SScope (N : List Str) (sc : Scope) : Prop where
  kind : sc.kind = .function
  co : sc.isCoroutine = false
  gen : sc.isGenerator = false
  nd : N.Nodup
  par : ∀ x ∈ N, sc.names.lookup x = some .local
  nocell : ∀ x ∈ sc.names, x.2 ≠ .cell
  free : ∀ x, sc.names.lookup x = some .free → x = "__class__"
  sup : sc.names.lookup ("super" : Str) = some .globalImplicit
  cls : sc.names.lookup ("__class__" : Str) = some .free

theorem rev_get {N : List Str} {us : List Value} (hlen : N.length = us.length) (nd : N.Nodup) {i : Nat} {x : Str} {u : Value} (h1 : N[i]? = some x) (h2 : us[i]? = some u) : (N.zip us).reverse.lookup x = some u := by
  have key : ∀ (l : List (Str × Value)), (l.map (·.1)).Nodup → ∀ x u, (x, u) ∈ l → l.lookup x = some u := by
    intro l
    induction l with
    | nil => intro _ _ _ h; cases h
    | cons p l ih =>
      intro hn x u hm
      obtain ⟨a, b⟩ := p
      simp only [List.map_cons, List.nodup_cons] at hn
      rcases List.mem_cons.mp hm with e | hm
      · cases e
        simp [List.lookup]
      · have hne : (x == a) = false := by
          have : x ≠ a := fun z => hn.1 (z ▸ List.mem_map_of_mem hm)
          simpa using this
        simp [List.lookup, hne, ih hn.2 x u hm]
  have hz : (N.zip us)[i]? = some (x, u) := by
    rw [List.getElem?_zip_eq_some]
    exact ⟨h1, h2⟩
  refine key _ ?_ _ _ (List.mem_reverse.mpr (List.mem_of_getElem? hz))
  rw [List.map_reverse]
  refine (List.pairwise_reverse (R := fun a b : Str => a ≠ b)).mpr ?_
  refine List.Pairwise.imp (R := fun a b : Str => a ≠ b) (fun h => Ne.symm h) ?_
  rw [List.map_fst_zip (Nat.le_of_eq hlen)]
  exact nd

theorem inv_s {CX : CXT} {P : Program} {w : World} {K : PySem.W.Frag} {mg : Str → Option Value} {base : Heap} {N : List Str} {qual : Str} {scope : Scope} {f cc : Addr} {cd : Value} {A : Around} {outer : List Env} {s : Shared} {H : Hp} {E : XK} {us : List Value} {vs : List V} {h1 : Heap} {tk : Nat} {oc : Value} {ocd : Option Addr} {osl : Array (Option Value)} {cv : Option Value}
    (S : SScope N scope) (hd : A.handled = none) (e0 : Env0 P w K mg base A outer s H) (hl : vs.length = N.length) (r : Vals vs us) (hcell : K.lookup cc = some ⟨oc, ocd, .cell cv, osl⟩)
    (hns : h1.Ns s.heap.objs.size (fun x => (N.zip us).reverse.lookup x)) (hk : ∀ b o, s.heap.get? b = some o → h1.get? b = some o) :
    Inv (cxS CX P w K mg base N qual scope f cc cd A outer s H E) [] (vs.map some) H { s with heap := h1, toks := tk } := by
  have noA : ∀ b : Addr, b ∉ (cxS CX P w K mg base N qual scope f cc cd A outer s H E).ex := fun b z => absurd (show b ∈ ([] : List Addr) from z) (by simp)
  have hcs : ∀ y c, (cxS CX P w K mg base N qual scope f cc cd A outer s H E).env.cells.lookup y = some c → y = "__class__" ∧ c = cc := fun y c h => by
    have h' : List.lookup y [(("__class__" : Str), cc)] = some c := h
    by_cases e : y = "__class__"
    · subst e
      simp [List.lookup] at h'
      exact ⟨rfl, h'.symm⟩
    · have q : (y == ("__class__" : Str)) = false := by simpa using e
      simp [List.lookup, q] at h'
  have hcb : ∃ o, base.get? cc = some o ∧ o.data = .cell cv := ⟨_, e0.mod.kin _ _ hcell, rfl⟩
  obtain ⟨ob, hb1, hb2⟩ := hcb
  refine ⟨⟨e0.mod, S.kind, rfl, rfl, Nat.le_refl _, fun y z c h1 h2 => ?_, fun y hy => ?_, fun y c h _ => absurd h (by show ¬ (false = true); decide), fun _ => hd, Around.frames_deeper e0.frames, .inr ⟨rfl, rfl⟩, fun b z => absurd z (noA b), e0.bs, e0.bsz, fun b _ _ => noA b, fun b z => absurd z (noA b), e0.funs, e0.frf⟩,
    rfl, e0.bare, Un.kept hk, ⟨_, hns, fun i y v h1 h2 h3 => ?_⟩, fun y c h => ?_, e0.hok.fresh (Nat.le_refl _), fun y c h => ?_, fun p hp => absurd (show p ∈ ([] : List (Addr × Obj)) from hp) (by simp), e0.hok.kept hk, ?_⟩
  · exact (hcs y c h1).1.trans (hcs z c h2).1.symm
  · have hy : scope.names.lookup y = some .cell ∨ scope.names.lookup y = some .free := hy
    rcases hy with hy | hy
    · exact absurd rfl (S.nocell _ (PySem.mem_of_lookup hy))
    · have e := S.free y hy
      subst e
      exact ⟨cc, by show List.lookup ("__class__" : Str) [(("__class__" : Str), cc)] = _; simp [List.lookup]⟩
  · have h1' : N[i]? = some y := h1
    have ha : vs[i]? = some v := by
      rw [List.getElem?_map] at h2
      cases e : vs[i]? with
      | none => rw [e] at h2; cases h2
      | some a => rw [e] at h2; cases h2; rfl
    obtain ⟨u, hu, rv⟩ := r.get ha
    exact ⟨u, rv, .inl ⟨S.par y (List.mem_of_getElem? h1'), rev_get (hl.symm.trans r.length) S.nd h1' hu⟩⟩
  · obtain ⟨_, rfl⟩ := hcs y c h
    exact ⟨cv, ob, hk _ _ (e0.bs _ _ hb1).1, hb2⟩
  · obtain ⟨_, rfl⟩ := hcs y c h
    exact (e0.bs _ _ hb1).2
  · show (vs.map some).length = N.length
    rw [List.length_map, hl]

/-- ValueError.__init__ bound to the exception at e, called -/
theorem call_bv {prog : Program} {w : World} {A : Around} {E : Value → Shared → Prop} {h : Heap} {g : Array GenState} {d : Drawn} {t : Nat} {os : OsState}
    {nm q : Str} {C N : Addr} {bs bm : List Value} {hdct : Bool} {sn : List Str} {sub : List Value} {ab : Bool} {col : Option Bool} {dd : Option Addr} {k0 k1 k2 k3 k5 : Option Value}
    {u e t0 : Addr} {rest : List Value} {Q : Value → Shared → Prop}
    (hC : h.get? C = some (excClassObj nm q C N bs bm hdct sn sub ab col dd k0 k1 k2 k3 k5 "ValueError.__new__")) (he : h.get? e = some (HandSPX.excO C t0)) (hu : h.get? u = some (PySem.W.kxs_mw "ValueError.__init__" e)) (hrest : rest.length ≤ sizeLine)
    (hq : ∀ h' t1, (∀ b o, b ≠ e → h.get? b = some o → h'.get? b = some o) → h'.get? e = some (HandSPX.excO C t1) → Q .none ⟨h', g, d, t, os⟩) :
    wpAny (model prog w) A (call (.ref u) rest) Q E ⟨h, g, d, t, os⟩ := by
  refine wpAny_call (codeAny_of_tree ?_)
  show wpAny _ A.in1 (callAny (.ref u) ⟨rest, []⟩) _ _ _
  unfold callAny
  refine wpAny_bind (wpAny_load hu ?_)
  simp only [PySem.W.kxs_mw, show (Value.type "method-wrapper" == Value.type "method" || Value.type "method-wrapper" == Value.type "builtin_function_or_method" || Value.type "method-wrapper" == Value.type "method-wrapper") = true from by decide, if_true]
  refine W.KFB.if_so (by decide) ?_
  refine wpAny_bind (PySem.ESX.check_bound F.excBase_ValueError hC he rfl ?_)
  refine wpAny_bind (wpAny_pure (wpAny_pure ?_))
  refine ⟨plainId_quiet F.excBase_ValueError.init.plain _, codeAny_builtin F.excBase_ValueError.initEntry ?_⟩
  refine PySem.W.exc_init_tree (cls := .ref C) (t0 := t0) (dv := none) (c2 := .none) (c3 := .none) (b4 := .bool false) he hrest fun h' k e' _ => hq h' _ k e'

/-- what super().__init__(e) asks: the argument; the exception, fresh -/
def tSup (C : Addr) (te : TE) : TS := fun D σ H => te σ H fun _ H1 => (∃ a, σ[0]? = some (some (.ref a)) ∧ H1 a = some (exo a C none)) ∧ D.nx σ H1

theorem fn_super {CX : CXT} {P : Program} {w : World} {K : PySem.W.Frag} {mg : Str → Option Value} {base : Heap} {k : Nat} {f C cc cda : Addr} {name qual self : Str} {params : Arguments} {body : List Stmt} {scope : Scope} {dV kV doc pm ct oc : Value} {an od : Option Addr}
    {osl : Array (Option Value)} {N : List Str} {sp : Sp} {parts : List Expr} {rest : List Stmt} {p0 p1 p2 p3 p4 jp : Pos} {ar : Arg} {N' : List Str} {pl : Sem Bool}
    (T : SupC P K mg C cc cda)
    (lk : K.lookup f = some ⟨oc, od, .func (PySem.W.ksFn name qual params body scope dV kV doc pm an (.ref cda) ct cc), osl⟩) (hcd : PySem.W.codeIn K (.ref cda) qual = true) (S : SScope N scope) (hN : N = self :: N')
    (hpar : (params.posonlyargs ++ params.args).head? = some ar) (har : ar.arg = self)
    (hbd : body = .Expr (.Call (.Attribute (.Call (.Name "super" p0) [] [] p1) "__init__" p2) [.JoinedStr parts jp] [] p3) p4 :: rest)
    (hcall : ∀ env : Env, eval (.Call (.Attribute (.Call (.Name "super" p0) [] [] p1) "__init__" p2) [.JoinedStr parts jp] [] p3) env = (do
      let ov ← attributeBase (.Call (.Name "super" p0) [] [] p1) "__init__" env (eval (.Call (.Name "super" p0) [] [] p1) env)
      standAt p2.atName
      let (f, first) ← holding [ov] (getMethod ov "__init__" pl)
      callWith p3 f first (backTo p3 (starEach [.JoinedStr parts jp] env)) []))
    (hsw : ∀ env : Env, swapsWith (.Call (.Attribute (.Call (.Name "super" p0) [] [] p1) "__init__" p2) [.JoinedStr parts jp] [] p3) none p4.line env = pure false)
    (len : ∀ vs H Q E, sp vs H Q E → vs.length = N.length)
    (hbody : ∀ (A : Around) (outer : List Env) (s : Shared) (H : Hp) (vs : List V) (Q : VK) (E : XK), Room k (A.deeper (PySem.W.ksEnv qual scope s.heap.objs.size f (.ref cda) cc)) → sp vs H Q E →
      ∃ te t, PE (cxS CX P w K mg base N qual scope f cc (.ref cda) A outer s H E) (.JoinedStr parts jp) te ∧ PSs (cxS CX P w K mg base N qual scope f cc (.ref cda) A outer s H E) rest t ∧
        (∃ a, vs[0]? = some (.ref a) ∧ H a = some (exo a C none)) ∧ tSeq (tSup C te) t { nx := fun _ H' => Q .non H', rt := Q } (vs.map some) H) :
    FnOk P w K mg base CX (k + 1) f (PySem.W.ksFn name qual params body scope dV kV doc pm an (.ref cda) ct cc) N sp := by
  refine ⟨len, fun A outer s H args us vs Q E hr e0 hb r hsp => ?_⟩
  have hl := len _ _ _ _ hsp
  have KX : K.In s.heap := e0.mod.kin.keeps fun b o e => (e0.bs b o e).1
  have lim : s.heap.NoLimit := e0.mod.nolimit.keeps fun b o e => (e0.bs b o e).1
  obtain ⟨cl, cld, csl, hcell⟩ := T.cell
  obtain ⟨ccl, cdd, vsC, ccs, file, tf, hcode, hvs2, hfile⟩ := T.code
  obtain ⟨nm, q, Nc, bs, bm, sn, sub, ab, col, dd, k0, k1, k2, k3, k5, hC, hbm⟩ := T.oex.cls
  obtain ⟨te, t, hpe, hps, ⟨a, ha0, hea⟩, hq⟩ := hbody A outer s H vs Q E (hr.deeper _) hsp
  refine ks_codeAny_call_defAt (fd := PySem.W.ksFn name qual params body scope dV kV doc pm an (.ref cda) ct cc) (body := body) (binds := N.zip us) hr.depth (KX _ _ lk) rfl lim (PySem.W.codeRec_of KX hcd) rfl hb S.nocell (fun y hy => S.par y.1 (List.of_mem_zip (a := y.1) (b := y.2) hy).1) (fun h1 hns hk => ?_) S.co S.gen S.kind
  have I : Inv (cxS CX P w K mg base N qual scope f cc (.ref cda) A outer s H E) [] (vs.map some) H { s with heap := h1, toks := s.toks + (N.zip us).length } := inv_s S hr.hd e0 hl r hcell hns hk
  subst hbd
  subst hN
  have ka0 : ∃ u0 us', us = u0 :: us' := by
    cases us with
    | nil => have q := r.length; rw [hl] at q; exact absurd q (by simp)
    | cons u0 us' => exact ⟨u0, us', rfl⟩
  obtain ⟨u0, us', rfl⟩ := ka0
  have hu0 : u0 = Value.ref a := by
    cases r with
    | cons r0 rt =>
      rw [List.getElem?_cons_zero] at ha0
      cases ha0
      exact r0
  subst hu0
  have hL : ((self :: N').zip (Value.ref a :: us')).reverse.lookup self = some (Value.ref a) := rev_get (by rw [← r.length]; exact hl.symm) S.nd (i := 0) rfl rfl
  have hself : scope.names.lookup self = some .local := S.par self List.mem_cons_self
  have hne : a ≠ C := fun z => by
    obtain ⟨t1, ho⟩ := exo_at e0.hok hea
    rw [z, KX _ _ hC] at ho
    cases ho
  generalize hs1 : s.toks + ((self :: N').zip (Value.ref a :: us')).length = tk1 at I ⊢
  obtain ⟨hp0, g, d, tk, os⟩ := s
  let env := PySem.W.ksEnv qual scope hp0.objs.size f (.ref cda) cc
  show PySem.wpAt (model P w) (A.deeper env) (.func (.Expr (.Call (.Attribute (.Call (.Name "super" p0) [] [] p1) "__init__" p2) [.JoinedStr parts jp] [] p3) p4 :: rest) env) (execs (.Expr (.Call (.Attribute (.Call (.Name "super" p0) [] [] p1) "__init__" p2) [.JoinedStr parts jp] [] p3) p4 :: rest) env) _ _ _
  have hint : interactive env = false := by
    unfold interactive
    rw [show env.scope.kind = ScopeKind.function from S.kind]
    rfl
  refine ks_wpAt_execs_cons (ks_wpAt_Expr_any (ks_wpAt_MethodCall (pl := pl) ?_ (hcall env)) hint (hsw env))
  · refine ks_wpAt_super_base (env := env) S.sup S.cls (by decide) rfl (hk _ _ (KX _ _ lk)) rfl hpar rfl (hk _ _ (KX _ _ hcode)) rfl hvs2 hfile T.noTop ?_
    obtain ⟨mb, hb1, hb2⟩ := I.mod.blt
    have hbs : mb ("super" : Str) = some (.type "super") := (hb2 _ (by decide)).trans (by decide +kernel)
    refine PySem.W.ks_loadName_global (env := env) S.kind S.sup (Calls.loadGlobal_builtin (env := env) (I.mod.glob.keeps I.bk) T.noMg (hb1.keeps I.bk) hbs ⟨rfl, ?_⟩)
    refine wpAny_loadName_free (env := env) S.kind S.cls rfl ⟨_, hk _ _ (KX _ _ hcell), rfl⟩ ?_
    rw [har]
    refine wpAny_loadName_local (env := env) S.kind hself hns hL ?_
    have KX1 : K.In h1 := KX.keeps hk
    have hC1 := KX1 _ _ hC
    obtain ⟨t1, hx1⟩ := exo_at I.hok hea
    have hcl : PySem.W.clsIn K C = some { name := nm, bases := bs, mro := .ref C :: bm, ns := Nc, qualname := q, hasDict := true, slotNames := sn, subclasses := sub, abstract := ab, collection := col, hasDel := false } := by unfold PySem.W.clsIn; rw [hC] <;> rfl
    have hsup := T.sup
    unfold PySem.W.ks_superIn at hsup
    rw [hcl] at hsup
    refine ks_wpAny_isType_cls hC1 rfl ⟨rfl, ?_⟩
    refine ks_wpAny_call_super hC1 rfl hx1 rfl (fun c z => by cases z) (PySem.W.looks_mroIn KX1 T.sub) (fun h2 e2 k2 => ?_)
    have I1 : Inv (cxS CX P w K mg base (self :: N') qual scope f cc (.ref cda) A outer ⟨hp0, g, d, tk, os⟩ H E) [] (vs.map some) H ⟨h2, g, d, tk1, os⟩ := I.kept (t' := tk1) k2
    have KX2 : K.In h2 := KX1.keeps k2
    have J2 : PySem.W.InstAt h2 a ({ cls := .ref C, dict := none, data := .fields #[.ref t1, .none, .none, .none, .bool false, .none] } : Obj) C none := ⟨k2 _ _ hx1, rfl, rfl, trivial⟩
    refine PySem.W.kxs_getMethod PySem.W.kxs_ValueError e2 (PySem.W.looks_opaque KX2 T.any) (fun A Q E s k q => wpAny_bind ((PySem.W.looks_clsIn KX2 hcl) A _ E s k (wpAny_pure q))) rfl KX2 hsup (J2.type.andThen (PySem.W.looks_subIn KX2 T.subV)) hne (by decide) ?_
    have fp := I1.fpOk (b := h2.objs.size) (H' := H) (Nat.le_refl _) (I1.hok.fresh (Nat.le_refl _))
    have I2 : Inv (cxS CX P w K mg base (self :: N') qual scope f cc (.ref cda) A outer ⟨hp0, g, d, tk, os⟩ H E) [(h2.objs.size, PySem.W.kxs_mw "ValueError.__init__" a)] (vs.map some) H ⟨h2.push (PySem.W.kxs_mw "ValueError.__init__" a), g, d, tk1 + 1, os⟩ :=
      (I1.kept (t' := tk1 + 1) (h' := h2.push (PySem.W.kxs_mw "ValueError.__init__" a)) fun b o z => Heap.get?_push_of_some _ z).pins_of fun p hp => by
        have ep : p = (h2.objs.size, PySem.W.kxs_mw "ValueError.__init__" a) := by simpa using hp
        subst ep
        exact ⟨Heap.get?_push_at rfl rfl, fp.1, fp.2.1, fp.2.2.1, fun v z => by cases z⟩
    have hst : starEach [Expr.JoinedStr parts jp] env = (false, eval (.JoinedStr parts jp) env) :: starEach [] env := rfl
    rw [hst]
    refine PySem.W.kxs_callWith (i := "ValueError.__init__") (x := a) (by rfl) (Calls.evalArgs_plain ?_)
    refine Calls.spliced_cons (thn (hpe.run [(h2.objs.size, PySem.W.kxs_mw "ValueError.__init__" a)] _ (vs.map some) H _ I2 hq) fun u1 s3 hh => Calls.spliced_nil ?_)
    obtain ⟨v1, H3, I3, r3, ⟨a', ea', hea3⟩, q3⟩ := hh
    have ea2 : a' = a := by
      rw [List.getElem?_map, ha0] at ea'
      cases ea'
      rfl
    subst ea2
    have hu3 : s3.heap.get? h2.objs.size = some (PySem.W.kxs_mw "ValueError.__init__" a') := (I3.pin (h2.objs.size, PySem.W.kxs_mw "ValueError.__init__" a') (by simp)).1
    refine ⟨hu3, ?_⟩
    obtain ⟨t3, hx3⟩ := exo_at I3.hok hea3
    have KX3 := I3.kIn
    have hlen1 : [u1].length ≤ sizeLine := by
      rw [sizeLine_eq]
      exact (by decide : 1 ≤ 16777216)
    obtain ⟨hp3, g3, d3, tk3, os3⟩ := s3
    refine call_bv (KX3 _ _ hC) hx3 hu3 hlen1 fun h4 t4 k4 hx4 => ?_
    have J := I3.write (t' := tk3) (x := a') (e := a') (o := exo a' C none) (by rw [hea3]; exact True.intro) (.inl rfl) k4 ⟨_, hx4⟩ (exo_ok hx4)
    have eu : upd H3 a' (exo a' C none) = H3 := by
      funext b
      by_cases hb : b = a'
      · rw [hb, upd_same, hea3]
      · rw [upd_ne hb]
    rw [eu] at J
    have J0 : Inv (cxS CX P w K mg base (self :: N') qual scope f cc (.ref cda) A outer ⟨hp0, g, d, tk, os⟩ H E) [] (vs.map some) H3 ⟨h4, g3, d3, tk3, os3⟩ := Inv.unpinned (pins := []) J
    refine PySem.wpAt_of_wpAny ?_
    refine wpAny_mono (hps.run [] _ (vs.map some) H3 _ J0 q3) (fun fl s' hs => ?_) fun e s' hs => hs
    have fin : ∀ {σ' : L2.St} {H' : Hp} {v : V} {u : Value}, Inv (cxS CX P w K mg base (self :: N') qual scope f cc (.ref cda) A outer ⟨hp0, g, d, tk, os⟩ H E) [] σ' H' s' → RelV v u → Q v H' → CE outer P w H ⟨hp0, g, d, tk, os⟩ Q u s' :=
      fun {σ' H' v u} J rv q => ⟨v, H', J.os, J.bare, J.base, J.hok, rv, q⟩
    cases fl with
    | ret u =>
      obtain ⟨v, σ', H', J, rv, q⟩ := hs
      exact fin J rv q
    | next =>
      obtain ⟨σ', H', J, q⟩ := hs
      exact fin (v := V.non) (u := Value.none) J rfl q
    | brk =>
      obtain ⟨_, _, _, q⟩ := hs
      exact False.elim q
    | cont =>
      obtain ⟨_, _, _, q⟩ := hs
      exact False.elim q
end Vk
set_option Elab.async false
set_option linter.all false
set_option maxRecDepth 100000
set_option maxHeartbeats 4000000
/-! set(text) and len(set(text)), whatever the text -/
namespace Vk
open PySem PySem.Spec PyProof.Rows L2

/-- the different codes, in the order in which they are met -/
def met : List Nat → List Nat
  | [] => []
  | c :: r => if (met r).contains c then met r else c :: met r
def metAt (l : List Nat) (i : Nat) : List Nat := met (l.take i).reverse
theorem metAt_succ {l : List Nat} {i c : Nat} (h : l[i]? = some c) : metAt l (i + 1) = if (metAt l i).contains c then metAt l i else c :: metAt l i := by
  unfold metAt
  have e : l.take (i + 1) = l.take i ++ [c] := by
    rw [List.take_add_one, h]
    rfl
  rw [e, List.reverse_append]
  rfl
theorem met_len : ∀ l : List Nat, (met l).length ≤ l.length
  | [] => Nat.le_refl _
  | c :: r => by
    have ih := met_len r
    unfold met
    split
    · exact Nat.le_succ_of_le ih
    · simp only [List.length_cons]
      omega
theorem mem_met : ∀ (l : List Nat) (c : Nat), c ∈ met l ↔ c ∈ l
  | [], c => Iff.rfl
  | a :: r, c => by
    have ih := mem_met r
    unfold met
    by_cases h : (met r).contains a = true
    · rw [if_pos h, ih]
      have ha : a ∈ r := (ih a).mp (by simpa using h)
      constructor
      · exact fun q => List.mem_cons_of_mem _ q
      · intro q
        rcases List.mem_cons.mp q with rfl | q
        · exact ha
        · exact q
    · rw [if_neg h]
      simp only [List.mem_cons, ih]
theorem met_full : ∀ l : List Nat, (met l).length = l.length ↔ l.Nodup
  | [] => by simp [met]
  | a :: r => by
    have ih := met_full r
    have hl := met_len r
    unfold met
    by_cases h : (met r).contains a = true
    · rw [if_pos h]
      have ha : a ∈ r := (mem_met r a).mp (by simpa using h)
      constructor
      · intro e
        simp only [List.length_cons] at e
        omega
      · intro q
        exact absurd ha (List.nodup_cons.mp q).1
    · rw [if_neg h]
      have ha : a ∉ r := fun q => h (by simpa using (mem_met r a).mpr q)
      simp only [List.length_cons, List.nodup_cons, ha, not_false_eq_true, true_and, Nat.add_right_cancel_iff]
      exact ih
theorem nodup_rev {l : List Nat} : l.reverse.Nodup ↔ l.Nodup := by
  refine (List.pairwise_reverse (R := fun a b : Nat => a ≠ b)).trans ?_
  exact ⟨fun h => h.imp Ne.symm, fun h => h.imp Ne.symm⟩
theorem metAt_end (l : List Nat) : (metAt l l.length).length = l.length ↔ l.Nodup := by
  unfold metAt
  rw [List.take_length]
  have h := met_full l.reverse
  rw [List.length_reverse] at h
  exact h.trans nodup_rev
/-- the set of the signs met -/
def metS (l : List Nat) (i : Nat) : Str → Bool := fun k => (metAt l i).any fun c => decide (k = (⟨#[c]⟩ : Str))
theorem metS_mem {l : List Nat} {i c : Nat} : metS l i ⟨#[c]⟩ = (metAt l i).contains c := by
  unfold metS
  rw [Bool.eq_iff_iff, List.any_eq_true]
  constructor
  · rintro ⟨d, hd, e⟩
    have e1 : [c] = [d] := congrArg (fun y : Str => y.cps.toList) (of_decide_eq_true e)
    have e2 : c = d := (List.cons.inj e1).1
    simpa [e2] using hd
  · intro h
    exact ⟨c, by simpa using h, by simp⟩
theorem metS_step {l : List Nat} {i c : Nat} (h : l[i]? = some c) (k : Str) : (metS l i k || decide (k = (⟨#[c]⟩ : Str))) = metS l (i + 1) k := by
  unfold metS
  rw [metAt_succ h]
  by_cases q : (metAt l i).contains c = true
  · rw [if_pos q]
    by_cases e : k = (⟨#[c]⟩ : Str)
    · subst e
      have := metS_mem (l := l) (i := i) (c := c)
      unfold metS at this
      rw [this, q]
      rfl
    · simp [e]
  · rw [if_neg q, List.any_cons, Bool.or_comm]
theorem metN_step {l : List Nat} {i c : Nat} (h : l[i]? = some c) : (if metS l i ⟨#[c]⟩ = true then (metAt l i).length else (metAt l i).length + 1) = (metAt l (i + 1)).length := by
  rw [metAt_succ h, metS_mem]
  split
  · rfl
  · rfl

section
variable {prog : Program} {w : World} {A : Around} {R : Result → Shared → Prop} {I : Addr} {fp wr : List Addr} {G : Array GenState → Array GenState → Prop} {P : Nat → Value → Prop} {St : Nat → Shared → Prop}
theorem upd_text {l : List Nat} (W : WalksS prog w A.in1 I fp wr G l.length P St) (S : Addr) (hSf : S ∉ fp)
    (hval : ∀ i v, P i v → ∃ c t, l[i]? = some c ∧ v = .str ⟨#[c]⟩ t) (hb : l.length + 1 < scanBound) :
    ∀ (k i : Nat) (s : Shared), l.length - i = k → i ≤ l.length → St i s → s.heap.SetOf (strKind prog w) S (metS l i) (metAt l i).length →
      (∀ s', Moved (S :: wr) G s s' → s'.heap.SetOf (strKind prog w) S (metS l l.length) (metAt l l.length).length → R (.ok (.ret .none)) s') → codeAny (model prog w) A (.builtin "set.update.loop" ⟨[.ref S, .ref I], []⟩) R s := by
  have hSw : S ∉ wr := fun h => hSf (W.sub _ h)
  have hsub : ∀ b ∈ wr, b ∈ S :: wr := fun b hb => List.mem_cons_of_mem _ hb
  intro k
  induction k with
  | zero =>
    intro i s hk hi hst hS hR
    obtain rfl : i = l.length := by omega
    refine codeAny_builtin PyProof.Rows.F.entry_set_update_loop ?_
    rw [Around.under_plainId PyProof.Rows.F.plain_set_update_loop _]
    show wpAny _ A.in1 (pyNext (.ref I) >>= _) _ _ s
    refine wpAny_bind (W.done s _ _ hst fun s1 hm => ?_)
    show wpAny _ A.in1 (ret Value.none) _ _ s1
    refine wpAny_pure (hR s1 (hm.mono hsub) ?_)
    obtain ⟨o, es, ep, t, ho, more⟩ := hS
    exact ⟨o, es, ep, t, hm.heap S _ hSw ho, more⟩
  | succ k ih =>
    intro i s hk hi hst hS hR
    have hlt : i < l.length := by omega
    refine codeAny_builtin PyProof.Rows.F.entry_set_update_loop ?_
    rw [Around.under_plainId PyProof.Rows.F.plain_set_update_loop _]
    show wpAny _ A.in1 (pyNext (.ref I) >>= _) _ _ s
    refine wpAny_bind (W.item i s _ _ hlt hst fun v s1 hP hst1 hm => ?_)
    obtain ⟨c, t, hc, rfl⟩ := hval i v hP
    have hS1 : s1.heap.SetOf (strKind prog w) S (metS l i) (metAt l i).length := by
      obtain ⟨o, es, ep, tb, ho, more⟩ := hS
      exact ⟨o, es, ep, tb, hm.heap S _ hSw ho, more⟩
    show wpAny _ A.in1 (holding [Value.str ⟨#[c]⟩ t] (setAdd S (.str ⟨#[c]⟩ t)) >>= _) _ _ s1
    refine wpAny_bind (wpAny_holding ?_)
    unfold setAdd
    refine wpAny_holding (wpAny_bind ((strKind prog w).pyHash (k := ⟨#[c]⟩) (strKind_is _ _ _ _) ?_))
    have hroom : (metAt l i).length + 1 < scanBound := by
      have h1 := met_len (l.take i).reverse
      rw [List.length_reverse, List.length_take] at h1
      have h2 : (metAt l i).length ≤ min i l.length := h1
      omega
    refine wpAny_setAddHashed_of (knd := strKind prog w) (s := { s1 with toks := s1.toks + 1 }) (strKind_is _ _ _ _) rfl hS1 hroom fun h2 hsb hS2 => ?_
    have hSi : h2.SetOf (strKind prog w) S (metS l (i + 1)) (metAt l (i + 1)).length := SetOf_congr hS2 (fun y => metS_step hc y) (metN_step hc)
    refine wpAny_pure ⟨plainId_quiet PyProof.Rows.F.plain_set_update_loop _, ih (i + 1) _ (by omega) hlt (W.frame _ s1 _ _ hst1 (Nat.le_succ _) fun b hb o e => ?_) hSi fun s3 hm3 hS3 => ?_⟩
    · rw [hsb.2 b (fun z : b = S => hSf (by rw [← z]; exact hb))]
      exact e
    · refine hR s3 (Moved.trans W.gtrans ((hm.mono hsub).then_heap (Nat.le_succ _) fun b o hb e => ?_) hm3) hS3
      rw [hsb.2 b (fun z : b = S => hb (by rw [z]; exact List.mem_cons_self))]
      exact e
end

section
variable {prog : Program} {w : World} {A : Around} {E : Value → Shared → Prop} {s : Shared}
theorem call_set_text {x : Str} {t : Tok} {Q : Value → Shared → Prop} (hh : A.handled = none) (hb : x.cps.size + 1 < scanBound)
    (h : ∀ (h2 : Heap) (tk : Nat), h2.SetOf (strKind prog w) s.heap.objs.size (metS x.cps.toList x.cps.size) (metAt x.cps.toList x.cps.size).length →
      (∀ b o, b < s.heap.objs.size → s.heap.get? b = some o → h2.get? b = some o) → Q (.ref s.heap.objs.size) { s with heap := h2, toks := tk }) :
    wpAny (model prog w) A (call (.type "set") [.str x t]) Q E s := by
  obtain ⟨c, tl, hmro⟩ := PySem.F.called_set.mro
  have hmade := PySem.F.called_set.made
  have hsub := PySem.F.called_set.sub
  refine wpAny_call (codeAny_of_tree ?_)
  show wpAny _ _ (callAny (.type "set") _) _ _ _
  refine wpAny_pure ⟨Code.quiet_builtin _ (by decide +kernel), codeAny_builtin PySem.F.entry_type_call ?_⟩
  rw [Around.under_plain (weight_type_call_type "set" [.str x t] []) rfl]
  have h1 := PySem.F.called_set.notType
  have h2 := PySem.F.called_set.canCreate
  have hct := PySem.F.typeCall_set_1 (.str x t)
  repeat (any_goals (first | assumption | wp_step))
  refine codeAny_mono (code_set_new_1 (.str x t) (E := E) (Q₁ := fun obj s₁ => ∃ led : Bool, obj = .ref s.heap.objs.size ∧ s₁ = { s with heap := s.heap.push { cls := .type "set", dict := none, data := .set #[] 0 (.fresh 0 0 led) } }) fun led => ⟨led, rfl, rfl⟩) fun r s₁ hr => ?_
  cases r with
  | error e => exact hr
  | ok fl =>
    cases fl with
    | ret obj =>
      obtain ⟨led, rfl, rfl⟩ := hr
      have hS : (s.heap.push { cls := .type "set", dict := none, data := .set #[] 0 (.fresh 0 0 led) }).get? s.heap.objs.size = some { cls := .type "set", dict := none, data := .set #[] 0 (.fresh 0 0 led) } := Heap.get?_push_size _ rfl
      have hT : Shared.TypeIs { s with heap := s.heap.push { cls := .type "set", dict := none, data := .set #[] 0 (.fresh 0 0 led) } } (.ref s.heap.objs.size) "set" := ⟨_, hS, rfl⟩
      have hli := PySem.F.called_set.init.lookup
      have hbi := PySem.F.called_set.init.bind (.ref s.heap.objs.size)
      repeat (any_goals (first | assumption | wp_step))
      refine codeAny_mono (codeAny_call_builtin (R := wants (fun r s₂ => r = .none ∧ ∃ h2 tk, s₂ = { s with heap := h2, toks := tk } ∧
          h2.SetOf (strKind prog w) s.heap.objs.size (metS x.cps.toList x.cps.size) (metAt x.cps.toList x.cps.size).length ∧
          (∀ b o, b < s.heap.objs.size → s.heap.get? b = some o → h2.get? b = some o)) E) PySem.F.called_set.init.plain PySem.F.entry_set_init (check_set_init_1 hT ?_)) fun r₂ s₂ hr₂ => ?_
      · unfold Builtin.«set.__init__» noKeywords Builtin.Frozenset.updateFrom
        generalize hPI : pyIter = PI
        have hTx : Shared.TypeIs { s with heap := s.heap.push { cls := .type "set", dict := none, data := .set #[] 0 (.fresh 0 0 led) } } (.str x t) "str" := rfl
        have hsS : isSubtype (.type "str") (.type "set") = pure false := by rw [isSubtype_type]; kernel_rfl
        have hsF : isSubtype (.type "str") (.type "frozenset") = pure false := by rw [isSubtype_type]; kernel_rfl
        have hne : (Value.type "str" == Value.type "dict") = false := by decide
        wp_walk
        subst hPI
        refine wpAny_pyIter_str fun o St W hst => wpAny_bind (wpAny_runValue ?_)
        generalize hH : s.heap.push { cls := .type "set", dict := none, data := .set #[] 0 (.fresh 0 0 led) } = Hq at W hst hS ⊢
        have hHs : Hq.objs.size = s.heap.objs.size + 1 := by rw [← hH, Heap.size_push]
        have hSf : s.heap.objs.size ∉ [Hq.objs.size] := fun hm => by
          rw [List.mem_singleton] at hm
          omega
        have hh3 : A.in1.in1.in1.handled = none := by simp [hh]
        refine upd_text (l := x.cps.toList) ((W A.in1.in1.in1 hh3).toS) s.heap.objs.size hSf (fun i v hv => ?_) hb (x.cps.toList.length - 0) 0 _ (by omega) (Nat.zero_le _) hst ?_ ?_
        · obtain ⟨c, u, hc, e⟩ := hv
          exact ⟨c, u, by rw [Array.getElem?_toList]; exact hc, e⟩
        · exact SetOf_congr ((PyProof.Rows.setObjOf_fresh (knd := strKind prog w) led).setOf (Heap.get?_push_of_some _ hS) (by unfold scanBound; omega)) (fun _ => rfl) rfl
        · intro s1 hm hS1
          obtain ⟨h2, g2, d2, tk2, os2⟩ := s1
          have eg : g2 = s.gens := hm.gens
          have ed : d2 = s.drawn := hm.drawn
          have eo : os2 = s.os := hm.os
          subst eg; subst ed; subst eo
          show wpAny _ _ _ _ _ _
          refine wpAny_pure ?_
          show wpAny _ _ (ret Value.none) _ _ _
          refine wpAny_pure ⟨rfl, h2, tk2, rfl, hS1, fun b o hb2 e => hm.heap b o (fun z => ?_) (Heap.get?_push_of_some _ (by rw [← hH]; exact Heap.get?_push_of_some _ e))⟩
          rcases List.mem_cons.mp z with z | z
          · rw [z] at hb2
            exact Nat.lt_irrefl _ hb2
          · rw [List.mem_singleton] at z
            rw [z, hHs] at hb2
            exact Nat.not_succ_lt_self hb2
      · cases r₂ with
        | error e => exact hr₂
        | ok fl₂ =>
          cases fl₂ with
          | ret r =>
            obtain ⟨rfl, h2, tk, rfl, hS', hk'⟩ := hr₂
            repeat (any_goals (first | assumption | wp_step))
            exact h _ _ hS' hk'
          | _ => exact hr₂.elim
    | _ => exact hr.elim
end

/-- len(set(x)), x a text -/
def tLenSetT (ta : TE) : TE := fun σ H Q => ta σ H fun x H1 => ∃ z : Str, x = .str z ∧ z.length ≤ 4000 ∧ Q (.int ((metAt z.cps.toList z.cps.toList.length).length : Nat)) H1
theorem pe_lenSetT {X : Cx} {a : Expr} {ta : TE} {p p2 q pos : Pos} (hg : Gl X "len") (hm : X.mg "len" = none) (hg2 : Gl X "set") (hm2 : X.mg "set" = none) (ha : PE X a ta) (hc : X.calm = true := by rfl)
    (na : starEach [a] X.env = (false, eval a X.env) :: starEach [] X.env := by rfl) : PE X (.Call (.Name "len" p) [.Call (.Name "set" p2) [a] [] q] [] pos) (tLenSetT ta) := by
  refine ⟨fun pins s σ H Q I h => ?_⟩
  refine Call_ (ld_blt I hg hm boot_len (PyProof.Rows.callWith_builtin1 (PyProof.Rows.args_cons ?_ rfl) rfl rfl))
  refine Call_ (ld_blt I hg2 hm2 boot_set ?_)
  refine PyProof.Rows.callWith_type1 (PyProof.Rows.args_cons (thn (ha.run pins s σ H _ I h) fun v s1 hh => PyProof.Rows.args_nil ?_) na) na rfl
  obtain ⟨x, H1, I1, r1, z, rfl, hz, q1⟩ := hh
  obtain ⟨t, rfl⟩ := r1
  have hz2 : z.cps.size ≤ 4000 := hz
  refine call_set_text (I1.ok.hd hc) (by unfold scanBound; omega) fun h2 tk hS hk => PyProof.Rows.args_nil ?_
  obtain ⟨o, es, ep, tb, ho, hex, hd, _, _, _, hf, hn⟩ := hS
  have I2 : Inv X pins σ H1 { s1 with heap := h2, toks := tk } := I1.kept fun b o e => hk b o (Heap.lt_size e) e
  have hle : (metAt z.cps.toList z.cps.size).length ≤ z.cps.size := by
    have h1 := met_len (z.cps.toList.take z.cps.size).reverse
    rw [List.length_reverse, List.length_take] at h1
    exact Nat.le_trans h1 (Nat.min_le_left _ _)
  exact call_len_set ho hex hd hf (by rw [hn]; omega) ⟨.int ((metAt z.cps.toList z.cps.toList.length).length : Nat), H1, I2.tok _, ⟨_, by rw [hn]; rfl⟩, q1⟩
end Vk
set_option Elab.async false
set_option linter.all false
set_option maxRecDepth 100000
set_option maxHeartbeats 4000000
/-! sorted(text): the signs of a text in order; list(text) -/
namespace Vk
open PySem PySem.Spec PyProof.Rows L2
def signsOf (z : Str) : List Str := z.cps.toList.map fun c => (⟨#[c]⟩ : Str)
theorem signs_strs {z : Str} {acc : Array Value} (h : ItemsOf (SignAt z) acc z.cps.size) : StrsAre acc.toList (signsOf z) := by
  have hsz : acc.size = z.cps.size := h.1
  have hL : acc.toList.length = (signsOf z).length := by
    rw [Array.length_toList, hsz]
    unfold signsOf
    rw [List.length_map, Array.length_toList]
  refine strs_at hL fun j v e => ?_
  have e1 : acc[j]? = some v := by rw [← Array.getElem?_toList]; exact e
  obtain ⟨c, u, hc, ev⟩ := h.2 j v e1
  refine ⟨⟨#[c]⟩, u, ?_, ev⟩
  unfold signsOf
  rw [List.getElem?_map, Array.getElem?_toList, hc]
  rfl
section
variable {X : Cx}
def rSortT : List V → Hp → VK → Prop := fun vs H Q => ∃ z : Str, vs = [.str z] ∧ z.length < 64 ∧
  ∀ ys p, ys.Perm (signsOf z) → sortedS ys = true → H p = none → Q (.ref p) (upd H p (.lst (ys.map V.str)))
theorem cr_sortT (hcalm : X.calm = true) : CallR X (.builtin "sorted") rSortT := by
  intro pins s σ H xs us Q I r q
  obtain ⟨z, ex, h64, q⟩ := q
  subst ex
  obtain ⟨u, eu, rx⟩ := vals1 r
  subst eu
  obtain ⟨t, rfl⟩ := rx
  have hz2 : z.cps.size < 64 := h64
  refine Calls.call_function_entry PyProof.Rows.kind_sorted PyProof.Rows.plain_sorted PyProof.Rows.entry_sorted (PyProof.Rows.args_sorted1 _) ?_
  unfold Builtin.«sorted»
  refine wpAny_bind (m := checkCount "sorted" 1 1 _) (wpAny_pure ?_)
  refine wpAny_bind (wpAny_collect_str (A := X.A.in1) (I.ok.hd hcalm) z t (fun s1 acc hk hg hd ho hacc => ?_) (by rw [sizeLine_eq]; omega))
  obtain ⟨h1, g1, d1, tk1, os1⟩ := s1
  have eg : g1 = s.gens := hg
  have ed : d1 = s.drawn := hd
  have eo : os1 = s.os := ho
  subst eg; subst ed; subst eo
  have hS := signs_strs hacc
  have hal : acc.toList.length = z.cps.size := by rw [Array.length_toList]; exact hacc.1
  have I1 : Inv X pins σ H { s with heap := h1, toks := tk1 } := I.kept hk
  refine wpAny_bind (wpAny_newList ?_ (by rw [hal, sizeLine_eq]; omega))
  have hoL : (h1.push (seqObj "list" acc.toList.toArray 0)).get? h1.objs.size = some (seqObj "list" acc.toList.toArray 0) := Heap.get?_push_size _ rfl
  show wpAny _ _ _ _ _ { s with heap := h1.push (seqObj "list" acc.toList.toArray 0), toks := tk1 }
  refine wpAny_bind (wpAny_holding (wpAny_call_entry PyProof.Rows.slot_list_sort ⟨_, hoL, rfl⟩ PyProof.Rows.entry_list_sort
    (list_sort_treeK strKind_oneLt (s := { s with heap := h1.push (seqObj "list" acc.toList.toArray 0), toks := tk1 }) hoL hS.keysOf (fun v₁ v₂ more e => keyKind_strs (by rw [← e]; exact hS)) (by rw [hal]; exact hz2) fun st2 hp hs => ⟨_, rfl, ?_⟩)
    (PyProof.Rows.args_list_sort _)))
  obtain ⟨ys, g1, g2, g3⟩ := sorted_out_str hS hp hs
  obtain ⟨e', he'⟩ := PyProof.Rows.sortedHeap_at (vs := acc.toList) (out := (arrOf st2).map (·.2)) hoL
  have hlen : (ys.map V.str).length ≤ sizeLine := by
    rw [List.length_map, g2.length_eq]
    unfold signsOf
    rw [List.length_map, Array.length_toList, sizeLine_eq]
    omega
  refine wpAny_pure ⟨_, rfl, .ref h1.objs.size, upd H h1.objs.size (.lst (ys.map V.str)), I1.laid (t' := tk1) (fun b u e => ?_) (Nat.le_refl _)
    (show ObjOk X.prog X.w _ _ _ (.lst (ys.map V.str)) from ⟨hlen, ((arrOf st2).map (·.2)).toList, e', vals_of_strs g1, by rw [Array.toArray_toList]; exact he'⟩), rfl, q ys _ g2 g3 (I1.hok.fresh (Nat.le_refl _))⟩
  have hb : b < h1.objs.size := Heap.lt_size e
  rw [PyProof.Rows.sortedHeap_old (Nat.ne_of_lt hb) (by rw [size_push']; exact Nat.lt_succ_of_lt hb)]
  exact Heap.get?_push_of_some _ e
/-- list(x), x a text -/
def rListT : List V → Hp → VK → Prop := fun vs H Q => ∃ z : Str, vs = [.str z] ∧ z.length ≤ 4000 ∧ ∀ p, H p = none → Q (.ref p) (upd H p (.lst ((signsOf z).map V.str)))
end
/-! sorted texts: two arrangements of the same texts are one -/
theorem lt_irr (a : List Nat) : ltCps a a = false := by
  rw [ltCps_eq]
  exact decide_eq_false (List.lt_irrefl a)
end Vk
set_option Elab.async false
set_option linter.all false
set_option maxRecDepth 100000
set_option maxHeartbeats 4000000
namespace Vk
open PySem PySem.Spec PyProof.Rows L2
/-! isinstance of a caught error that has a dict -/
section
open PySem.W
variable {prog : Program} {w : World} {A : Around} {E : Value → Shared → Prop} {s : Shared} {K : Frag} {x D : Addr} {ox od : Obj}
theorem cls_of_exc {Q : Option Value → Shared → Prop} (T : ExcC K D) (X : K.In s.heap) (I : InstAt s.heap x ox D (some od)) (h : Q (some (.ref D)) { s with toks := s.toks + 1 }) : wpAny (model prog w) A (getAttr? (.ref x) "__class__") Q E s := by
  have hf : findObj K D (some od) "__class__" = some (.bind (.builtin "getset_descriptor.__get__") (.builtin "object.__class__")) :=
    findObj_data (by obtain ⟨cd, hc, _⟩ := any_some T.hd; rw [hc]; rfl) T.ha T.hn T.ht
  obtain ⟨hp, g, d, t, os⟩ := s
  have K0 := I.type (M := model prog w)
  have K1 := looks_findIn (M := model prog w) X T.hg
  have K2 := looks_findIn (M := model prog w) X T.hk
  have K3 := looks_find (M := model prog w) X I hf
  have sub : Looks (model prog w) hp (isInstance (.ref x) (.type "BaseException")) true := K0.andThen (looks_subIn X T.hs)
  have q0 : (false && onTheHeap (Value.builtin "BaseException.__getattribute__")) = false := rfl
  have q2 : (Value.builtin "BaseException.__getattribute__" == Value.builtin "object.__getattribute__") = false := by decide +kernel
  have q1 : (onTheHeap (Value.ref D) && Value.builtin "BaseException.__getattribute__" == Value.builtin "object.__getattribute__") = false := by rw [q2]; rfl
  unfold getAttr? getAttrBy? getAttrBy
  refine wpAny_bind (wpAny_mkText (wpAny_bind (wpAny_attempt (wpAny_holding (wpAny_bind (K0.at (wpAny_bind (K1.at ?_))))))))
  show wpAny _ _ (if (onTheHeap (Value.ref D) && Value.builtin "BaseException.__getattribute__" == Value.builtin "object.__getattribute__") = true then _ else _) _ _ _
  rw [q1, if_neg Bool.false_ne_true]
  unfold getAttrByItsOwn hookBefore
  refine wpAny_bind ?_
  rw [if_pos (show onTheHeap (Value.ref D) = true from rfl)]
  refine K2.at (wpAny_bind (wpAny_attempt (wpAny_holding ?_)))
  unfold callGetattribute
  rw [q0, if_neg Bool.false_ne_true]
  unfold boundAndCalled
  rw [PySem.F.excAttr_ValueError.ga.bind (.ref x)]
  refine wpAny_bind (wpAny_pure ?_)
  show wpAny _ _ (call (.builtin "BaseException.__getattribute__") [.ref x, .str "__class__" t]) _ _ _
  refine wpAny_call (codeAny_call_builtin PySem.F.excAttr_ValueError.ga.plain PySem.F.entry_bexc_ga ?_)
  refine @check_slot (model prog w) _ _ ⟨hp, g, d, t + 1, os⟩ "BaseException.__getattribute__" "BaseException" "__getattribute__" (.ref x) [.str "__class__" t] [] _ (by decide +kernel) (by decide +kernel) sub (PySem.F.args_bexc_ga (.ref x) (.str "__class__" t)) ?_
  unfold Builtin.«object.__getattribute__»
  refine wpAny_bind (wpAny_of_eq (a := ((Value.ref x : Value), [Value.str "__class__" t])) (by first | rfl | (simp only [slotArgs]; rfl)) ?_)
  refine wpAny_bind (wpAny_pure (wpAny_bind (K0.at (wpAny_bind (K3.at ?_)))))
  show wpAny _ _ (holding [Value.builtin "object.__class__"] (call (.builtin "getset_descriptor.__get__") [.builtin "object.__class__", .ref x, .ref D]) >>= ret) _ _ _
  refine wpAny_bind (wpAny_holding (wpAny_call (class_get (s := ⟨hp, g, d, t + 1, os⟩) (ox := ox) (od := some od) X I T.hm (wpAny_pure ?_))))
  show wpAny _ _ (handedOut (.ref D)) _ _ _
  rw [handedOut_of (v := .ref D) rfl]
  first
    | exact wpAny_pure (wpAny_pure h)
    | exact wpAny_pure h
    | exact wpAny_pure (wpAny_bind (wpAny_pure (wpAny_pure h)))
theorem kit_excD (T : ExcC K D) : KitX K (.ref x) (.ref D) (fun h => InstAt h x ox D (some od)) where
  ty := fun _ _ _ I => I.type
  it := fun _ _ X _ => by
    obtain ⟨cdD, hcD, _⟩ := any_some T.hd
    unfold clsIn at hcD
    split at hcD
    · rename_i c1 d1 cd1 sl1 ho
      intro A1 Q1 E1 s1 k q
      unfold isType loadHead
      exact wpAny_bind (wpAny_loadPart (k _ _ (X _ _ ho)) (wpAny_pure q))
    · cases hcD
  ne := fun h tp dd its n sl X htp => by
    obtain ⟨cdD, hcD, _⟩ := any_some T.hd
    refine Bool.eq_false_iff.mpr fun q => ?_
    have e : D = tp := Value.ref.inj (beq_iff_eq.mp q)
    subst e
    unfold clsIn at hcD
    split at hcD
    · rename_i c1 d1 cd1 sl1 ho
      have z := (X _ _ ho).symm.trans htp
      cases z
    · cases hcD
  ca := fun X I k => cls_of_exc T X I k
end
/-- the caught error at a, of the class at D, its dict at dd: it can be asked for its class -/
theorem exc_inst {X : Cx} {a D dd : Addr} {oe : Obj} {pn : List (Addr × Obj)} {pins : List (Addr × Obj)} {σ : L2.St} {H : Hp} {s : Shared} {fs : List (Str × V)} (hz : Zc (.ref D) (some dd) oe) (hf : ∃ vs, oe.data = .fields vs)
    (I : Inv (X.suite a ((a, oe) :: pn)) pins σ H s) (hd : H dd = some (.xd fs)) : ∃ od, PySem.W.InstAt s.heap a oe D (some od) := by
  obtain ⟨ha, _⟩ := I.pin (a, oe) (List.mem_append_left _ List.mem_cons_self)
  obtain ⟨vs, hv⟩ := hf
  have hx : ObjOk X.prog X.w H s.heap dd (.xd fs) := I.hok dd _ hd
  obtain ⟨mA, hns, hr⟩ := hx
  obtain ⟨od, ho, hl⟩ := lookIn_ns hns
  exact ⟨od, ha, hz.1, by unfold PySem.W.notCls; rw [hv] <;> rfl, by rw [hz.2]; exact ho⟩
/-- isinstance(e, c), isinstance(e, (c1, c2)) in the suite: t the class of e as a value -/
def rIsX (K : PySem.W.Frag) (a : Addr) (cls : Value) (d : Option Addr) : List V → Hp → VK → Prop := fun xs H Q =>
  ∃ (D dd : Addr) (fs : List (Str × V)), cls = .ref D ∧ d = some dd ∧ ExcC K D ∧ H dd = some (.xd fs) ∧
    ((∃ (c : V) (u : Value) (b : Bool), xs = [.ref a, c] ∧ ClsV c u ∧ PySem.W.kitOne K (.ref D) u = some b ∧ Q (.bl b) H) ∨
      ∃ (tp : Addr) (cs : List V) (us : List Value) (b : Bool), xs = [.ref a, .ref tp] ∧ H tp = some (.tup cs) ∧ Paired ClsV cs us ∧ PySem.W.kitAny K (.ref D) us = some b ∧ Q (.bl b) H)
theorem call_isX {X : Cx} {a : Addr} {cls : Value} {d : Option Addr} {oe : Obj} {pn : List (Addr × Obj)} (hz : Zc cls d oe) (hf : ∃ vs, oe.data = .fields vs) : CallR (X.suite a ((a, oe) :: pn)) (.builtin "isinstance") (rIsX X.K a cls d) := by
  intro pins s σ H xs us Q I r h
  obtain ⟨D, dd, fs, rfl, rfl, C, hd, h⟩ := h
  obtain ⟨od, J⟩ := exc_inst hz hf I hd
  rcases h with ⟨c, u, b, rfl, k, e, q⟩ | ⟨tp, cs, ws, b, rfl, hT, k, e, q⟩
  · obtain ⟨u1, u2, rfl, r1, r2⟩ := vals2 r
    cases (show u1 = Value.ref a from r1)
    have e2 := k.eq r2
    subst e2
    exact PySem.W.kia_one (kit_excD C) I.kIn J e (fun z => nomatch z) fun tk => ⟨.bl b, H, I.tok tk, rfl, q⟩
  · obtain ⟨u1, u2, rfl, r1, r2⟩ := vals2 r
    cases (show u1 = Value.ref a from r1)
    cases (show u2 = Value.ref tp from r2)
    obtain ⟨_, its, rv, o, h1, h2, n, h3⟩ := (show ObjOk X.prog X.w H s.heap tp (.tup cs) from I.hok tp _ hT)
    have e3 := ClsV.all k rv
    subst e3
    obtain ⟨oc, od', dt, sl⟩ := o
    simp only at h2 h3
    subst h2 h3
    exact PySem.W.kia_tup (kit_excD C) I.kIn J h1 e (fun z => nomatch z) fun tk => ⟨.bl b, H, I.tok tk, rfl, q⟩

/-! x == y by an own __eq__ -/
def rOwnI (K : PySem.W.Frag) (C : Addr) (sp : Sp) (E : XK) : R2 := fun x y H Q => ∃ a dx fs b C' dy gs, x = .ref a ∧ y = .ref b ∧ H a = some (.ins C dx fs) ∧ H b = some (.ins C' dy gs) ∧ PySem.W.notFirst K C (.ref C') = true ∧ sp [x, y] H Q E
section
variable {X : Cx} {CX : CXT} {k : Nat} {g C : Addr} {fd : FuncData} {ps : List Str} {sp : Sp} {E : XK}
theorem op_ownI {op : CmpOp} (hop : ∀ a b, compareOp op a b = richCompare op a b) (hs : PySem.W.findIn X.K (.ref C) (cmpInfo op).2.1 = some (some (.ref g))) (hf : PySem.W.isFn X.K (.ref g) = true) (F : FnOk X.prog X.w X.K X.mg X.base CX k g fd ps sp)
    (hr : Room k X.A) (hb : Binds X.K fd ps []) (hx : Passes CX X E) : OpR X (compareOp op) (rOwnI X.K C sp E) := by
  intro pins s σ H x y v u Q I rx ry h
  obtain ⟨a, dx, fs, b, C', dy, gs, rfl, rfl, ha, hbb, hn, q⟩ := h
  cases (show v = Value.ref a from rx)
  cases (show u = Value.ref b from ry)
  obtain ⟨mA, O, _⟩ := ins_get I.hok ha
  obtain ⟨od, J, _⟩ := O.look
  obtain ⟨mB, O2, _⟩ := ins_get I.hok hbb
  obtain ⟨od2, J2, _⟩ := O2.look
  obtain ⟨m, hF⟩ := I.fr
  rw [hop]
  refine PySem.W.cmp_K (op := op) (tb := .ref C') hr.units0 hF I.ok.mod.kin J J2.type hn hs hf ?_
  refine wpAny_mono (run_fn (us := [.ref a, .ref b]) (vs := [.ref a, .ref b]) F hr hb .nil hx I (.cons rfl (.cons rfl .nil)) (by rw [List.append_nil]; exact q)) (fun w s1 z => ?_) fun _ _ x => x
  obtain ⟨z1, H1, I1, rz, qz⟩ := z
  exact SlX.cmpback rz ⟨z1, H1, I1, rz, qz⟩
end

/-! C(e, ..) whose __init__ may raise, in a try: what is raised is wished for at the slots -/
def tMakeS (C : Addr) (sp : Sp) (dvs : List V) (E : L2.St → XK) (t : TA) : TE := fun σ H Q => t σ H fun vs H1 => ∀ x dx, H1 x = none → H1 dx = none → dx ≠ x →
  sp (.ref x :: (vs ++ dvs)) (upd (upd H1 dx (.own x)) x (.ins C dx [])) (fun v H2 => v = .non ∧ Q (.ref x) H2) (E σ)
section
variable {X : Cx} {CX : CXT} {k : Nat} {f C : Addr} {fd : FuncData} {ps : List Str} {sp : Sp} {dvs : List V} {ds : List Value} {E : L2.St → XK} {x : Str} {p pos : Pos} {e : Expr} {es : List Expr} {t : TA}
theorem pe_makeS (M : Mk X.K C f) (F : FnOk X.prog X.w X.K X.mg X.base CX k f fd ps sp) (hr : Room (k + 1) X.A) (hg : Gl X x) (hm : X.mg x = some (.ref C)) (hb : Binds X.K fd ps ds) (hd : Vals dvs ds) (hx : ∀ σ, PassesAt CX X σ (E σ))
    (ha : PA X (e :: es) t) (hdb : (x == ("__debug__" : Str)) = false := by decide) (he : starEach (e :: es) X.env = (false, eval e X.env) :: starEach es X.env := by rfl) (hpl : (backTo pos (starEach es X.env)).any (·.1) = false := by rfl) :
    PE X (.Call (.Name x p) (e :: es) [] pos) (tMakeS C sp dvs E t) := by
  refine ⟨fun pins s σ H Q I h => ?_⟩
  refine wpAny_Call_Name_kw (ld_glob I hg hm ?_ hdb)
  refine PySem.W.callWith_K (h₀ := X.base) I.ok.mod.kin M.kp (thn (ha.run pos pins s σ H _ I h) fun us s1 hh => ?_) he hpl
  obtain ⟨vs, H1, I1, r, q⟩ := hh
  refine ⟨I1.kIn, ?_⟩
  show wpAny _ _ (call (.ref C) us) _ _ _
  have hq := q (s1.heap.objs.size + 1) s1.heap.objs.size (I1.hok.fresh (Nat.le_succ _)) (I1.hok.fresh (Nat.le_refl _)) (Nat.ne_of_lt (Nat.lt_succ_self _))
  have I2 := Inv.made (C := C) I1
  have r2 : Vals (V.ref (s1.heap.objs.size + 1) :: (vs ++ dvs)) (Value.ref (s1.heap.objs.size + 1) :: (us ++ ds)) := .cons rfl (r.append hd)
  have hl : (Value.ref (s1.heap.objs.size + 1) :: us ++ ds).length = ps.length := by
    have e := r2.length
    rw [F.len _ _ _ _ hq] at e
    exact e.symm
  refine wpAny_call (make_map (f := f) I1.kIn M.makes M.init (beq_iff_eq.mp M.fn) (codeAny_mono (F.run _ X.stack _ _ ⟨Value.ref (s1.heap.objs.size + 1) :: us, []⟩ (Value.ref (s1.heap.objs.size + 1) :: (us ++ ds)) _ _ (E σ) (hr.make C us [])
    (I2.env0.make C us []) (hb _ (Value.ref (s1.heap.objs.size + 1) :: us) I2.kIn hl) r2 hq) fun r3 s3 hq3 => ?_))
  cases r3 with
  | error e => exact hx σ _ _ _ e s3 I2 hq3
  | ok fl =>
    cases fl with
    | ret u =>
      obtain ⟨v, H3, I3, rv, ev, q3⟩ := I2.after hq3
      subst ev
      exact ⟨rv, ⟨V.ref (s1.heap.objs.size + 1), H3, I3, rfl, q3⟩⟩
    | next => exact False.elim hq3
    | brk => exact False.elim hq3
    | cont => exact False.elim hq3
end
end Vk
set_option Elab.async false
set_option linter.all false
set_option maxRecDepth 100000
set_option maxHeartbeats 1000000
/-! texts as lists of codes; comprehensions over a text -/
namespace Vk
open PySem PySem.Spec PyProof.Rows L2
/-- the text of these codes -/
def S (l : List Nat) : Str := ⟨l.toArray⟩
theorem S_of (z : Str) : z = S z.cps.toList := by
  obtain ⟨a⟩ := z
  simp [S]
theorem S_len (l : List Nat) : (S l).length = l.length := by
  show l.toArray.size = l.length
  simp
theorem S_cps (l : List Nat) : (S l).cps.toList = l := by simp [S]
theorem S_size (l : List Nat) : (S l).cps.size = l.length := S_len l
theorem S_inj {a b : List Nat} : S a = S b ↔ a = b := by
  constructor
  · intro h
    have := congrArg (fun z : Str => z.cps.toList) h
    simpa [S] using this
  · rintro rfl
    rfl
theorem S_one (c : Nat) : (⟨#[c]⟩ : Str) = S [c] := rfl
theorem S_app (a b : List Nat) : S a ++ S b = S (a ++ b) := by
  show (⟨a.toArray ++ b.toArray⟩ : Str) = ⟨(a ++ b).toArray⟩
  simp
theorem S_get {l : List Nat} {i c : Nat} : (S l).cps[i]? = some c ↔ l[i]? = some c := by
  show l.toArray[i]? = some c ↔ _
  simp
theorem signs_S (l : List Nat) : signsOf (S l) = l.map fun c => S [c] := by
  unfold signsOf
  rw [S_cps]
  rfl
theorem S_cut (l : List Nat) (lo hi : Option Int) : cutS (S l) lo hi = S ((l.drop (HT.sIx l.length 0 lo)).take (HT.sIx l.length l.length hi - HT.sIx l.length 0 lo)) := by
  unfold cutS
  rw [S_cps, S_len]
  rfl
theorem S_to (l : List Nat) (k : Nat) : cutS (S l) none (some (k : Int)) = S (l.take k) := by
  rw [S_cut, HT.sIx_none, HT.sIx_nat, List.drop_zero, Nat.sub_zero]
  congr 1
  rw [← List.take_take, List.take_length]
theorem S_from (l : List Nat) (k : Nat) : cutS (S l) (some (k : Int)) none = S (l.drop k) := by
  rw [S_cut, HT.sIx_none, HT.sIx_nat]
  congr 1
  by_cases h : k ≤ l.length
  · rw [Nat.min_eq_left h]
    exact List.take_of_length_le (by rw [List.length_drop]; exact Nat.le_refl _)
  · rw [Nat.min_eq_right (by omega), Nat.sub_self, List.take_zero, List.drop_eq_nil_of_le (by omega)]
/-- what join does of single signs -/
theorem join_signs : ∀ l : List Nat, Txt.join (S []) (l.map fun c => S [c]) = S l := by
  have key : ∀ l : List Nat, Str.join (S []) (l.map fun c => S [c]) = S l := by
    intro l
    induction l with
    | nil => rfl
    | cons c r ih =>
      cases r with
      | nil => rfl
      | cons d r =>
        show S [c] ++ S [] ++ Str.join (S []) ((d :: r).map fun c => S [c]) = _
        rw [ih, S_app, S_app]
        rfl
  intro l
  exact (PySem.StrLaws.glued_eq_join _ _).trans (key l)
/-! sorted -/
def srtL (l : List Nat) : List Nat := l.mergeSort fun a b => decide (a ≤ b)
theorem srtL_perm (l : List Nat) : (srtL l).Perm l := List.mergeSort_perm _ _
theorem srtL_le (l : List Nat) : (srtL l).Pairwise (· ≤ ·) := by
  have h := List.pairwise_mergeSort (le := fun a b : Nat => decide (a ≤ b)) (by simp; omega) (by simp; omega) l
  exact h.imp fun h => by simpa using h
theorem srtL_len (l : List Nat) : (srtL l).length = l.length := (srtL_perm l).length_eq
theorem srtL_mem {l : List Nat} {c : Nat} : c ∈ srtL l ↔ c ∈ l := (srtL_perm l).mem_iff
theorem srtL_nodup {l : List Nat} : (srtL l).Nodup ↔ l.Nodup := (srtL_perm l).nodup_iff
theorem srt_eq {a b : List Nat} (p : a.Perm b) (ha : a.Pairwise (· ≤ ·)) : a = srtL b :=
  List.Perm.eq_of_pairwise (le := (· ≤ ·)) (fun x y _ _ h1 h2 => Nat.le_antisymm h1 h2) ha (srtL_le b) (p.trans (srtL_perm b).symm)
theorem srtL_congr {a b : List Nat} : srtL a = srtL b ↔ a.Perm b := by
  constructor
  · intro h
    exact (srtL_perm a).symm.trans (h ▸ srtL_perm b)
  · intro p
    exact srt_eq ((srtL_perm a).trans p) (srtL_le a)
theorem rising_le : ∀ (c : Nat) (l : List Nat), risingS (S [c]) (l.map fun c => S [c]) = true → (c :: l).Pairwise (· ≤ ·)
  | c, [], _ => by simp
  | c, d :: l, h => by
    have h' : (!ltCps (S [d]).cps.toList (S [c]).cps.toList && risingS (S [d]) (l.map fun c => S [c])) = true := h
    obtain ⟨h1, h2⟩ := Bool.and_eq_true_iff.mp h'
    have ih := rising_le d l h2
    have hcd : c ≤ d := by
      rw [ltCps_eq] at h1
      simp [S] at h1
      exact Nat.le_of_not_lt fun z => of_decide_eq_false h1 (List.Lex.rel z)
    rw [List.pairwise_cons]
    refine ⟨fun x hx => ?_, ih⟩
    rcases List.mem_cons.mp hx with rfl | hx
    · exact hcd
    · exact Nat.le_trans hcd ((List.pairwise_cons.mp ih).1 x hx)
theorem sorted_signs {l : List Nat} {ys : List Str} (p : ys.Perm (l.map fun c => S [c])) (h : sortedS ys = true) : ys = (srtL l).map fun c => S [c] := by
  have hq : ∃ zs : List Nat, ys = zs.map fun c => S [c] := by
    refine ⟨ys.map fun z => z.cps.toList.headD 0, ?_⟩
    rw [List.map_map]
    refine (List.map_id ys).symm.trans (List.map_congr_left fun y hy => ?_)
    obtain ⟨c, _, rfl⟩ := List.mem_map.mp (p.mem_iff.mp hy)
    simp [S]
  obtain ⟨zs, rfl⟩ := hq
  have hp : zs.Perm l := by
    have q := p.map fun z : Str => z.cps.toList.headD 0
    rw [List.map_map, List.map_map] at q
    have e : ∀ l : List Nat, l.map ((fun z : Str => z.cps.toList.headD 0) ∘ fun c => S [c]) = l := fun l => (List.map_congr_left fun c _ => by simp [S]).trans (List.map_id l)
    rw [e, e] at q
    exact q
  have hs : zs.Pairwise (· ≤ ·) := by
    cases zs with
    | nil => exact .nil
    | cons c r => exact rising_le c r h
  rw [srt_eq hp hs]
/-! a comprehension over a text -/
theorem lc_text {l : List Nat} {j : Nat} {tt : TT} {te : TE} {vs : List Nat} {σ : L2.St} {H1 : Hp} {D : Addr} {Qd : Hp → Prop} (p : Nat → Bool) (v : Nat → V) (hl : l.length ≤ 4000)
    (hw : ∀ x, wipe ((wipe σ vs).set j (some x)) vs = wipe σ vs)
    (ht : ∀ c ∈ l, ∀ (H2 : Hp) (Q : Bool → Hp → Prop), (∀ b, b ≠ D → H2 b = H1 b) → Q (p c) H2 → tt ((wipe σ vs).set j (some (.str (S [c])))) H2 Q)
    (he : ∀ c ∈ l, p c = true → ∀ (H2 : Hp) (Q : VK), (∀ b, b ≠ D → H2 b = H1 b) → Q (v c) H2 → te ((wipe σ vs).set j (some (.str (S [c])))) H2 Q)
    (hq : Qd (upd H1 D (.lst ((l.filter p).map v)))) :
    ∃ W : Nat → Nat → Hp → Prop, (∃ m, W 0 m (upd H1 D (.lst []))) ∧ ∀ i m H, W i m H →
      ((Its (S l)).stop i H ∧ Qd H) ∨ ((Its (S l)).go i H ∧ ∃ Nx : Hp → Prop, (∀ H', Nx H' → ∃ m', m' < m ∧ W (i + 1) m' H') ∧ ∀ x H', (Its (S l)).yld i H x H' → gName j x (wipe σ vs) H' fun σ2 H2 => wipe σ2 vs = wipe σ vs ∧ tt σ2 H2 fun b H3 =>
        if b = true then te σ2 H3 fun y H4 => ∃ acc, H4 D = some (.lst acc) ∧ acc.length < sizeLine ∧ Nx (upd H4 D (.lst (acc ++ [y]))) else Nx H3) := by
  have hz : (S l).cps.size = l.length := S_size l
  refine lc_it walk_str (fun i H => H = upd H1 D (.lst (((l.take i).filter p).map v))) rfl (fun _ _ _ _ => trivial) ?_ ?_
  · rintro i x H H' hi hP ⟨rfl, c, hc, rfl⟩
    subst hP
    have hc2 : l[i]? = some c := S_get.mp hc
    have hm : c ∈ l := List.mem_of_getElem? hc2
    have off : ∀ b, b ≠ D → (upd H1 D (.lst (((l.take i).filter p).map v))) b = H1 b := fun b hb => upd_ne hb
    have e1 : l.take (i + 1) = l.take i ++ [c] := by
      rw [List.take_add_one, hc2]
      rfl
    refine ⟨hw _, ht c hm _ _ off ?_⟩
    by_cases hp : p c = true
    · rw [if_pos hp]
      refine he c hm hp _ _ off ⟨_, upd_same, ?_, ?_⟩
      · rw [List.length_map, sizeLine_eq]
        have h1 := List.length_filter_le p (l.take i)
        rw [List.length_take] at h1
        omega
      · rw [upd_upd, e1, List.filter_append, List.filter_cons_of_pos hp, List.filter_nil, List.map_append]
        rfl
    · rw [if_neg hp, e1, List.filter_append, List.filter_cons_of_neg hp, List.filter_nil, List.append_nil]
  · rintro H rfl
    rw [hz, List.take_length]
    exact hq
end Vk
set_option Elab.async false
set_option linter.all false
set_option maxRecDepth 100000
set_option maxHeartbeats 4000000
namespace Vk
open PySem PySem.Spec PyProof.Rows L2
section
variable {X : Cx}
/-- list(text): its signs -/
theorem call_listT (hc : X.calm = true) : CallR X (.type "list") rListT := by
  intro pins s σ H xs us Q I r q
  obtain ⟨z, ex, hz, q⟩ := q
  subst ex
  obtain ⟨u, eu, rx⟩ := vals1 r
  subst eu
  obtain ⟨t, rfl⟩ := rx
  have hz2 : z.cps.size ≤ 4000 := hz
  refine call_list_str (hn := by rw [sizeLine_eq]; omega) (I.ok.hd hc) z t fun h' tk acc c' hk he hacc => ?_
  have hS := signs_strs hacc
  have hlen : ((signsOf z).map V.str).length ≤ sizeLine := by
    rw [List.length_map]
    unfold signsOf
    rw [List.length_map, Array.length_toList, sizeLine_eq]
    omega
  refine ⟨.ref s.heap.objs.size, upd H s.heap.objs.size (.lst ((signsOf z).map V.str)), I.laid (t' := tk) hk (Nat.le_refl _)
    (show ObjOk X.prog X.w _ _ _ (.lst ((signsOf z).map V.str)) from ⟨hlen, acc.toList, c', vals_of_strs hS, by rw [Array.toArray_toList]; exact he⟩), rfl, q _ (I.hok.fresh (Nat.le_refl _))⟩
def repL (n : Nat) (l : List Nat) : List Nat := (List.replicate n l).flatten
theorem repL_len (n : Nat) (l : List Nat) : (repL n l).length = n * l.length := by
  unfold repL
  rw [List.length_flatten, List.map_replicate, List.sum_replicate_nat]
theorem fold_rep (a : Array Nat) : ∀ (n : Nat) (acc : Array Nat), ((List.replicate n a).foldl (· ++ ·) acc).toList = acc.toList ++ (List.replicate n a.toList).flatten
  | 0, acc => by simp
  | n + 1, acc => by
    rw [List.replicate_succ, List.foldl_cons, fold_rep a n, List.replicate_succ, List.flatten_cons, Array.toList_append, List.append_assoc]
/-- text * number -/
def rMulT : R2 := fun x y H Q => ∃ (l : List Nat) (n : Nat), x = .str (S l) ∧ y = .int (n : Int) ∧ l.length * n ≤ 4000 ∧ n ≤ 4000 ∧ Q (.str (S (repL n l))) H
theorem op_mulT : OpR X (binaryOp .Mult) rMulT := by
  intro pins s σ H x y v u Q I rx ry h
  obtain ⟨l, n, rfl, rfl, hln, hn, q⟩ := h
  obtain ⟨t, rfl⟩ := rx
  obtain ⟨t', rfl⟩ := ry
  have hl := S_len l
  refine PySem.P.mul_str ?_ (fun h1 h2 => ?_) (fun h1 h2 => ?_) ?_
  · rw [decide_eq_false (by omega), decide_eq_false (by omega)]
    rfl
  · rw [hl]
    have h3 : (l.length : Int) ≤ (2 ^ 63 - 1) / (n : Int) := by
      refine Int.le_ediv_of_mul_le (by omega) ?_
      have : ((l.length * n : Nat) : Int) ≤ 4000 := by omega
      rw [Int.natCast_mul] at this
      omega
    omega
  · unfold PySem.Builtin.Str.tooLong
    rw [hl, Int.toNat_natCast, sizeLine_eq]
    exact decide_eq_false (by omega)
  · by_cases h1 : (n : Int) < 1
    · rw [if_pos h1]
      have e : n = 0 := by omega
      subst e
      exact ⟨by decide, ⟨.str (S (repL 0 l)), H, I.tok _, ⟨_, rfl⟩, q⟩⟩
    · rw [if_neg h1]
      by_cases h2 : ((n : Int) == 1 || (S l).length == 0) = true
      · rw [if_pos h2]
        have e : repL n l = l := by
          rcases Bool.or_eq_true_iff.mp h2 with h | h
          · have : n = 1 := by
              have := beq_iff_eq.mp h
              omega
            subst this
            unfold repL
            simp
          · have h3 := beq_iff_eq.mp h
            rw [hl] at h3
            have : l = [] := List.length_eq_zero_iff.mp h3
            subst this
            unfold repL
            simp
        rw [e] at q
        exact ⟨.str (S l), H, I, ⟨_, rfl⟩, q⟩
      · rw [if_neg h2]
        have e : (⟨(List.replicate (n : Int).toNat (S l).cps).foldl (· ++ ·) #[]⟩ : Str) = S (repL n l) := by
          rw [Int.toNat_natCast, S_of (⟨_⟩ : Str)]
          congr 1
          show ((List.replicate n (S l).cps).foldl (· ++ ·) #[]).toList = _
          rw [fold_rep, S_cps]
          rfl
        rw [e]
        refine ⟨?_, ⟨.str (S (repL n l)), H, I.tok _, ⟨_, rfl⟩, q⟩⟩
        rw [S_len, repL_len, sizeLine_eq, Nat.mul_comm]
        omega
end
end Vk
set_option Elab.async false
set_option linter.all false
set_option maxRecDepth 100000
set_option maxHeartbeats 4000000
namespace Vk
open PySem PySem.Spec PyProof.Rows L2
/-! V0: the readings, one step each, said the way a walk uses them -/
section
variable {D : Ends} {σ : L2.St} {H : Hp} {t u : TS} {te ta tb : TE} {c : TT} {Q : VK} {K : PySem.W.Frag}
theorem iSeq (h : t { nx := u D, rt := D.rt, bk := D.bk, ct := D.ct } σ H) : tSeq t u D σ H := h
theorem iNext (h : D.nx σ H) : tNext D σ H := h
theorem iBreak (h : D.bk σ H) : tBreak D σ H := h
theorem iCont (h : D.ct σ H) : tCont D σ H := h
theorem iDrop (h : te σ H fun _ H1 => D.nx σ H1) : tDrop te D σ H := h
theorem iRet (h : te σ H D.rt) : tRet te D σ H := h
theorem iRetN (h : D.rt .non H) : tRetN D σ H := h
theorem iIfS (h : c σ H fun b H1 => if b = true then t D σ H1 else u D σ H1) : tIfS c t u D σ H := h
theorem iAsg {g : TG} (h : te σ H fun x H1 => g x σ H1 D.nx) : tAsg te g D σ H := h
theorem iName {i : Nat} {v : V} {Q : L2.St → Hp → Prop} (h : Q (σ.set i (some v)) H) : gName i v σ H Q := h
theorem iSub {to ti : TE} {tt : TSet} {v : V} {Q : L2.St → Hp → Prop} (h : to σ H fun o H1 => ti σ H1 fun i H2 => tt o i v H2 fun H3 => Q σ H3) : gSub to ti tt v σ H Q := h
theorem iVar {i : Nat} {v : V} (e : σ[i]? = some (some v)) (h : Q v H) : tVar i σ H Q := ⟨v, e, h⟩
theorem iC {v : V} (h : Q v H) : tC v σ H Q := h
theorem iOp {r : R2} (h : ta σ H fun x H1 => tb σ H1 fun y H2 => r x y H2 Q) : tOp r ta tb σ H Q := h
theorem iUn {r : V → Hp → VK → Prop} (h : ta σ H fun x H1 => r x H1 Q) : tUn r ta σ H Q := h
theorem iI0 {g : Int → Int → V} {i j : Int} (h : Q (g i j) H) : rI0 g (.int i) (.int j) H Q := ⟨i, j, rfl, rfl, h⟩
theorem iI {C : Int → Int → Prop} {g : Int → Int → V} {i j : Int} (hc : C i j) (h : Q (g i j) H) : rI C g (.int i) (.int j) H Q := ⟨i, j, rfl, rfl, hc, h⟩
theorem iU {g : Int → V} {i : Int} (h : Q (g i) H) : rU g (.int i) H Q := ⟨i, rfl, h⟩
theorem iEq {x y : V} (hs : scal x y = true) (h : Q (.bl (decide (x = y))) H) : rEq x y H Q := ⟨hs, h⟩
theorem iNe {x y : V} (hs : scal x y = true) (h : Q (.bl (!decide (x = y))) H) : rNe x y H Q := ⟨hs, h⟩
theorem iB {Q : Bool → Hp → Prop} (h : te σ H fun x H1 => ∃ c, x = .bl c ∧ Q c H1) : tB te σ H Q := h
theorem iTest {Q : Bool → Hp → Prop} (h : te σ H fun x H1 => ∃ c, x = .bl c ∧ Q c H1) : tTest te σ H Q := h
theorem iAnd {t u : TT} {Q : Bool → Hp → Prop} (h : t σ H fun c H1 => if c = true then u σ H1 Q else Q false H1) : tAnd t u σ H Q := h
theorem iOr {t u : TT} {Q : Bool → Hp → Prop} (h : t σ H fun c H1 => if c = true then Q true H1 else u σ H1 Q) : tOr t u σ H Q := h
theorem iNot {t : TT} {Q : Bool → Hp → Prop} (h : t σ H fun c H1 => Q (!c) H1) : tNot t σ H Q := h
theorem iAndV (h : ta σ H fun x H1 => ∃ c, x = .bl c ∧ if c = true then tb σ H1 Q else Q (.bl false) H1) : tAndV ta tb σ H Q := h
theorem iOrV (h : ta σ H fun x H1 => ∃ c, x = .bl c ∧ if c = true then Q (.bl true) H1 else tb σ H1 Q) : tOrV ta tb σ H Q := h
theorem iNotV (h : ta σ H fun x H1 => ∃ c, x = .bl c ∧ Q (.bl (!c)) H1) : tNotV ta σ H Q := h
theorem iIfE (h : c σ H fun b H1 => if b = true then ta σ H1 Q else tb σ H1 Q) : tIf c ta tb σ H Q := h
theorem iNil {Q : List V → Hp → Prop} (h : Q [] H) : tNil σ H Q := h
theorem iCons {tr : TA} {Q : List V → Hp → Prop} (h : ta σ H fun x H1 => tr σ H1 fun xs H2 => Q (x :: xs) H2) : tCons ta tr σ H Q := h
theorem iTup {ts : TA} (h : ts σ H fun xs H1 => xs.length ≤ sizeLine ∧ ∀ p, H1 p = none → Q (.ref p) (upd H1 p (.tup xs))) : tTup ts σ H Q := h
theorem iLst {ts : TA} (h : ts σ H fun xs H1 => xs.length ≤ sizeLine ∧ ∀ p, H1 p = none → Q (.ref p) (upd H1 p (.lst xs))) : tLst ts σ H Q := h
theorem iCB {r : List V → Hp → VK → Prop} {ts : TA} (h : ts σ H fun vs H1 => r vs H1 Q) : tCB r ts σ H Q := h
theorem iCall {sp : Sp} {dvs : List V} {E : XK} {ts : TA} (h : ts σ H fun vs H1 => sp (vs ++ dvs) H1 Q E) : tCall sp dvs E ts σ H Q := h
theorem iFld {f : Str} (h : ta σ H fun x H1 => ∃ a C dx fs v, x = .ref a ∧ H1 a = some (.ins C dx fs) ∧ Cls K C ∧ NoAttr K C f ∧ fs.lookup f = some v ∧ Q v H1) : tFld K ta f σ H Q := h
theorem iM1 {r : V → List V → Hp → VK → Prop} {to : TE} (h : to σ H fun x H1 => (∃ a, x = .str a) ∧ te σ H1 fun y H2 => r x [y] H2 Q) : tM1 r to te σ H Q := h
theorem iBM {T : String} {r : V → List V → Hp → VK → Prop} {to : TE} {ts : TA} (h : to σ H fun x H1 => tyV K T x H1 ∧ ts σ H1 fun xs H2 => r x xs H2 Q) : tBM K T r to ts σ H Q := h
theorem iSl {r : V → Option Int → Option Int → Hp → VK → Prop} {tl th : TO} (h : te σ H fun x H1 => tl σ H1 fun l H2 => th σ H2 fun u H3 => r x l u H3 Q) : tSl r te tl th σ H Q := h
theorem iIxL {p : Addr} {xs : List V} {i : Int} {v : V} (hq : SqL K H p xs) (e : atI xs i = some v) (h : Q v H) : rIxL K (.ref p) (.int i) H Q := ⟨p, xs, i, v, rfl, rfl, hq, e, h⟩
theorem iIxT {p : Addr} {xs : List V} {i : Int} {v : V} (hq : SqT K H p xs) (e : atI xs i = some v) (h : Q v H) : rIxT K (.ref p) (.int i) H Q := ⟨p, xs, i, v, rfl, rfl, hq, e, h⟩
theorem iIxS {l : List Nat} {i : Int} {c : Nat} (hz : l.length ≤ 100000) (e : atI l i = some c) (h : Q (.str (S [c])) H) : rIxS (.str (S l)) (.int i) H Q :=
  ⟨S l, i, c, rfl, rfl, (by rw [S_len, sizeLine_eq]; omega), (by rw [S_cps]; exact e), h⟩
theorem iSlS {l : List Nat} {lo hi : Option Int} (hz : l.length ≤ 100000) (h : Q (.str (cutS (S l) lo hi)) H) : rSlS (.str (S l)) lo hi H Q :=
  ⟨S l, rfl, (by rw [S_len, sizeLine_eq]; omega), h⟩
theorem iBd {P : Prop} [Decidable P] {A B : Prop} (h1 : P → A) (h2 : ¬ P → B) : if decide P = true then A else B := ite2 (fun h => h1 (of_decide_eq_true h)) fun h => h2 fun p => h (decide_eq_true p)
theorem iBnd {P : Prop} [Decidable P] {A B : Prop} (h1 : ¬ P → A) (h2 : P → B) : if (!decide P) = true then A else B := ite2 (fun h => h1 (by simpa using h)) fun h => h2 (by simpa using h)
theorem iBb {b : Bool} {A B : Prop} (h1 : b = true → A) (h2 : b = false → B) : if b = true then A else B := ite2 h1 fun h => h2 (by simpa using h)
theorem iBbn {b : Bool} {A B : Prop} (h1 : b = false → A) (h2 : b = true → B) : if (!b) = true then A else B := ite2 (fun h => h1 (by simpa using h)) fun h => h2 (by simpa using h)
theorem iTT {A B : Prop} (h : A) : if true = true then A else B := iteT h
theorem iFF {A B : Prop} (h : B) : if false = true then A else B := iteF h
theorem iNTT {A B : Prop} (h : B) : if (!true) = true then A else B := iteF h
theorem iNFF {A B : Prop} (h : A) : if (!false) = true then A else B := iteT h
theorem iEx {α : Sort _} {p : α → Prop} (w : α) (h : p w) : ∃ x, p x := ⟨w, h⟩
theorem iSetL {p : Addr} {xs ys : List V} {i : Int} {j : Nat} {v : V} {Q : Hp → Prop} (h : H p = some (.lst xs)) (hj : ixN xs.length i = some j) (e : xs.set j v = ys) (k : Q (upd H p (.lst ys))) : rSetL (.ref p) (.int i) v H Q :=
  ⟨p, xs, i, j, rfl, rfl, h, hj, (by rw [e]; exact k)⟩
theorem iNoPart {Q : Option Int → Hp → Prop} (h : Q none H) : tNoPart σ H Q := h
theorem iPart {Q : Option Int → Hp → Prop} (h : te σ H fun x H1 => ∃ i, x = .int i ∧ Q (some i) H1) : tPart te σ H Q := h
theorem pe_strS {X : Cx} {x : Str} {l : List Nat} {j : Nat} {pos : Pos} (h : x = S l) : PE X (.Constant (.str x) j pos) (tC (.str (S l))) := h ▸ pe_str
theorem iSFld {tv : TE} {f : Str} (h : tv σ H fun y H1 => ta σ H1 fun x H2 => ∃ a C dx fs, x = .ref a ∧ H2 a = some (.ins C dx fs) ∧ Cls K C ∧ NoAttr K C f ∧ fs.length < 1000 ∧ D.nx σ (upd H2 a (.ins C dx (putF f y fs)))) : sFld K ta tv f D σ H := h
theorem eSFld {a C dx : Addr} {fs fs' : List (Str × V)} {f : Str} {y : V} (e1 : H a = some (.ins C dx fs)) (c : Cls K C) (n : NoAttr K C f) (hl : fs.length < 1000) (ep : putF f y fs = fs') (h : D.nx σ (upd H a (.ins C dx fs'))) :
    ∃ (b C dx : Addr) (gs : List (Str × V)), V.ref a = .ref b ∧ H b = some (.ins C dx gs) ∧ Cls K C ∧ NoAttr K C f ∧ gs.length < 1000 ∧ D.nx σ (upd H b (.ins C dx (putF f y gs))) := ⟨a, C, dx, fs, rfl, e1, c, n, hl, by rw [ep]; exact h⟩
theorem iCon {f : Str} (h : ta σ H fun x H1 => ∃ a C dx fs v u, x = .ref a ∧ H1 a = some (.ins C dx fs) ∧ Cls K C ∧ Con K C f v u ∧ fs.lookup f = none ∧ Q v H1) : tCon K ta f σ H Q := h
theorem iProp {C : Addr} {sp : Sp} {dvs : List V} {E : XK} (h : ta σ H fun x H1 => ∃ a dx fs, x = .ref a ∧ H1 a = some (.ins C dx fs) ∧ sp (.ref a :: dvs) H1 Q E) : tProp C sp dvs E ta σ H Q := h
theorem iMeth {C : Addr} {m : Str} {sp : Sp} {dvs : List V} {E : XK} {t : TA} (h : ta σ H fun x H1 => ∃ a dx fs, x = .ref a ∧ H1 a = some (.ins C dx fs) ∧ fs.lookup m = none ∧ t σ H1 fun vs H2 => sp (x :: (vs ++ dvs)) H2 Q E) : tMeth C m sp dvs E ta t σ H Q := h
theorem iCall0 {sp : Sp} {E : XK} {ts : TA} (h : ts σ H fun vs H1 => sp vs H1 Q E) : tCall sp [] E ts σ H Q := by
  have e : (fun (vs : List V) (H1 : Hp) => sp (vs ++ []) H1 Q E) = fun vs H1 => sp vs H1 Q E := by
    funext vs H1
    rw [List.append_nil]
  show ts σ H fun vs H1 => sp (vs ++ []) H1 Q E
  rw [e]
  exact h
theorem iMeth0 {C : Addr} {m : Str} {sp : Sp} {E : XK} {t : TA} (h : ta σ H fun x H1 => ∃ a dx fs, x = .ref a ∧ H1 a = some (.ins C dx fs) ∧ fs.lookup m = none ∧ t σ H1 fun vs H2 => sp (x :: vs) H2 Q E) : tMeth C m sp [] E ta t σ H Q := by
  have e : (fun (x : V) (H1 : Hp) => ∃ a dx fs, x = .ref a ∧ H1 a = some (.ins C dx fs) ∧ fs.lookup m = none ∧ t σ H1 fun vs H2 => sp (x :: (vs ++ [])) H2 Q E) = fun x H1 => ∃ a dx fs, x = .ref a ∧ H1 a = some (.ins C dx fs) ∧ fs.lookup m = none ∧ t σ H1 fun vs H2 => sp (x :: vs) H2 Q E := by
    funext x H1
    simp only [List.append_nil]
  show ta σ H fun (x : V) (H1 : Hp) => ∃ a dx fs, x = .ref a ∧ H1 a = some (.ins C dx fs) ∧ fs.lookup m = none ∧ t σ H1 fun vs H2 => sp (x :: (vs ++ [])) H2 Q E
  rw [e]
  exact h
/-- here the walk stands still -/
def Stop (p : Prop) : Prop := p
/-! while, by an invariant -/
def Less (W : Nat → L2.St → Hp → Prop) (m : Nat) : L2.St → Hp → Prop := fun σ' H' => ∃ m', m' < m ∧ W m' σ' H'
def WB (W : Nat → L2.St → Hp → Prop) (m : Nat) (tb : TS) (D : Ends) (b : Bool) (σ : L2.St) (H1 : Hp) : Prop :=
  if b = true then ∃ N : L2.St → Hp → Prop, (∀ σ' H', N σ' H' → ∃ m', m' < m ∧ W m' σ' H') ∧ tb { D with nx := N, ct := N, bk := D.nx } σ H1 else D.nx σ H1
theorem iWT {W : Nat → L2.St → Hp → Prop} {m : Nat} {tb : TS} (h : tb { nx := Less W m, rt := D.rt, bk := D.nx, ct := Less W m } σ H) : WB W m tb D true σ H := iteT ⟨Less W m, fun _ _ z => z, h⟩
theorem iWF {W : Nat → L2.St → Hp → Prop} {m : Nat} {tb : TS} (h : D.nx σ H) : WB W m tb D false σ H := iteF h
theorem iWD {P : Prop} [Decidable P] {W : Nat → L2.St → Hp → Prop} {m : Nat} {tb : TS} (h1 : P → tb { nx := Less W m, rt := D.rt, bk := D.nx, ct := Less W m } σ H) (h2 : ¬ P → D.nx σ H) : WB W m tb D (decide P) σ H := by
  by_cases h : P
  · rw [decide_eq_true h]
    exact iWT (h1 h)
  · rw [decide_eq_false h]
    exact iWF (h2 h)
theorem iWDN {P : Prop} [Decidable P] {W : Nat → L2.St → Hp → Prop} {m : Nat} {tb : TS} (h1 : ¬ P → tb { nx := Less W m, rt := D.rt, bk := D.nx, ct := Less W m } σ H) (h2 : P → D.nx σ H) : WB W m tb D (!decide P) σ H := by
  by_cases h : P
  · rw [decide_eq_true h]
    exact iWF (h2 h)
  · rw [decide_eq_false h]
    exact iWT (h1 h)
theorem while_w {c : TT} {tb : TS} (W : Nat → L2.St → Hp → Prop) (h0 : ∃ m, W m σ H) (hs : ∀ m σ H, W m σ H → c σ H fun b H1 => WB W m tb D b σ H1) : tWhile c tb D σ H := ⟨W, h0, hs⟩
/-! heaps -/
theorem upd_old {p x : Addr} {o u : HO} (hp : H p = none) (h : H x = some u) : upd H p o x = some u := by
  rw [upd_ne (ne_of_none h hp)]
  exact h
theorem upd_oth {p x : Addr} {o u : HO} (hp : x ≠ p) (h : H x = some u) : upd H p o x = some u := by rw [upd_ne hp]; exact h
theorem Same.get {H' : Hp} {x : Addr} {u : HO} (s : Same H H') (h : H x = some u) : H' x = some u := s _ _ h
/-- all but the listed stand as they stood -/
def Fr (L : List Addr) (H H' : Hp) : Prop := ∀ x u, x ∉ L → H x = some u → H' x = some u
theorem Fr.get {H' : Hp} {L : List Addr} {x : Addr} {u : HO} (s : Fr L H H') (hx : x ∉ L) (h : H x = some u) : H' x = some u := s _ _ hx h
theorem Fr.refl (L : List Addr) (H : Hp) : Fr L H H := fun _ _ _ h => h
theorem Fr.trans {L : List Addr} {H H1 H2 : Hp} (a : Fr L H H1) (b : Fr L H1 H2) : Fr L H H2 := fun x u n h => b x u n (a x u n h)
theorem Fr.of_same {L : List Addr} {H H1 : Hp} (a : Same H H1) : Fr L H H1 := fun x u _ h => a x u h
theorem Fr.upd_in {L : List Addr} {H : Hp} {p : Addr} {o : HO} (hp : p ∈ L) : Fr L H (upd H p o) := fun x u n h => upd_oth (fun z => n (z ▸ hp)) h
theorem Fr.upd_new {L : List Addr} {H : Hp} {p : Addr} {o : HO} (hp : H p = none) : Fr L H (upd H p o) := fun x u _ h => upd_old hp h
theorem Fr.mono {L M : List Addr} {H H1 : Hp} (a : Fr L H H1) (h : ∀ x ∈ L, x ∈ M) : Fr M H H1 := fun x u n e => a x u (fun z => n (h x z)) e
theorem Fr.in0 {L : List Addr} {H : Hp} {p : Addr} {o : HO} : Fr (p :: L) H (upd H p o) := Fr.upd_in List.mem_cons_self
theorem Fr.in1 {L : List Addr} {H : Hp} {p q : Addr} {o : HO} : Fr (q :: p :: L) H (upd H p o) := Fr.upd_in (List.mem_cons_of_mem _ List.mem_cons_self)
theorem Fr.in2 {L : List Addr} {H : Hp} {p q r : Addr} {o : HO} : Fr (q :: r :: p :: L) H (upd H p o) := Fr.upd_in (List.mem_cons_of_mem _ (List.mem_cons_of_mem _ List.mem_cons_self))
theorem Fr.wk {L : List Addr} {H H1 : Hp} {p : Addr} (h : Fr L H H1) : Fr (p :: L) H H1 := h.mono fun _ hx => List.mem_cons_of_mem _ hx
theorem Fr.wk1 {H H1 : Hp} {p q : Addr} (h : Fr [p] H H1) : Fr [p, q] H H1 := h.mono fun x hx => by
  rw [List.mem_singleton] at hx
  subst hx
  exact List.mem_cons_self
theorem Same.upd_new {H : Hp} {p : Addr} {o : HO} (hp : H p = none) : Same H (upd H p o) := fun x u h => upd_old hp h
theorem Same.tr {H H1 H2 : Hp} (a : Same H H1) (b : Same H1 H2) : Same H H2 := fun x u h => b x u (a x u h)
theorem Fr.same {H H1 : Hp} (a : Fr [] H H1) : Same H H1 := fun x u h => a x u (List.not_mem_nil) h
theorem Fr.none {L : List Addr} {H H1 : Hp} {x : Addr} (a : Fr L H H1) (hx : x ∉ L) (h : H1 x = none) : H x = none := by
  cases e : H x with
  | none => rfl
  | some u => rw [a x u hx e] at h; cases h
end
end Vk
/-! the walk -/
section
open Vk L2
local macro_rules | `(tactic| walk_at "lk") => `(tactic| first
  | assumption
  | exact upd_same
  | (refine upd_old (by assumption) ?_; walk_at "lk")
  | (refine upd_oth (by first | assumption | (apply Ne.symm; assumption)) ?_; walk_at "lk")
  | (refine Same.get (by assumption) ?_; walk_at "lk"))
example {H : L2.Hp} {a p : PySem.Addr} {o u : L2.HO} (h : H a = some u) (hp : H p = none) : L2.upd H p o a = some u := by walk_at "lk"
end
set_option Elab.async false
set_option linter.all false
set_option maxRecDepth 100000
set_option maxHeartbeats 4000000
namespace Vk
open PySem PySem.Spec PyProof.Rows L2
/-! V1: texts as lists of signs -/
theorem S_le {l : List Nat} (h : l.length ≤ 100000) : (S l).length ≤ sizeLine := by rw [S_len, sizeLine_eq]; omega
def rAddS : R2 := fun x y H Q => ∃ a b : List Nat, x = .str (S a) ∧ y = .str (S b) ∧ a.length + b.length ≤ 100000 ∧ Q (.str (S (a ++ b))) H
theorem op_addS {X : Cx} : OpR X (binaryOp .Add) rAddS := by
  intro pins s σ H x y v u Q I rx ry h
  obtain ⟨a, b, rfl, rfl, hz, q⟩ := h
  refine op_add_str pins s σ H _ _ v u Q I rx ry ⟨S a, S b, rfl, rfl, ?_, ?_⟩
  · rw [S_len, S_len, sizeLine_eq]; omega
  · rw [S_app]; exact q
def rLenS1 : List V → Hp → VK → Prop := fun xs H Q => ∃ l : List Nat, xs = [.str (S l)] ∧ l.length ≤ 100000 ∧ Q (.int (l.length : Nat)) H
theorem call_lenS {X : Cx} : CallR X (.builtin "len") rLenS1 := by
  intro pins s σ H xs us Q I r h
  obtain ⟨l, rfl, hz, q⟩ := h
  refine call_len_str pins s σ H _ us Q I r ⟨S l, rfl, S_le hz, ?_⟩
  rw [S_len]
  exact q
def rInS (neg : Bool) : R2 := fun x y H Q => ∃ (c : Nat) (l : List Nat), x = .str (S [c]) ∧ y = .str (S l) ∧ Q (.bl (if neg then !decide (c ∈ l) else decide (c ∈ l))) H
theorem op_inS {X : Cx} : OpR X (compareOp .In) (rInS false) := by
  intro pins s σ H x y v u Q I rx ry h
  obtain ⟨c, l, rfl, rfl, q⟩ := h
  exact op_in_sign pins s σ H _ _ v u Q I rx ry ⟨c, S l, rfl, rfl, by simpa [S_cps] using q⟩
theorem op_notInS {X : Cx} : OpR X (compareOp .NotIn) (rInS true) := by
  intro pins s σ H x y v u Q I rx ry h
  obtain ⟨c, l, rfl, rfl, q⟩ := h
  exact op_notIn_sign pins s σ H _ _ v u Q I rx ry ⟨c, S l, rfl, rfl, by simpa [S_cps] using q⟩
/-! the place of a sign -/
def n1 (l : List Nat) (c : Nat) : Nat := (l.takeWhile (· != c)).length
theorem n1_le (l : List Nat) (c : Nat) : n1 l c ≤ l.length := (List.takeWhile_prefix _).length_le
theorem n1_nil (c : Nat) : n1 [] c = 0 := rfl
theorem n1_cons (x : Nat) (l : List Nat) (c : Nat) : n1 (x :: l) c = if x = c then 0 else n1 l c + 1 := by
  unfold n1
  rw [List.takeWhile_cons]
  by_cases h : x = c
  · rw [if_pos h]
    simp [h]
  · rw [if_neg h]
    simp [h]
theorem n1_mem {l : List Nat} {c : Nat} : c ∈ l ↔ n1 l c < l.length := by
  induction l with
  | nil => simp [n1]
  | cons x r ih =>
    rw [n1_cons, List.mem_cons, List.length_cons]
    by_cases h : x = c
    · rw [if_pos h]
      simp [h]
    · rw [if_neg h]
      have h2 : ¬ c = x := fun z => h z.symm
      simp only [h2, false_or, ih]
      omega
theorem n1_not {l : List Nat} {c : Nat} (h : c ∉ l) : n1 l c = l.length := by
  have h1 := n1_le l c
  have h2 : ¬ n1 l c < l.length := fun z => h (n1_mem.mpr z)
  omega
theorem n1_at {l : List Nat} {c : Nat} (h : c ∈ l) : l[n1 l c]? = some c := by
  induction l with
  | nil => cases h
  | cons x r ih =>
    rw [n1_cons]
    by_cases hx : x = c
    · rw [if_pos hx, hx]
      rfl
    · rw [if_neg hx, List.getElem?_cons_succ]
      refine ih ?_
      rcases List.mem_cons.mp h with h | h
      · exact absurd h.symm hx
      · exact h
theorem n1_before {l : List Nat} {c k : Nat} (h : k < n1 l c) : l[k]? ≠ some c := by
  induction l generalizing k with
  | nil => simp
  | cons x r ih =>
    rw [n1_cons] at h
    by_cases hx : x = c
    · rw [if_pos hx] at h
      omega
    · rw [if_neg hx] at h
      cases k with
      | zero => simpa using hx
      | succ k =>
        rw [List.getElem?_cons_succ]
        exact ih (by omega)
theorem n1_eq {l : List Nat} {c k : Nat} (h : l[k]? = some c) (hb : ∀ j, j < k → l[j]? ≠ some c) : n1 l c = k := by
  have hm : c ∈ l := List.mem_of_getElem? h
  have h1 := n1_at hm
  rcases Nat.lt_trichotomy (n1 l c) k with h2 | h2 | h2
  · exact absurd h1 (hb _ h2)
  · exact h2
  · exact absurd h (n1_before h2)
theorem at_one (l : List Nat) (c i : Nat) : StrLaws.At (S l) (S [c]) (S l).length i ↔ l[i]? = some c := by
  have h := StrLaws.subAt_one (S l) c i
  rw [show (⟨#[c]⟩ : Str) = S [c] from rfl] at h
  rw [S_cps] at h
  exact h
theorem findS (l : List Nat) (c : Nat) : Txt.find (S l) (S [c]) = if c ∈ l then (n1 l c : Int) else -1 := by
  unfold Txt.find
  rcases StrLaws.occ_head (S l) (S [c]) 1 (Nat.le_refl 1) with ⟨h0, hn⟩ | ⟨i, r, h0, hi, hn⟩
  · rw [h0]
    have hc : c ∉ l := fun hm => by
      obtain ⟨j, hj⟩ := List.getElem?_of_mem hm
      exact hn j ((at_one l c j).mpr hj)
    rw [if_neg hc]
  · rw [h0]
    have h1 := (at_one l c i).mp hi
    rw [if_pos (List.mem_of_getElem? h1), n1_eq h1 fun j hj e => hn j hj ((at_one l c j).mpr e)]
theorem startsS (l : List Nat) (c : Nat) : Txt.startswith (S l) (S [c]) = decide (l[0]? = some c) := by
  have h := at_one l c 0
  unfold StrLaws.At at h
  unfold Txt.startswith
  rw [Bool.eq_iff_iff, Bool.and_eq_true, decide_eq_true_eq, decide_eq_true_eq]
  exact h
theorem partS (l : List Nat) (c : Nat) : (Txt.partition (S l) (S [c])).1 = S (l.take (n1 l c)) := by
  have ey : TL.tl (S [c]) = c :: [] := by simp [TL.tl, S]
  by_cases h : c ∈ l
  · have h1 := n1_at h
    have hlt : n1 l c < l.length := n1_mem.mp h
    have e : S l = S (l.take (n1 l c)) ++ S [c] ++ S (l.drop (n1 l c + 1)) := by
      rw [S_app, S_app]
      congr 1
      have e2 : l.drop (n1 l c) = c :: l.drop (n1 l c + 1) := by
        rw [List.drop_eq_getElem_cons hlt]
        rw [List.getElem?_eq_getElem hlt] at h1
        rw [Option.some.inj h1]
      rw [List.append_assoc, List.singleton_append, ← e2, List.take_append_drop]
    have hno : c ∉ TL.tl (S (l.take (n1 l c))) := by
      have : TL.tl (S (l.take (n1 l c))) = l.take (n1 l c) := by simp [TL.tl, S]
      rw [this]
      intro hm
      obtain ⟨j, hj⟩ := List.getElem?_of_mem hm
      have hj2 : j < n1 l c := by
        have := (List.getElem?_eq_some_iff.mp hj).1
        rw [List.length_take] at this
        omega
      rw [List.getElem?_take_of_lt hj2] at hj
      exact n1_before hj2 hj
    have q := TL.partition_app (y := S [c]) ey (a := S (l.take (n1 l c))) (b := S (l.drop (n1 l c + 1))) hno
    rw [← e] at q
    rw [q]
  · have hno : c ∉ TL.tl (S l) := by
      have : TL.tl (S l) = l := by simp [TL.tl, S]
      rw [this]
      exact h
    rw [TL.partition_none ey hno, n1_not h, List.take_length]
/-! cuts -/
section
variable {H : Hp} {Q : VK} {l : List Nat} {i j : Int} {m n : Nat}
theorem iSlTo (hz : l.length ≤ 100000) (e : i = (n : Int)) (h : Q (.str (S (l.take n))) H) : rSlS (.str (S l)) none (some i) H Q := by
  subst e
  refine ⟨S l, rfl, S_le hz, ?_⟩
  rw [S_to]
  exact h
theorem iSlFrom (hz : l.length ≤ 100000) (e : i = (n : Int)) (h : Q (.str (S (l.drop n))) H) : rSlS (.str (S l)) (some i) none H Q := by
  subst e
  refine ⟨S l, rfl, S_le hz, ?_⟩
  rw [S_from]
  exact h
theorem S_mid (l : List Nat) (m n : Nat) : cutS (S l) (some (m : Int)) (some (n : Int)) = S ((l.take n).drop m) := by
  rw [S_cut]
  have e1 : HT.sIx l.length 0 (some (m : Int)) = min m l.length := by
    have q := S_from l m
    unfold HT.sIx
    simp only []
    split
    · omega
    · omega
  have e2 : HT.sIx l.length l.length (some (n : Int)) = min n l.length := by
    unfold HT.sIx
    simp only []
    split
    · omega
    · omega
  rw [e1, e2]
  congr 1
  rw [List.drop_take]
  by_cases h : m ≤ l.length
  · rw [Nat.min_eq_left h]
    by_cases h2 : n ≤ l.length
    · rw [Nat.min_eq_left h2]
    · rw [Nat.min_eq_right (Nat.le_of_not_le h2)]
      have h3 : (l.drop m).length = l.length - m := List.length_drop
      rw [List.take_of_length_le (Nat.le_of_eq h3), List.take_of_length_le (by omega)]
  · rw [Nat.min_eq_right (Nat.le_of_not_le h), List.drop_of_length_le (Nat.le_refl _), List.drop_of_length_le (Nat.le_of_not_le h)]
    simp
theorem iSlMid (hz : l.length ≤ 100000) (e1 : i = (m : Int)) (e2 : j = (n : Int)) (h : Q (.str (S ((l.take n).drop m))) H) : rSlS (.str (S l)) (some i) (some j) H Q := by
  subst e1 e2
  refine ⟨S l, rfl, S_le hz, ?_⟩
  rw [S_mid]
  exact h
end
theorem iAddS {a b : List Nat} {H : Hp} {Q : VK} (hz : a.length + b.length ≤ 100000) (h : Q (.str (S (a ++ b))) H) : rAddS (.str (S a)) (.str (S b)) H Q := ⟨a, b, rfl, rfl, hz, h⟩
theorem iLenS1 {l : List Nat} {H : Hp} {Q : VK} (hz : l.length ≤ 100000) (h : Q (.int (l.length : Nat)) H) : rLenS1 [.str (S l)] H Q := ⟨l, rfl, hz, h⟩
theorem iInS {c : Nat} {l : List Nat} {H : Hp} {Q : VK} (h : Q (.bl (decide (c ∈ l))) H) : rInS false (.str (S [c])) (.str (S l)) H Q := ⟨c, l, rfl, rfl, by simpa using h⟩
theorem iNotInS {c : Nat} {l : List Nat} {H : Hp} {Q : VK} (h : Q (.bl (!decide (c ∈ l))) H) : rInS true (.str (S [c])) (.str (S l)) H Q := ⟨c, l, rfl, rfl, by simpa using h⟩
def rFindS : V → List V → Hp → VK → Prop := fun x xs H Q => ∃ (l : List Nat) (c : Nat), x = .str (S l) ∧ xs = [.str (S [c])] ∧ Q (.int (if c ∈ l then (n1 l c : Int) else -1)) H
theorem mt_findS {X : Cx} : MtR X "str.find" rFindS := by
  intro pins s σ H x xs v us Q I rx rs h
  obtain ⟨l, c, rfl, rfl, q⟩ := h
  exact mt_find pins s σ H _ _ v us Q I rx rs ⟨_, _, rfl, rfl, by rw [findS]; exact q⟩
def rStartS : V → List V → Hp → VK → Prop := fun x xs H Q => ∃ (l : List Nat) (c : Nat), x = .str (S l) ∧ xs = [.str (S [c])] ∧ Q (.bl (decide (l[0]? = some c))) H
theorem mt_startS {X : Cx} : MtR X "str.startswith" rStartS := by
  intro pins s σ H x xs v us Q I rx rs h
  obtain ⟨l, c, rfl, rfl, q⟩ := h
  exact mt_startswith pins s σ H _ _ v us Q I rx rs ⟨_, _, rfl, rfl, by rw [startsS]; exact q⟩
def rPartS : V → List V → Hp → VK → Prop := fun x xs H Q => ∃ (l : List Nat) (c : Nat), x = .str (S l) ∧ xs = [.str (S [c])] ∧ l.length ≤ 100000 ∧ ∀ p, H p = none → ∀ y z : V, Q (.ref p) (upd H p (.tup [.str (S (l.take (n1 l c))), y, z]))
theorem mt_partS {X : Cx} : MtR X "str.partition" rPartS := by
  intro pins s σ H x xs v us Q I rx rs h
  obtain ⟨l, c, rfl, rfl, hz, q⟩ := h
  exact mt_partition pins s σ H _ _ v us Q I rx rs ⟨_, _, rfl, rfl, rfl, S_le hz, fun p hp => by rw [partS]; exact q p hp _ _⟩
theorem iFindS {c : Nat} {l : List Nat} {H : Hp} {Q : VK} (h : Q (.int (if c ∈ l then (n1 l c : Int) else -1)) H) : rFindS (.str (S l)) [.str (S [c])] H Q := ⟨l, c, rfl, rfl, h⟩
theorem iFindYes {c : Nat} {l : List Nat} {H : Hp} {Q : VK} (hc : c ∈ l) (h : Q (.int (n1 l c : Nat)) H) : rFindS (.str (S l)) [.str (S [c])] H Q := iFindS (by rw [if_pos hc]; exact h)
theorem iFindNo {c : Nat} {l : List Nat} {H : Hp} {Q : VK} (hc : ¬ c ∈ l) (h : Q (.int (-1)) H) : rFindS (.str (S l)) [.str (S [c])] H Q := iFindS (by rw [if_neg hc]; exact h)
theorem iStartS {c : Nat} {l : List Nat} {H : Hp} {Q : VK} (h : Q (.bl (decide (l[0]? = some c))) H) : rStartS (.str (S l)) [.str (S [c])] H Q := ⟨l, c, rfl, rfl, h⟩
theorem iPartS {c : Nat} {l : List Nat} {H : Hp} {Q : VK} (hz : l.length ≤ 100000) (h : ∀ p, H p = none → ∀ y z : V, Q (.ref p) (upd H p (.tup [.str (S (l.take (n1 l c))), y, z]))) : rPartS (.str (S l)) [.str (S [c])] H Q := ⟨l, c, rfl, rfl, hz, h⟩
theorem inV_S (t : List Nat) : ∀ us : List (List Nat), inV (.str (S t)) (us.map fun l => V.str (S l)) = decide (t ∈ us)
  | [] => rfl
  | u :: r => by
    have ih := inV_S t r
    unfold inV at ih ⊢
    rw [List.map_cons, List.any_cons, ih]
    have e : eqV (V.str (S u)) (V.str (S t)) = decide (t = u) := by
      show (S u == S t) = _
      by_cases h : t = u
      · subst h
        simp
      · have h2 : S u ≠ S t := fun e => h (S_inj.mp e).symm
        rw [beq_eq_false_iff_ne.mpr h2, decide_eq_false h]
    rw [e, Bool.eq_iff_iff]
    simp
/-- a text among written texts -/
theorem iInL {K : PySem.W.Frag} {p : Addr} {t : List Nat} {us : List (List Nat)} {xs : List V} {H : Hp} {Q : VK} (hq : SqL K H p xs ∨ SqT K H p xs) (hx : xs = us.map fun l => V.str (S l)) (h : Q (.bl (decide (t ∈ us))) H) : rIn K false (.str (S t)) (.ref p) H Q := by
  subst hx
  refine ⟨p, _, rfl, hq, rfl, ?_, ?_⟩
  · rw [List.all_map]
    simp [flatV]
  · rw [if_neg Bool.false_ne_true, inV_S]
    exact h
theorem iNInL {K : PySem.W.Frag} {p : Addr} {t : List Nat} {us : List (List Nat)} {xs : List V} {H : Hp} {Q : VK} (hq : SqL K H p xs ∨ SqT K H p xs) (hx : xs = us.map fun l => V.str (S l)) (h : Q (.bl (!decide (t ∈ us))) H) : rIn K true (.str (S t)) (.ref p) H Q := by
  subst hx
  refine ⟨p, _, rfl, hq, rfl, ?_, ?_⟩
  · rw [List.all_map]
    simp [flatV]
  · rw [if_pos rfl, inV_S]
    exact h
end Vk
set_option Elab.async false
set_option linter.all false
set_option maxRecDepth 100000
set_option maxHeartbeats 4000000
namespace Vk
open PySem PySem.Spec PyProof.Rows L2
/-! V2: isinstance -/
section
variable {K : PySem.W.Frag} {H : Hp} {Q : VK}
theorem isi_int_int {i : Int} (h : Q (.bl true) H) : rIsi K [.int i, .ty "int"] H Q := ⟨_, _, _, _, true, rfl, .ty "int", .base (.int i), rfl, h⟩
theorem isi_int_bool {i : Int} (h : Q (.bl false) H) : rIsi K [.int i, .ty "bool"] H Q := ⟨_, _, _, _, false, rfl, .ty "bool", .base (.int i), rfl, h⟩
theorem isi_int_str {i : Int} (h : Q (.bl false) H) : rIsi K [.int i, .ty "str"] H Q := ⟨_, _, _, _, false, rfl, .ty "str", .base (.int i), rfl, h⟩
theorem isi_str_str {z : Str} (h : Q (.bl true) H) : rIsi K [.str z, .ty "str"] H Q := ⟨_, _, _, _, true, rfl, .ty "str", .base (.str z), rfl, h⟩
theorem isi_str_int {z : Str} (h : Q (.bl false) H) : rIsi K [.str z, .ty "int"] H Q := ⟨_, _, _, _, false, rfl, .ty "int", .base (.str z), rfl, h⟩
theorem isi_str_bool {z : Str} (h : Q (.bl false) H) : rIsi K [.str z, .ty "bool"] H Q := ⟨_, _, _, _, false, rfl, .ty "bool", .base (.str z), rfl, h⟩
theorem isi_bl_bool {b : Bool} (h : Q (.bl true) H) : rIsi K [.bl b, .ty "bool"] H Q := ⟨_, _, _, _, true, rfl, .ty "bool", .base (.bl b), rfl, h⟩
theorem isi_bl_int {b : Bool} (h : Q (.bl true) H) : rIsi K [.bl b, .ty "int"] H Q := ⟨_, _, _, _, true, rfl, .ty "int", .base (.bl b), rfl, h⟩
theorem isi_bl_str {b : Bool} (h : Q (.bl false) H) : rIsi K [.bl b, .ty "str"] H Q := ⟨_, _, _, _, false, rfl, .ty "str", .base (.bl b), rfl, h⟩
end
end Vk
set_option Elab.async false
set_option linter.all false
set_option maxRecDepth 100000
set_option maxHeartbeats 4000000
namespace Vk
open PySem PySem.Spec PyProof.Rows L2
/-! V3: comprehensions, loops, texts joined -/
theorem SqL.off {K : PySem.W.Frag} {H1 H2 : Hp} {a D : Addr} {xs : List V} (h : SqL K H1 a xs) (hD : H1 D = none) (off : ∀ b, b ≠ D → H2 b = H1 b) : SqL K H2 a xs := by
  rcases h with h | h
  · refine .inl ?_
    rcases h with h | ⟨o, h⟩
    · exact .inl ((off a (ne_of_none h hD)).trans h)
    · exact .inr ⟨o, (off a (ne_of_none h hD)).trans h⟩
  · exact .inr h
theorem SqL.same {K : PySem.W.Frag} {H1 H2 : Hp} {a : Addr} {xs : List V} (h : SqL K H1 a xs) (s : Same H1 H2) : SqL K H2 a xs := by
  rcases h with h | h
  · refine .inl ?_
    rcases h with h | ⟨o, h⟩
    · exact .inl (s _ _ h)
    · exact .inr ⟨o, s _ _ h⟩
  · exact .inr h
section
variable {K : PySem.W.Frag} {σ : L2.St} {H H1 : Hp} {Q : VK} {te tl : TE} {tt : TT} {vs : List Nat} {g : TG} {ta : TA}
/-- the loop of a comprehension, for the walk to stop at -/
def LcG (J : It) (g : TG) (tt : TT) (te : TE) (vs : List Nat) (σ : L2.St) (H1 : Hp) (D : Addr) (Q : VK) : Prop := ∃ W : Nat → Nat → Hp → Prop, (∃ m, W 0 m (upd H1 D (.lst []))) ∧ ∀ i m H, W i m H →
  (J.stop i H ∧ Q (.ref D) H) ∨ (J.go i H ∧ ∃ Nx : Hp → Prop, (∀ H', Nx H' → ∃ m', m' < m ∧ W (i + 1) m' H') ∧ ∀ x H', J.yld i H x H' → g x (wipe σ vs) H' fun σ2 H2 => wipe σ2 vs = wipe σ vs ∧ tt σ2 H2 fun b H3 =>
    if b = true then te σ2 H3 fun y H4 => ∃ acc, H4 D = some (.lst acc) ∧ acc.length < sizeLine ∧ Nx (upd H4 D (.lst (acc ++ [y]))) else Nx H3)
theorem iLcL (h : tl σ H fun x H1 => ∃ a, x = .ref a ∧ (∃ xs, SqL K H1 a xs) ∧ ∀ D, H1 D = none → LcG (Itl K a) g tt te vs σ H1 D Q) : tLc (iList K tl) g tt te vs σ H Q := h
theorem iLcS (h : tl σ H fun x H1 => ∃ z, x = .str z ∧ ∀ D, H1 D = none → LcG (Its z) g tt te vs σ H1 D Q) : tLc (iStr tl) g tt te vs σ H Q := h
theorem iLcR1 (h : ta σ H fun ws H1 => ∃ j : Int, ws = [.int j] ∧ -(2 ^ 62) ≤ j ∧ j < 2 ^ 62 ∧ ∀ D, H1 D = none → LcG (Itr 0 j.toNat) g tt te vs σ H1 D Q) : tLc (iRng1 ta) g tt te vs σ H Q := h
/-- a comprehension over a list that stands still, nothing else done -/
theorem lcg_list {a D : Addr} {xs : List V} {j : Nat} (p : V → Bool) (v : V → V) (hl : xs.length ≤ 4000) (hx : SqL K H1 a xs) (hD : H1 D = none)
    (hw : ∀ x, wipe ((wipe σ vs).set j (some x)) vs = wipe σ vs)
    (ht : ∀ x ∈ xs, ∀ (H2 : Hp) (Q : Bool → Hp → Prop), (∀ b, b ≠ D → H2 b = H1 b) → Q (p x) H2 → tt ((wipe σ vs).set j (some x)) H2 Q)
    (he : ∀ x ∈ xs, p x = true → ∀ (H2 : Hp) (Q : VK), (∀ b, b ≠ D → H2 b = H1 b) → Q (v x) H2 → te ((wipe σ vs).set j (some x)) H2 Q)
    (hq : Q (.ref D) (upd H1 D (.lst ((xs.filter p).map v)))) : LcG (Itl K a) (gName j) tt te vs σ H1 D Q := by
  refine lc_it (walk_list (K := K) (a := a) (xs := xs)) (fun i H => H = upd H1 D (.lst (((xs.take i).filter p).map v))) rfl (fun i H hi e => ?_) ?_ ?_
  · subst e
    exact SqL.off hx hD fun b hb => upd_ne hb
  · rintro i x H H' hi hP ⟨rfl, hc⟩
    subst hP
    have hm : x ∈ xs := List.mem_of_getElem? hc
    have off : ∀ b, b ≠ D → (upd H1 D (.lst (((xs.take i).filter p).map v))) b = H1 b := fun b hb => upd_ne hb
    have e1 : xs.take (i + 1) = xs.take i ++ [x] := by
      rw [List.take_add_one, hc]
      rfl
    refine ⟨hw _, ht x hm _ _ off ?_⟩
    by_cases hp : p x = true
    · rw [if_pos hp]
      refine he x hm hp _ _ off ⟨_, upd_same, ?_, ?_⟩
      · rw [List.length_map, sizeLine_eq]
        have h1 := List.length_filter_le p (xs.take i)
        rw [List.length_take] at h1
        omega
      · rw [upd_upd, e1, List.filter_append, List.filter_cons_of_pos hp, List.filter_nil, List.map_append]
        rfl
    · rw [if_neg hp, e1, List.filter_append, List.filter_cons_of_neg hp, List.filter_nil, List.append_nil]
  · rintro H rfl
    rw [List.take_length]
    exact hq
/-! for -/
/-- the loop of a for, for the walk to stop at -/
def ForG (J : It) (g : TG) (tb : TS) (D : Ends) (σ : L2.St) (H1 : Hp) : Prop := ∃ W : Nat → Nat → L2.St → Hp → Prop, (∃ m, W 0 m σ H1) ∧ ∀ i m σ H, W i m σ H →
  (J.stop i H ∧ D.nx σ H) ∨ (J.go i H ∧ ∃ N : L2.St → Hp → Prop, (∀ σ' H', N σ' H' → ∃ m', m' < m ∧ W (i + 1) m' σ' H') ∧ ∀ x H', J.yld i H x H' → g x σ H' fun σ2 H2 => tb { D with nx := N, ct := N, bk := D.nx } σ2 H2)
theorem iForL {D : Ends} {tb : TS} (h : tl σ H fun x H1 => ∃ a, x = .ref a ∧ (∃ xs, SqL K H1 a xs) ∧ ForG (Itl K a) g tb D σ H1) : tFor (iList K tl) g tb D σ H := h
theorem iForS {D : Ends} {tb : TS} (h : tl σ H fun x H1 => ∃ z, x = .str z ∧ ForG (Its z) g tb D σ H1) : tFor (iStr tl) g tb D σ H := h
theorem iForR1 {D : Ends} {tb : TS} (h : ta σ H fun ws H1 => ∃ j : Int, ws = [.int j] ∧ -(2 ^ 62) ≤ j ∧ j < 2 ^ 62 ∧ ForG (Itr 0 j.toNat) g tb D σ H1) : tFor (iRng1 ta) g tb D σ H := h
theorem iForR2 {D : Ends} {tb : TS} (h : ta σ H fun ws H1 => ∃ i j : Int, ws = [.int i, .int j] ∧ (-(2 ^ 62) ≤ i ∧ i < 2 ^ 62 ∧ -(2 ^ 62) ≤ j ∧ j < 2 ^ 62) ∧ ForG (Itr i (j - i).toNat) g tb D σ H1) : tFor (iRng2 ta) g tb D σ H := h
/-- a loop over a text -/
theorem for_S {D : Ends} {tb : TS} {l : List Nat} (Pv : Nat → L2.St → Hp → Prop) (h0 : Pv 0 σ H)
    (hs : ∀ i c σ H, l[i]? = some c → Pv i σ H → g (.str (S [c])) σ H fun σ2 H2 => tb { nx := Pv (i + 1), rt := D.rt, bk := D.nx, ct := Pv (i + 1) } σ2 H2) (hd : ∀ σ H, Pv l.length σ H → D.nx σ H) : ForG (Its (S l)) g tb D σ H := by
  refine for_it walk_str Pv h0 (fun _ _ _ _ _ => trivial) ?_ ?_
  · rintro i x σ H H' hi hP ⟨rfl, c, hc, rfl⟩
    exact hs i c σ _ (S_get.mp hc) hP
  · intro σ H h
    rw [S_size] at h
    exact hd σ H h
/-- a loop over range(n) -/
theorem for_R {D : Ends} {tb : TS} {lo : Int} {n : Nat} (Pv : Nat → L2.St → Hp → Prop) (h0 : Pv 0 σ H)
    (hs : ∀ i σ H, i < n → Pv i σ H → g (.int (lo + (i : Int))) σ H fun σ2 H2 => tb { nx := Pv (i + 1), rt := D.rt, bk := D.nx, ct := Pv (i + 1) } σ2 H2) (hd : ∀ σ H, Pv n σ H → D.nx σ H) : ForG (Itr lo n) g tb D σ H :=
  for_range Pv h0 hs hd
/-- a loop over a list -/
theorem for_L {D : Ends} {tb : TS} {a : Addr} {xs : List V} (Pv : Nat → L2.St → Hp → Prop) (h0 : Pv 0 σ H) (hl : ∀ i σ H, i ≤ xs.length → Pv i σ H → SqL K H a xs)
    (hs : ∀ i x σ H, xs[i]? = some x → Pv i σ H → g x σ H fun σ2 H2 => tb { nx := Pv (i + 1), rt := D.rt, bk := D.nx, ct := Pv (i + 1) } σ2 H2) (hd : ∀ σ H, Pv xs.length σ H → D.nx σ H) : ForG (Itl K a) g tb D σ H :=
  for_list Pv h0 hl hs hd
/-- a comprehension over range(n), which may change the heap -/
theorem lcg_R {D : Addr} {n j : Nat} {lo : Int} (Pv : Nat → Hp → Prop) (h0 : Pv 0 (upd H1 D (.lst []))) (hw : ∀ x, wipe ((wipe σ vs).set j (some x)) vs = wipe σ vs)
    (hs : ∀ i H, i < n → Pv i H → tt ((wipe σ vs).set j (some (.int (lo + (i : Int))))) H fun b H3 => if b = true then te ((wipe σ vs).set j (some (.int (lo + (i : Int))))) H3 fun y H4 => ∃ acc, H4 D = some (.lst acc) ∧ acc.length < sizeLine ∧ Pv (i + 1) (upd H4 D (.lst (acc ++ [y]))) else Pv (i + 1) H3)
    (hd : ∀ H, Pv n H → Q (.ref D) H) : LcG (Itr lo n) (gName j) tt te vs σ H1 D Q := by
  refine lc_it walk_range Pv h0 (fun _ _ _ _ => trivial) ?_ hd
  rintro i x H H' hi hP ⟨rfl, rfl⟩
  exact ⟨hw _, hs i _ hi hP⟩
/-- .. over a text -/
theorem lcg_S {D : Addr} {j : Nat} {l : List Nat} (Pv : Nat → Hp → Prop) (h0 : Pv 0 (upd H1 D (.lst []))) (hw : ∀ x, wipe ((wipe σ vs).set j (some x)) vs = wipe σ vs)
    (hs : ∀ i c H, l[i]? = some c → Pv i H → tt ((wipe σ vs).set j (some (.str (S [c])))) H fun b H3 => if b = true then te ((wipe σ vs).set j (some (.str (S [c])))) H3 fun y H4 => ∃ acc, H4 D = some (.lst acc) ∧ acc.length < sizeLine ∧ Pv (i + 1) (upd H4 D (.lst (acc ++ [y]))) else Pv (i + 1) H3)
    (hd : ∀ H, Pv l.length H → Q (.ref D) H) : LcG (Its (S l)) (gName j) tt te vs σ H1 D Q := by
  refine lc_it walk_str Pv h0 (fun _ _ _ _ => trivial) ?_ ?_
  · rintro i x H H' hi hP ⟨rfl, c, hc, rfl⟩
    exact ⟨hw _, hs i c _ (S_get.mp hc) hP⟩
  · intro H h
    rw [S_size] at h
    exact hd H h
theorem iYes {Q : Bool → Hp → Prop} (h : Q true H) : tYes σ H Q := h
end
/-- what was new is forgotten -/
theorem Fr.forget {L M : List Addr} {H H' : Hp} (f : Fr M H H') (h : ∀ x ∈ M, x ∈ L ∨ H x = Option.none) : Fr L H H' := fun x u hx e => f x u (fun hm => by
  rcases h x hm with h | h
  · exact hx h
  · rw [e] at h
    cases h) e
theorem Fr.forget2 {b D : Addr} {H H' : Hp} (f : Fr [b, D] H H') (h : H D = Option.none) : Fr [b] H H' := f.forget fun x hx => by
  rcases List.mem_cons.mp hx with rfl | hx
  · exact .inl List.mem_cons_self
  · rw [List.mem_singleton] at hx
    subst hx
    exact .inr h
theorem Fr.forget1 {D : Addr} {H H' : Hp} (f : Fr [D] H H') (h : H D = Option.none) : Same H H' := (f.forget (L := []) fun x hx => by
    rw [List.mem_singleton] at hx
    subst hx
    exact .inr h).same
/-- '' joins signs -/
theorem join_S {l : List Nat} (hl : l.length ≤ 4000) : (((l.map fun c => S [c]).map (·.length)).sum + (l.map fun c => S [c]).length * (S []).length ≤ 16777216) ∧ Txt.join (S []) (l.map fun c => S [c]) = S l := by
  refine ⟨?_, join_signs _⟩
  rw [S_len, List.length_nil, Nat.mul_zero, Nat.add_zero, List.map_map]
  have e1 : l.map ((fun x : Str => x.length) ∘ fun c => S [c]) = l.map fun _ => 1 := List.map_congr_left fun c _ => S_len [c]
  rw [e1]
  have e2 : (l.map fun _ => 1).sum = l.length := by
    clear hl e1
    induction l with
    | nil => rfl
    | cons x xs ih => rw [List.map_cons, List.sum_cons, ih, List.length_cons, Nat.add_comm]
  rw [e2]
  omega
theorem iJoinS {K : PySem.W.Frag} {p : Addr} {l : List Nat} {H : Hp} {Q : VK} (hq : SqL K H p (l.map fun c => V.str (S [c]))) (hl : l.length ≤ 4000) (h : Q (.str (S l)) H) :
    ∃ (a : Str) (q : Addr) (ys : List Str), V.str (S []) = .str a ∧ [V.ref p] = [.ref q] ∧ (SqL K H q (ys.map V.str) ∨ SqT K H q (ys.map V.str)) ∧ (ys.map (·.length)).sum + ys.length * a.length ≤ 16777216 ∧ Q (.str (Txt.join a ys)) H := by
  obtain ⟨h1, h2⟩ := join_S hl
  refine ⟨S [], p, l.map fun c => S [c], rfl, rfl, .inl ?_, h1, ?_⟩
  · rw [List.map_map]
    exact hq
  · rw [h2]
    exact h
end Vk
set_option Elab.async false
set_option linter.all false
set_option maxRecDepth 100000
set_option maxHeartbeats 4000000
namespace Vk
open PySem PySem.Spec PyProof.Rows L2
section
variable {K : PySem.W.Frag} {H : Hp} {Q : VK} {a : Addr} {xs : List V}
theorem iSlL {lo hi : Option Int} (hq : SqL K H a xs) (h : ∀ p, H p = none → Q (.ref p) (upd H p (.lst (cutV xs lo hi)))) : rSlL K (.ref a) lo hi H Q := ⟨a, xs, rfl, hq, h⟩
theorem iCat {b : Addr} {ys : List V} (ha : H a = some (.lst xs)) (hb : H b = some (.lst ys)) (hz : xs.length + ys.length ≤ sizeLine) (h : ∀ p, H p = none → Q (.ref p) (upd H p (.lst (xs ++ ys)))) : rCat (.ref a) (.ref b) H Q := ⟨a, b, xs, ys, rfl, rfl, ha, hb, hz, h⟩
theorem iAppend {y : V} (ha : H a = some (.lst xs)) (hz : xs.length < sizeLine) (h : Q .non (upd H a (.lst (xs ++ [y])))) : rAppend (.ref a) [y] H Q := ⟨a, xs, y, rfl, rfl, ha, hz, h⟩
theorem iTruL {R : Bool → Prop} (hq : SqL K H a xs) (h : R (!xs.isEmpty)) : ∃ k, TruV K (.ref a) H k ∧ R k := ⟨_, .inl ⟨xs, hq, rfl⟩, h⟩
theorem iTruNil {R : Bool → Prop} (hq : SqL K H a []) (h : R false) : ∃ k, TruV K (.ref a) H k ∧ R k := ⟨_, .inl ⟨[], hq, rfl⟩, h⟩
theorem iTruCons {R : Bool → Prop} {x : V} (hq : SqL K H a (x :: xs)) (h : R true) : ∃ k, TruV K (.ref a) H k ∧ R k := ⟨_, .inl ⟨_, hq, rfl⟩, h⟩
theorem iListT {l : List Nat} (hl : l.length ≤ 4000) (h : ∀ p, H p = none → Q (.ref p) (upd H p (.lst (l.map fun c => V.str (S [c]))))) : rListT [.str (S l)] H Q := by
  refine ⟨S l, rfl, (by rw [S_len]; exact hl), fun p hp => ?_⟩
  have e : (signsOf (S l)).map V.str = l.map fun c => V.str (S [c]) := by
    rw [signs_S, List.map_map]
    rfl
  rw [e]
  exact h p hp
end
end Vk
set_option Elab.async false
set_option linter.all false
set_option maxRecDepth 100000
set_option maxHeartbeats 4000000
namespace Vk
open PySem PySem.Spec PyProof.Rows L2
/-! o.m(e, ..) whose def may raise, in a try -/
def tMethS (C : Addr) (m : Str) (sp : Sp) (E : L2.St → XK) (ta : TE) (t : TA) : TE := fun σ H Q => ta σ H fun x H1 => ∃ a dx fs, x = .ref a ∧ H1 a = some (.ins C dx fs) ∧ fs.lookup m = none ∧ t σ H1 fun vs H2 => sp (x :: vs) H2 Q (E σ)
section
variable {X : Cx} {CX : CXT} {k : Nat} {f C : Addr} {fd : FuncData} {ps : List Str} {sp : Sp} {E : L2.St → XK} {m : Str} {apos pos : Pos} {o e : Expr} {es : List Expr} {ta : TE} {t : TA}
theorem pe_methS {pl : Sem Bool} (he : PE X o ta) (c : Cls X.K C) (hm : Meth X.K C m f) (F : FnOk X.prog X.w X.K X.mg X.base CX k f fd ps sp) (hr : Room k X.A) (hb : Binds X.K fd ps []) (hx : ∀ σ, PassesAt CX X σ (E σ)) (ha : PA X (e :: es) t)
    (hst : starEach (e :: es) X.env = (false, eval e X.env) :: starEach es X.env := by rfl) (hpl : (backTo pos (starEach es X.env)).any (·.1) = false := by rfl)
    (ht : eval (.Call (.Attribute o m apos) (e :: es) [] pos) X.env = (do
      let ov ← eval o X.env
      standAt apos.atName
      let (f, first) ← holding [ov] (getMethod ov m pl)
      callWith pos f first (backTo pos (starEach (e :: es) X.env)) (backToKw pos (keywordEach [] X.env))) := by rfl) :
    PE X (.Call (.Attribute o m apos) (e :: es) [] pos) (tMethS C m sp E ta t) := by
  refine ⟨fun pins s σ H Q I h => ?_⟩
  refine PySem.W.methodCall_KW (pl := pl) (thn (he.run pins s σ H _ I h) fun u s1 ⟨x, H1, I1, rx, a, dx, fs, ex, ea, l, q⟩ => ?_) ht
  subst ex
  obtain rfl : u = Value.ref a := rx
  refine getmeth_ok I1 ea c hm l ?_
  refine PySem.W.callWith_K (first := [.ref a]) (h₀ := X.base) I.ok.mod.kin hm.kp (thn (ha.run pos pins s1 σ H1 _ I1 q) fun us s2 ⟨vs, H2, I2, r, q2⟩ => ⟨I2.kIn, ?_⟩) hst hpl
  exact run_fnS (us := .ref a :: us) (vs := .ref a :: vs) F hr hb (hx σ) I2 (.cons rfl r) q2
end
end Vk
set_option Elab.async false
set_option linter.all false
set_option maxRecDepth 100000
set_option maxHeartbeats 4000000
namespace Vk
open PySem PySem.Spec PyProof.Rows L2
def top (i : Nat) : Stmt := PySem.Challenge.pw_talepost_k29_books_changed.main.body.getD i (.Pass ⟨0, 0, 0, 0⟩)
abbrev sDiff : Stmt := top 23
/-- the built-in names stand for themselves -/
structure Zs (mg : Str → Option Value) : Prop where
  z_len : mg "len" = none
  z_set : mg "set" = none
  z_all : mg "all" = none
  z_abs : mg "abs" = none
  z_int : mg "int" = none
  z_range : mg "range" = none
  z_sorted : mg "sorted" = none
  z_isinstance : mg "isinstance" = none
  z_str : mg "str" = none
  z_bool : mg "bool" = none
  z_list : mg "list" = none
  z_tuple : mg "tuple" = none
  z_any : mg "any" = none
  z_enum : mg "enumerate" = none
  z_min : mg "min" = none
  z_VE : mg "ValueError" = none
structure TxA (K : PySem.W.Frag) (mg : Str → Option Value) (aDiff : Addr) : Prop extends Zs mg where
  gDiff : mg "differ_within" = some (.ref aDiff)
theorem sz4 {n : Nat} (h : n ≤ 4000) : n ≤ sizeLine := by rw [sizeLine_eq]; omega
section
variable {P : Program} {w : World} {K : PySem.W.Frag} {mg : Str → Option Value} {base : Heap} {aDiff : Addr}
/-! differ_within -/
def Differ (t a : List Nat) : Prop := t.Nodup ∧ ∀ c ∈ t, c ∈ a
instance (t a : List Nat) : Decidable (Differ t a) := inferInstanceAs (Decidable (_ ∧ _))
def spDiff : Sp := fun vs H Q _ => ∃ t a : List Nat, vs = [.str (S t), .str (S a)] ∧ t.length ≤ 4000 ∧ ∀ H', Same H H' → Q (.bl (decide (Differ t a))) H'
theorem scDiff : FnScope ["text", "allowed", "letter"] ["text", "allowed"] (defScope sDiff) := ⟨rfl, rfl, rfl, by decide +kernel, rfl, by decide +kernel, by decide +kernel⟩
theorem ok_diff {f : Addr} {fd : FuncData} (F : Fun K "differ_within" "differ_within" sDiff f fd) (T : TxA K mg aDiff) : FnOk P w K mg base CX0 1 f fd ["text", "allowed"] spDiff := by
  refine F.ok scDiff (fun vs H Q E h => ?_) (fun cdv A outer s H vs Q E hr h => ?_)
  · obtain ⟨t, a, rfl, _⟩ := h
    rfl
  · obtain ⟨t, a, rfl, hl, k⟩ := h
    refine ⟨_, (pss_one (ps_ret (pe_and (pe_cmpR op_eq (pe_lenSetT (by rfl) T.z_len (by rfl) T.z_set (pv 0)) (pe_callB call_len_str (by rfl) T.z_len (by decide +kernel) (pa_cons (pv 0) pa_nil)) (nomark _)) (pe_one (pe_callB (cr_all rfl) (by rfl) T.z_all (by decide +kernel) (pa_cons (pe_lc (own := [("letter", 2)]) (g := gName 2) (by rfl) scDiff.nd (pi_str (pv 0)) (blkOk_by (own := [("letter", 2)]) (N := ["text", "allowed", "letter"]) (sc := defScope sDiff) (by decide +kernel)) (fun _ _ _ _ _ => pg_name (i := 2) scDiff.nd rfl (Or.inl rfl)) (fun _ _ _ _ _ => pts_nil) (fun _ _ _ _ _ => (pe_cmpR op_in_sign (pv 2) (pv 1) rfl))) pa_nil)))))), ?_⟩
    have e1 : ((metAt (S t).cps.toList (S t).cps.toList.length).length = t.length) ↔ t.Nodup := by
      rw [S_cps]
      exact metAt_end t
    refine ⟨_, rfl, _, rfl, by rw [S_len]; exact hl, _, rfl, _, rfl, sz4 (by rw [S_len]; exact hl), rfl, _, rfl, ?_⟩
    have e2 : ((V.int ((metAt (S t).cps.toList (S t).cps.toList.length).length : Nat)) = V.int ((S t).length : Nat)) ↔ t.Nodup := by
      rw [S_len, ← e1]
      constructor
      · intro h
        have h2 := V.int.inj h
        omega
      · intro h
        rw [h]
    refine ite2 (fun hn => ?_) (fun hn => ?_)
    · have hnd : t.Nodup := e2.mp (of_decide_eq_true hn)
      refine ⟨_, rfl, _, rfl, fun D hD => lc_text (fun _ => true) (fun c => V.bl (decide (c ∈ a))) hl (fun _ => rfl) (fun _ _ _ _ _ q => q) (fun c hc _ H2 Q2 _ q => ⟨_, rfl, _, rfl, c, S a, rfl, rfl, by rw [S_cps]; exact q⟩) ?_⟩
      refine ⟨D, t.map (fun c => decide (c ∈ a)), rfl, ?_, ?_⟩
      · rw [List.map_map]
        refine SqL.of ?_
        rw [upd_same, List.filter_eq_self.mpr (fun _ _ => rfl)]
        rfl
      · have e3 : (t.map fun c => decide (c ∈ a)).all id = decide (Differ t a) := by
          rw [Bool.eq_iff_iff]
          simp [Differ, hnd]
        rw [e3]
        exact k _ fun b o e => by rw [upd_ne (ne_of_none e hD)]; exact e
    · have hnd : ¬ t.Nodup := fun z => hn (decide_eq_true (e2.mpr z))
      have e3 : decide (Differ t a) = false := decide_eq_false fun z => hnd z.1
      have q := k H (Same.refl H)
      rw [e3] at q
      exact q
end
def Kp (b : Addr) (H H' : Hp) : Prop := ∀ c o, c ≠ b → H c = some o → H' c = some o
theorem Kp.refl (b : Addr) (H : Hp) : Kp b H H := fun _ _ _ h => h
theorem Kp.trans {b : Addr} {H H1 H2 : Hp} (a : Kp b H H1) (c : Kp b H1 H2) : Kp b H H2 := fun d o h e => c d o h (a d o h e)
theorem Kp.upd (b : Addr) (H : Hp) (o : HO) : Kp b H (upd H b o) := fun c u h e => by rw [upd_ne h]; exact e
def azL : List Nat := (PySem.Str.ofString "abcdefghijklmnopqrstuvwxyz").cps.toList
theorem az_S : PySem.Str.ofString "abcdefghijklmnopqrstuvwxyz" = S azL := S_of _
theorem az_len : azL.length = 26 := by decide +kernel
theorem az_nodup : azL.Nodup := by decide +kernel
theorem Differ.take {l a : List Nat} (h : Differ l a) (i : Nat) : Differ (l.take i) a := ⟨h.1.sublist (List.take_sublist i l), fun c hc => h.2 c (List.mem_of_mem_take hc)⟩
theorem differ_step {l a : List Nat} {i c : Nat} (hc : l[i]? = some c) : Differ (l.take (i + 1)) a ↔ (Differ (l.take i) a ∧ c ∈ a ∧ c ∉ l.take i) := by
  have hi : i < l.length := (List.getElem?_eq_some_iff.mp hc).1
  have e : l.take (i + 1) = l.take i ++ [c] := by
    rw [List.take_succ, hc]
    rfl
  unfold Differ
  rw [e, List.nodup_append]
  constructor
  · rintro ⟨⟨h1, _, h3⟩, h2⟩
    refine ⟨⟨h1, fun d hd => h2 d (List.mem_append_left _ hd)⟩, h2 c (List.mem_append_right _ (List.mem_singleton.mpr rfl)), fun z => h3 c z c (List.mem_singleton.mpr rfl) rfl⟩
  · rintro ⟨⟨h1, h2⟩, h3, h4⟩
    refine ⟨⟨h1, by simp, fun x hx y hy exy => ?_⟩, fun d hd => ?_⟩
    · rw [List.mem_singleton] at hy
      subst hy exy
      exact h4 hx
    · rcases List.mem_append.mp hd with h | h
      · exact h2 d h
      · rw [List.mem_singleton] at h
        subst h
        exact h3
def dueT (l v : List Nat) : Str := if l.length < 1 ∨ 4 < l.length ∨ ¬ Differ l azL then "letters" else if ¬ Differ v l then "vowels" else ""
abbrev sAlph : Stmt := top 22
abbrev sEq : Stmt := inClass (top 22) 3
def consL (l v : List Nat) : List Nat := (srtL l).filter fun c => !decide (c ∈ v)
/-- what an alphabet shows: letters, vowels, consonants, signs -/
def four (l v : List Nat) : List Str := [S (srtL l), S (srtL v), S (consL l v), S (45 :: srtL l)]
def alF (l v : List Nat) : List (Str × V) := [("letters", .str (S (srtL l))), ("vowels", .str (S (srtL v))), ("consonants", .str (S (consL l v))), ("signs", .str (S (45 :: srtL l)))]
def IsAl (C : Addr) (H : Hp) (a : Addr) (l v : List Nat) : Prop := ∃ dx, H a = some (.ins C dx (alF l v))
theorem IsAl.same {C a : Addr} {H H' : Hp} {l v : List Nat} (h : IsAl C H a l v) (s : Same H H') : IsAl C H' a l v := by
  obtain ⟨dx, e⟩ := h
  exact ⟨dx, s _ _ e⟩
structure AlF (K : PySem.W.Frag) (C : Addr) : Prop where
  cl : Cls K C
  nL : NoAttr K C "letters"
  nV : NoAttr K C "vowels"
  nC : NoAttr K C "consonants"
  nS : NoAttr K C "signs"
  ic : PySem.W.findIn K (.ref C) "__class__" = some (some (.builtin "object.__class__"))
  ig : PySem.W.specialIn K (.builtin "object.__class__") "__get__" = some (some (.builtin "getset_descriptor.__get__"))
  it : PySem.W.takesIn K (.builtin "object.__class__") = some true
  im : PySem.W.mroIn K C (.type "object") = some true
theorem joined {l : List Nat} {ys : List Str} (hl : l.length < 64) (hp : ys.Perm (signsOf (S l))) (hs : sortedS ys = true) :
    ((ys.map (·.length)).sum + ys.length * (PySem.Str.ofString "").length ≤ 16777216) ∧ Txt.join (PySem.Str.ofString "") ys = S (srtL l) := by
  rw [signs_S] at hp
  have e := sorted_signs hp hs
  subst e
  have e0 : PySem.Str.ofString "" = S [] := by decide +kernel
  rw [e0]
  refine ⟨?_, join_signs _⟩
  rw [S_len, List.length_nil, Nat.mul_zero, Nat.add_zero, List.map_map]
  have e1 : (srtL l).map ((fun x : Str => x.length) ∘ fun c => S [c]) = (srtL l).map fun _ => 1 := List.map_congr_left fun c _ => S_len [c]
  rw [e1]
  have e2 : ((srtL l).map fun _ => 1).sum = (srtL l).length := by
    induction srtL l with
    | nil => rfl
    | cons x xs ih => rw [List.map_cons, List.sum_cons, ih, List.length_cons, Nat.add_comm]
  rw [e2, srtL_len]
  omega
theorem joinedL {l : List Nat} (hl : l.length < 1000) : (((l.map fun c => S [c]).map (·.length)).sum + (l.map fun c => S [c]).length * (PySem.Str.ofString "").length ≤ 16777216) ∧ Txt.join (PySem.Str.ofString "") (l.map fun c => S [c]) = S l := by
  have e0 : PySem.Str.ofString "" = S [] := by decide +kernel
  rw [e0]
  refine ⟨?_, join_signs _⟩
  rw [S_len, List.length_nil, Nat.mul_zero, Nat.add_zero, List.map_map]
  have e1 : l.map ((fun x : Str => x.length) ∘ fun c => S [c]) = l.map fun _ => 1 := List.map_congr_left fun c _ => S_len [c]
  rw [e1]
  have e2 : (l.map fun _ => 1).sum = l.length := by
    clear hl e1
    induction l with
    | nil => rfl
    | cons x xs ih => rw [List.map_cons, List.sum_cons, ih, List.length_cons, Nat.add_comm]
  rw [e2]
  omega
theorem upd_laid {H : Hp} {p : Addr} {o : HO} (h : H p = none) : Same H (upd H p o) := fun b u e => by rw [upd_ne (ne_of_none e h)]; exact e
theorem Same.trans {A B C : Hp} (h : Same A B) (k : Same B C) : Same A C := fun b u e => k b u (h b u e)
section
variable {P : Program} {w : World} {K : PySem.W.Frag} {mg : Str → Option Value} {base : Heap} {aDiff : Addr}
end
theorem S_eq_iff {a b : List Nat} : decide ((V.str (S a)) = V.str (S b)) = decide (a = b) := by
  have e : ((V.str (S a)) = V.str (S b)) ↔ a = b := ⟨fun h => S_inj.mp (V.str.inj h), fun h => by rw [h]⟩
  rw [Bool.eq_iff_iff, decide_eq_true_iff, decide_eq_true_iff]
  exact e
def AlEq (l v l2 v2 : List Nat) : Bool := decide (srtL l = srtL l2) && decide (srtL v = srtL v2)
section
variable {P : Program} {w : World} {K : PySem.W.Frag} {mg : Str → Option Value} {base : Heap} {aDiff : Addr}
def spEq (C : Addr) : Sp := fun vs H Q _ => ∃ (a b : Addr) (l v l2 v2 : List Nat), vs = [.ref a, .ref b] ∧ IsAl C H a l v ∧ IsAl C H b l2 v2 ∧ Q (.bl (AlEq l v l2 v2)) H
theorem scEq : FnScope ["self", "other"] ["self", "other"] (defScope sEq) := ⟨rfl, rfl, rfl, by decide +kernel, rfl, by decide +kernel, by decide +kernel⟩
theorem ok_eq {f C : Addr} {fd : FuncData} (F : Fun K "__eq__" "Alphabet.__eq__" sEq f fd) (T : TxA K mg aDiff) (A : AlF K C) (hC : mg "Alphabet" = some (.ref C)) : FnOk P w K mg base CX0 1 f fd ["self", "other"] (spEq C) := by
  refine F.ok scEq (fun vs H Q E h => ?_) (fun cdv A0 outer s H vs Q E hr h => ?_)
  · obtain ⟨a, b, l, v, l2, v2, rfl, _⟩ := h
    rfl
  · obtain ⟨a, b, l, v, l2, v2, rfl, ⟨dx, ha⟩, ⟨dy, hb⟩, k⟩ := h
    refine ⟨_, pss_one (ps_ret (pe_and (pe_callB call_isi (by rfl) T.z_isinstance (by decide +kernel) (pa_cons (pv 1) (pa_cons (pe_glob (v := .ref C) (by rfl) hC rfl) pa_nil)))
      (pe_and (pe_cmpR op_eq (pe_fld (pv 0) rfl) (pe_fld (pv 1) rfl) (nomark _)) (pe_one (pe_cmpR op_eq (pe_fld (pv 0) rfl) (pe_fld (pv 1) rfl) (nomark _)))))), ?_⟩
    refine ⟨_, rfl, _, _, _, _, true, rfl, .own C, .base (.ins hb A.cl A.ic A.ig A.it A.im), ?_, true, rfl, iteT ?_⟩
    · show PySem.W.kitOne K (.ref C) (.ref C) = some true
      unfold PySem.W.kitOne
      rw [if_pos (beq_iff_eq.mpr rfl)]
    refine ⟨_, rfl, a, C, dx, _, _, rfl, ha, A.cl, A.nL, rfl, _, rfl, b, C, dy, _, _, rfl, hb, A.cl, A.nL, rfl, rfl, _, rfl, ?_⟩
    have q := k
    unfold AlEq at q
    rw [← S_eq_iff, ← S_eq_iff] at q
    refine ite2 (fun h => ?_) (fun h => ?_)
    · refine ⟨_, rfl, a, C, dx, _, _, rfl, ha, A.cl, A.nV, rfl, _, rfl, b, C, dy, _, _, rfl, hb, A.cl, A.nV, rfl, rfl, ?_⟩
      rw [h, Bool.true_and] at q
      exact q
    · rw [Bool.eq_false_iff.mpr h, Bool.false_and] at q
      exact q
end
abbrev sBA : Stmt := inClass (top 3) 0
def spBA (C : Addr) : Sp := fun vs H Q _ => ∃ (a : Addr) (z : Str), vs = [.ref a, .str z] ∧ z.length ≤ 100 ∧ H a = some (exo a C none) ∧
  ∀ dx, H dx = none → dx ≠ a → Q .non (upd (upd H dx (exd dx [("part", .str z)])) a (exo a C (some dx)))
theorem scBA : SScope ["self", "part"] (defScope sBA) := ⟨rfl, rfl, rfl, by decide +kernel, by decide +kernel, by decide +kernel, fun x h => (show ∀ y ∈ (defScope sBA).names, y.2 = .free → y.1 = "__class__" by decide +kernel) _ (PySem.mem_of_lookup h) rfl, by decide +kernel, by decide +kernel⟩
section
variable {P : Program} {w : World} {K : PySem.W.Frag} {mg : Str → Option Value} {base : Heap}
theorem ok_ba {f C cc cda : Addr} {dV kV doc pm ct oc : Value} {an od : Option Addr} {osl : Array (Option Value)} (T : SupC P K mg C cc cda) (hp : PySem.W.findIn K (.ref C) "part" = some none)
    (lk : K.lookup f = some ⟨oc, od, .func (PySem.W.ksFn "__init__" "BadAlphabet.__init__" (defArgs sBA) (defBody sBA) (defScope sBA) dV kV doc pm an (.ref cda) ct cc), osl⟩) (hcd : PySem.W.codeIn K (.ref cda) "BadAlphabet.__init__" = true) :
    FnOk P w K mg base CX0 1 f (PySem.W.ksFn "__init__" "BadAlphabet.__init__" (defArgs sBA) (defBody sBA) (defScope sBA) dV kV doc pm an (.ref cda) ct cc) ["self", "part"] (spBA C) := by
  refine fn_super (self := "self") (N' := ["part"]) T lk hcd scBA rfl rfl rfl rfl (fun _ => rfl) (fun _ => rfl) (fun vs H Q E h => ?_) (fun A outer s H vs Q E hr h => ?_)
  · obtain ⟨a, z, rfl, _⟩ := h
    rfl
  · obtain ⟨a, z, rfl, hz, ha, k⟩ := h
    refine ⟨_, _, pe_joined (.cons pe_str (.cons (pe_fmt (pv 1)) (.cons pe_str .nil))), pss_one (ps_ost (pv 0) (pv 1)), ⟨a, rfl, ha⟩, ?_⟩
    have e1 : (PySem.Str.ofString "not the ").length = 8 := by decide +kernel
    have e2 : (PySem.Str.ofString " of an alphabet").length = 15 := by decide +kernel
    have e3 : Str.empty.length = 0 := by decide +kernel
    have sl : ∀ {n : Nat}, n ≤ 1000 → n ≤ sizeLine := fun h => by rw [sizeLine_eq]; omega
    have al : ∀ a b : Str, (a ++ b).length = a.length + b.length := fun a b => by
      show (a.cps ++ b.cps).size = _
      rw [Array.size_append]
      rfl
    refine ⟨_, rfl, sl ?_, _, rfl, .inl ⟨z, rfl, sl (by omega), _, rfl, sl ?_, _, rfl, sl ?_, ⟨a, rfl, ha⟩, ?_⟩⟩
    · rw [al, e1, e3]
      decide
    · rw [al, al, e1, e3]
      omega
    · rw [al, al, al, e1, e2, e3]
      omega
    · exact ⟨_, rfl, _, rfl, a, C, rfl, T.oex, hp, .inl ⟨ha, fun dx hd hn => k dx hd hn⟩⟩
end
abbrev sAI : Stmt := inClass (top 22) 2
/-- BadAlphabet as the written part holds it -/
structure BaF (P : Program) (K : PySem.W.Frag) (mg : Str → Option Value) (B fB : Addr) : Prop where
  ox : OexC K B
  iC : PySem.W.findIn K (.ref B) "__init__" = some (some (.ref fB))
  tI : PySem.W.typeIn K (.ref fB) = some (.type "function")
  gB : mg "BadAlphabet" = some (.ref B)
/-- what else stands of Alphabet: its class values -/
structure AlV (K : PySem.W.Frag) (mg : Str → Option Value) (C : Addr) (mc : Value) (tm tj tl : Tok) : Prop where
  gC : mg "Alphabet" = some (.ref C)
  gL : mg "SMALL_LETTERS" = some (.str (S azL) tl)
  rd : ClX.CRead K C mc
  most : ClX.CVal K C mc "MOST" (.int 4) (.int 4 tm)
  joint : ClX.CVal K C mc "JOINT" (.str "-") (.str "-" tj)
def spAl (C B : Addr) : Sp := fun vs H Q E => ∃ (a dx : Addr) (l v : List Nat), vs = [.ref a, .str (S l), .str (S v)] ∧ H a = some (.ins C dx []) ∧ l.length ≤ 1000 ∧ v.length ≤ 1000 ∧
  (dueT l v = "" → ∀ H', IsAl C H' a l v → Kp a H H' → Q .non H') ∧
  (dueT l v ≠ "" → ∀ d H', H d = none → H' d = some (.xd [("part", .str (dueT l v))]) → Kp a H H' → E (.ref B) (some d) H')
theorem kp_exc {H : Hp} {b dx : Addr} {o : HO} {e0 e1 e2 : HO} (ha : H b = none) (hd : (upd H b e0) dx = none) (hn : dx ≠ b) : Same H (upd (del (upd (upd (upd H b e0) dx e1) b e2) b) dx o) := fun c u e => by
  have h1 : c ≠ b := ne_of_none e ha
  have h2 : c ≠ dx := fun z => by
    subst z
    rw [upd_ne h1, e] at hd
    cases hd
  rw [upd_ne h2, del_ne h1, upd_ne h1, upd_ne h2, upd_ne h1]
  exact e
theorem Same.kp {H H' : Hp} (h : Same H H') (a : Addr) : Kp a H H' := fun c o _ e => h c o e
theorem len_of_sub : ∀ {v l : List Nat}, v.Nodup → (∀ c ∈ v, c ∈ l) → v.length ≤ l.length
  | [], l, _, _ => Nat.zero_le _
  | c :: v, l, hn, hs => by
    obtain ⟨h1, h2⟩ := List.nodup_cons.mp hn
    have hc : c ∈ l := hs c List.mem_cons_self
    have ih := len_of_sub (v := v) (l := l.erase c) h2 fun d hd => (List.mem_erase_of_ne (fun (z : d = c) => h1 (z ▸ hd))).mpr (hs d (List.mem_cons_of_mem _ hd))
    rw [List.length_erase_of_mem hc] at ih
    have := List.length_pos_of_mem hc
    rw [List.length_cons]
    omega
theorem differ_len {v l : List Nat} (h : Differ v l) : v.length ≤ l.length := len_of_sub h.1 h.2
theorem put2 (x y : V) : putF "vowels" y [("letters", x)] = ([("letters", x), ("vowels", y)] : List (Str × V)) := by
  show (if ("letters" : Str) = "vowels" then _ else (("letters" : Str), x) :: putF "vowels" y []) = _
  rw [if_neg (by decide +kernel)]
  rfl
theorem put3 (x y z : V) : putF "consonants" z [("letters", x), ("vowels", y)] = ([("letters", x), ("vowels", y), ("consonants", z)] : List (Str × V)) := by
  show (if ("letters" : Str) = "consonants" then _ else (("letters" : Str), x) :: (if ("vowels" : Str) = "consonants" then _ else (("vowels" : Str), y) :: putF "consonants" z [])) = _
  rw [if_neg (by decide +kernel), if_neg (by decide +kernel)]
  rfl
theorem put4 (x y z t : V) : putF "signs" t [("letters", x), ("vowels", y), ("consonants", z)] = ([("letters", x), ("vowels", y), ("consonants", z), ("signs", t)] : List (Str × V)) := by
  show (if ("letters" : Str) = "signs" then _ else (("letters" : Str), x) :: (if ("vowels" : Str) = "signs" then _ else (("vowels" : Str), y) :: (if ("consonants" : Str) = "signs" then _ else (("consonants" : Str), z) :: putF "signs" t []))) = _
  rw [if_neg (by decide +kernel), if_neg (by decide +kernel), if_neg (by decide +kernel)]
  rfl
theorem scAI : FnScope ["self", "letters", "vowels", "letter"] ["self", "letters", "vowels"] (defScope sAI) := ⟨rfl, rfl, rfl, by decide +kernel, rfl, by decide +kernel, by decide +kernel⟩
section
variable {P : Program} {w : World} {K : PySem.W.Frag} {mg : Str → Option Value} {base : Heap} {aDiff : Addr}
theorem ok_alph {f C B fB : Addr} {mc : Value} {tm tj tl : Tok} {fd fdD fdB : FuncData} (F : FunD K "__init__" "Alphabet.__init__" (defArgs sAI) (defBody sAI) (defScope sAI) [.str ""] [] f fd) (T : TxA K mg aDiff) (A : AlF K C) (AV : AlV K mg C mc tm tj tl) (BA : BaF P K mg B fB)
    (FDiff : Fun K "differ_within" "differ_within" sDiff aDiff fdD) (bDiff : Binds K fdD ["text", "allowed"] []) (GB : FnOk P w K mg base CX0 1 fB fdB ["self", "part"] (spBA B)) (bB : Binds K fdB ["self", "part"] []) :
    FnOk P w K mg base (L2.CX P w) 3 f fd ["self", "letters", "vowels"] (spAl C B) := by
  have GDiff : FnOk P w K mg base CX0 1 aDiff fdD ["text", "allowed"] spDiff := ok_diff FDiff T
  refine F.ok scAI (fun vs H Q E h => ?_) (fun cdv A0 outer s H vs Q E hr h => ?_)
  · obtain ⟨a, dx, l, v, rfl, _⟩ := h
    rfl
  · obtain ⟨a, dx, l, v, rfl, ha, hl, hv, kq, ke⟩ := h
    refine ⟨_, (pss_cons (ps_if (PW.pt (pw_or (pt_not (pt_chain op_le op_le pe_int (pe_callB call_len_str (by rfl) T.z_len (by decide +kernel) (pa_cons (pv 1) pa_nil)) (ClX.pe_cval (pe_glob (v := .ref C) (by rfl) AV.gC rfl)))) (pw_or1 (pt_not (pt_val (pe_call GDiff (hr.mono (by decide)) (by rfl) T.gDiff FDiff.kp bDiff .nil pass0 (pa_cons (pv 1) (pa_cons (pe_glob (v := .str (S azL)) (by rfl) AV.gL ⟨_, rfl⟩) pa_nil)))))))) (pss_one (ps_raise rfl (takes_of rfl rfl rfl rfl) (pmk_oex BA.ox BA.iC BA.tI GB (hr.mono (by decide)) bB .nil pass0 (by rfl) BA.gB (pa_cons pe_str pa_nil)))) pss_nil)
      (pss_cons (ps_if (pt_not (pt_val (pe_call GDiff (hr.mono (by decide)) (by rfl) T.gDiff FDiff.kp bDiff .nil pass0 (pa_cons (pv 2) (pa_cons (pv 1) pa_nil))))) (pss_one (ps_raise rfl (takes_of rfl rfl rfl rfl) (pmk_oex BA.ox BA.iC BA.tI GB (hr.mono (by decide)) bB .nil pass0 (by rfl) BA.gB (pa_cons pe_str pa_nil)))) pss_nil)
      (pss_cons (ps_fld (pv 0) (pe_join pe_str (pe_callB (cr_sortT rfl) (by rfl) T.z_sorted (by decide +kernel) (pa_cons (pv 1) pa_nil))) rfl)
      (pss_cons (ps_fld (pv 0) (pe_join pe_str (pe_callB (cr_sortT rfl) (by rfl) T.z_sorted (by decide +kernel) (pa_cons (pv 2) pa_nil))) rfl)
      (pss_cons (ps_fld (pv 0) (pe_join pe_str (pe_lc (own := [("letter", 3)]) (g := gName 3) (by rfl) scAI.nd (pi_str (pe_fld (pv 0) rfl)) (blkOk_by (own := [("letter", 3)]) (N := ["self", "letters", "vowels", "letter"]) (sc := defScope sAI) (by decide +kernel)) (fun _ _ _ _ _ => pg_name (i := 3) scAI.nd rfl (Or.inl rfl)) (fun _ _ _ _ _ => (pts_one (pt_cmpR op_notIn_sign (pv 3) (pv 2) rfl))) (fun _ _ _ _ _ => (pv 3)))) rfl)
      (pss_one (ps_fld (pv 0) (pe_op op_add_str (ClX.pe_cval (pe_glob (v := .ref C) (by rfl) AV.gC rfl)) (pe_fld (pv 0) rfl)) rfl))))))), ?_⟩
    have hll : (S l).length ≤ sizeLine := sz4 (by rw [S_len]; omega)
    -- what a raise leaves
    have rz : ∀ (z : Str) (H1 : Hp), z.length ≤ 100 → z ≠ "" → dueT l v = z → Same H H1 → ∀ b, H1 b = none → spBA B [.ref b, .str z] (upd H1 b (exo b B none)) (fun v H2 => v = .non ∧ ∃ (d : Addr) (fs : List (Str × V)), H2 b = some (exo b B (some d)) ∧ H2 d = some (exd d fs) ∧ H1 d = none ∧ E (.ref B) (some d) (upd (del H2 b) d (.xd fs))) (fun _ _ _ => False) := by
      intro z H1 hz hne hdue hs b hb
      refine ⟨b, z, rfl, hz, upd_same, fun d hd hn => ⟨rfl, d, [("part", .str z)], upd_same, ?_, ?_, ?_⟩⟩
      · rw [upd_ne hn, upd_same]
      · rw [upd_ne hn] at hd
        exact hd
      · have h0 : H d = none := by
          cases e : H d with
          | none => rfl
          | some u =>
            have q := hs _ _ e
            rw [upd_ne hn, q] at hd
            cases hd
        refine ke (by rw [hdue]; exact hne) d _ h0 ?_ (Same.kp (Same.trans hs (kp_exc hb hd hn)) a)
        rw [hdue]
        exact upd_same
    have rl : dueT l v = "letters" → ∀ H1, Same H H1 → ([V.str "letters"] : List V).length ≤ 1000 ∧ ∀ b, H1 b = none → spBA B [.ref b, .str "letters"] (upd H1 b (exo b B none)) (fun v H2 => v = .non ∧ ∃ (d : Addr) (fs : List (Str × V)), H2 b = some (exo b B (some d)) ∧ H2 d = some (exd d fs) ∧ H1 d = none ∧ E (.ref B) (some d) (upd (del H2 b) d (.xd fs))) (fun _ _ _ => False) :=
      fun hd H1 hs => ⟨by show 1 ≤ 1000; decide, rz "letters" H1 (by decide +kernel) (by decide +kernel) hd hs⟩
    have rv : dueT l v = "vowels" → ∀ H1, Same H H1 → ([V.str "vowels"] : List V).length ≤ 1000 ∧ ∀ b, H1 b = none → spBA B [.ref b, .str "vowels"] (upd H1 b (exo b B none)) (fun v H2 => v = .non ∧ ∃ (d : Addr) (fs : List (Str × V)), H2 b = some (exo b B (some d)) ∧ H2 d = some (exd d fs) ∧ H1 d = none ∧ E (.ref B) (some d) (upd (del H2 b) d (.xd fs))) (fun _ _ _ => False) :=
      fun hd H1 hs => ⟨by show 1 ≤ 1000; decide, rz "vowels" H1 (by decide +kernel) (by decide +kernel) hd hs⟩
    have dl : (l.length < 1 ∨ 4 < l.length ∨ ¬ Differ l azL) → dueT l v = "letters" := fun h => if_pos h
    refine ⟨_, rfl, _, rfl, hll, _, _, rfl, rfl, _, rfl, ite2 (fun h1 => ⟨C, mc, _, _, rfl, AV.rd, AV.most, _, _, rfl, rfl, _, rfl, ?_⟩) (fun h1 => ⟨_, rfl, iteT (iteT (rl (dl (.inl ?_)) H (Same.refl H)))⟩)⟩
    rotate_left
    · have : ¬ (1 : Int) ≤ ((S l).length : Int) := fun z => h1 (decide_eq_true z)
      rw [S_len] at this
      omega
    refine ite2 (fun h2 => iteT (rl (dl (.inr (.inl ?_))) H (Same.refl H))) (fun h2 => ?_)
    · have h3 : decide (((S l).length : Int) ≤ 4) = false := by
        cases e : decide (((S l).length : Int) ≤ 4) with
        | false => rfl
        | true =>
          have h2' : (!decide (((S l).length : Int) ≤ 4)) = true := h2
          rw [e] at h2'
          cases h2'
      have := of_decide_eq_false h3
      rw [S_len] at this
      omega
    have g1 : 1 ≤ l.length := by
      have := of_decide_eq_true h1
      rw [S_len] at this
      omega
    have g2 : l.length ≤ 4 := by
      have h3 : decide (((S l).length : Int) ≤ 4) = true := by
        cases e : decide (((S l).length : Int) ≤ 4) with
        | true => rfl
        | false => exact absurd (show (!decide (((S l).length : Int) ≤ 4)) = true by rw [e]; rfl) h2
      have := of_decide_eq_true h3
      rw [S_len] at this
      omega
    refine ⟨_, rfl, l, azL, rfl, by omega, fun H1 s1 => ⟨_, rfl, ite2 (fun h3 => rl (dl (.inr (.inr ?_))) H1 s1) (fun h3 => ?_)⟩⟩
    · intro z
      rw [decide_eq_true z] at h3
      cases h3
    have hDl : Differ l azL := Classical.byContradiction fun z => h3 (by rw [decide_eq_false z]; rfl)
    have hnl : ¬ (l.length < 1 ∨ 4 < l.length ∨ ¬ Differ l azL) := fun z => z.elim (fun z => by omega) fun z => z.elim (fun z => by omega) fun z => z hDl
    refine ⟨_, rfl, _, rfl, v, l, rfl, by omega, fun H2 s2' => ⟨_, rfl, ite2 (fun h4 => rv ?_ H2 (Same.trans s1 s2')) (fun h4 => ?_)⟩⟩
    · unfold dueT
      rw [if_neg hnl, if_pos ?_]
      intro z
      rw [decide_eq_true z] at h4
      cases h4
    have hDv : Differ v l := Classical.byContradiction fun z => h4 (by rw [decide_eq_false z]; rfl)
    have hdue : dueT l v = "" := by
      unfold dueT
      rw [if_neg hnl, if_neg (fun z => z hDv)]
    have hvl := differ_len hDv
    have s2 := Same.trans s1 s2'
    have ha2 := s2 _ _ ha
    -- letters
    refine ⟨⟨_, rfl⟩, _, rfl, S l, rfl, (by rw [S_len]; omega), fun ys p1 hp hs n1 => ?_⟩
    obtain ⟨b1, e1⟩ := joined (by omega) hp hs
    refine ⟨_, p1, ys, rfl, rfl, .inl (SqL.of upd_same), b1, ?_⟩
    rw [e1]
    have k3 := Same.kp (Same.trans s2 (upd_laid (o := .lst (ys.map V.str)) n1)) a
    have ha3 : (upd H2 p1 (.lst (ys.map V.str))) a = some (.ins C dx []) := upd_laid n1 _ _ ha2
    generalize upd H2 p1 (.lst (ys.map V.str)) = H3 at k3 ha3
    refine ⟨_, rfl, a, C, dx, [], rfl, ha3, A.cl, A.nL, (by show 0 < 1000; decide), ?_⟩
    have k4 := k3.trans (Kp.upd a H3 (.ins C dx (putF "letters" (.str (S (srtL l))) [])))
    have ha4 : (upd H3 a (.ins C dx (putF "letters" (.str (S (srtL l))) []))) a = some (.ins C dx [("letters", .str (S (srtL l)))]) := upd_same
    generalize upd H3 a (.ins C dx (putF "letters" (.str (S (srtL l))) [])) = H4 at k4 ha4
    -- vowels
    refine ⟨⟨_, rfl⟩, _, rfl, S v, rfl, (by rw [S_len]; omega), fun zs p2 hp2 hs2 n2 => ?_⟩
    obtain ⟨b2, e2⟩ := joined (by omega) hp2 hs2
    refine ⟨_, p2, zs, rfl, rfl, .inl (SqL.of upd_same), b2, ?_⟩
    rw [e2]
    have k5 := k4.trans (Same.kp (upd_laid (o := .lst (zs.map V.str)) n2) a)
    have ha5 : (upd H4 p2 (.lst (zs.map V.str))) a = some (.ins C dx [("letters", .str (S (srtL l)))]) := upd_laid n2 _ _ ha4
    generalize upd H4 p2 (.lst (zs.map V.str)) = H5 at k5 ha5
    refine ⟨_, rfl, a, C, dx, _, rfl, ha5, A.cl, A.nV, (by show 1 < 1000; decide), ?_⟩
    rw [put2]
    have k6 := k5.trans (Kp.upd a H5 (.ins C dx [("letters", .str (S (srtL l))), ("vowels", .str (S (srtL v)))]))
    have ha6 : (upd H5 a (.ins C dx [("letters", .str (S (srtL l))), ("vowels", .str (S (srtL v)))])) a = some (.ins C dx [("letters", .str (S (srtL l))), ("vowels", .str (S (srtL v)))]) := upd_same
    generalize upd H5 a (.ins C dx [("letters", .str (S (srtL l))), ("vowels", .str (S (srtL v)))]) = H6 at k6 ha6
    -- consonants
    have hk4 : (srtL l).length ≤ 4000 := by rw [srtL_len]; omega
    refine ⟨⟨_, rfl⟩, _, rfl, a, C, dx, _, _, rfl, ha6, A.cl, A.nL, rfl, _, rfl, fun D hD => lc_text (fun c => !decide (c ∈ v)) (fun c => V.str (S [c])) hk4 (fun _ => rfl) (fun c hc H3 Q3 _ q => ⟨_, rfl, _, rfl, c, S v, rfl, rfl, _, rfl, by rw [S_cps]; exact q⟩) (fun c hc _ H3 Q3 _ q => ⟨_, rfl, q⟩) ?_⟩
    have hc64 : (consL l v).length < 1000 := by
      have := List.length_filter_le (fun c => !decide (c ∈ v)) (srtL l)
      rw [srtL_len] at this
      unfold consL
      omega
    obtain ⟨b3, e3⟩ := joinedL hc64
    refine ⟨_, D, (consL l v).map fun c => S [c], rfl, rfl, .inl (SqL.of (by rw [List.map_map]; exact upd_same)), b3, ?_⟩
    rw [e3]
    have k7 := k6.trans (Same.kp (upd_laid (o := .lst (((srtL l).filter fun c => !decide (c ∈ v)).map fun c => V.str (S [c]))) hD) a)
    have ha7 := upd_laid (o := .lst (((srtL l).filter fun c => !decide (c ∈ v)).map fun c => V.str (S [c]))) hD _ _ ha6
    generalize upd H6 D (.lst (((srtL l).filter fun c => !decide (c ∈ v)).map fun c => V.str (S [c]))) = H7 at k7 ha7
    refine ⟨_, rfl, a, C, dx, _, rfl, ha7, A.cl, A.nC, (by show 2 < 1000; decide), ?_⟩
    rw [put3]
    have k8 := k7.trans (Kp.upd a H7 (.ins C dx [("letters", .str (S (srtL l))), ("vowels", .str (S (srtL v))), ("consonants", .str (S (consL l v)))]))
    have ha8 : (upd H7 a (.ins C dx [("letters", .str (S (srtL l))), ("vowels", .str (S (srtL v))), ("consonants", .str (S (consL l v)))])) a = some (.ins C dx [("letters", .str (S (srtL l))), ("vowels", .str (S (srtL v))), ("consonants", .str (S (consL l v)))]) := upd_same
    generalize upd H7 a (.ins C dx [("letters", .str (S (srtL l))), ("vowels", .str (S (srtL v))), ("consonants", .str (S (consL l v)))]) = H8 at k8 ha8
    -- signs
    refine ⟨C, mc, _, _, rfl, AV.rd, AV.joint, _, rfl, a, C, dx, _, _, rfl, ha8, A.cl, A.nL, rfl, _, _, rfl, rfl, ?_, _, rfl, a, C, dx, _, rfl, ha8, A.cl, A.nS, (by show 3 < 1000; decide), ?_⟩
    · refine sz4 ?_
      rw [S_len, srtL_len]
      have : (PySem.Str.ofString "-").length = 1 := by decide +kernel
      omega
    have e4 : PySem.Str.ofString "-" ++ S (srtL l) = S (45 :: srtL l) := by
      have : PySem.Str.ofString "-" = S [45] := by decide +kernel
      rw [this, S_app]
      rfl
    rw [e4, put4]
    exact kq hdue _ ⟨dx, upd_same⟩ (k8.trans (Kp.upd a H8 _))
end
end Vk
set_option Elab.async false
set_option linter.all false
set_option maxRecDepth 100000
namespace Fw
/-! words over signs in the order of their numbers; the next word, round and round -/
def val (sg : List Nat) (l : List Nat) : Nat := l.foldl (fun a c => a * sg.length + (sg.idxOf c + 1)) 0
def top (s : Nat) : Nat → Nat
  | 0 => 0
  | n + 1 => top s n * s + s
def low (s : Nat) : Nat → Nat
  | 0 => 0
  | n + 1 => low s n * s + 1
theorem low_top (s : Nat) : ∀ n, low s (n + 1) = top s n + 1
  | 0 => by simp [low, top]
  | n + 1 => by
    show low s (n + 1) * s + 1 = top s n * s + s + 1
    rw [low_top s n, Nat.add_mul, Nat.one_mul]
theorem top_low (s : Nat) : ∀ r, top s r + 1 = s ^ r + low s r
  | 0 => by simp [low, top]
  | r + 1 => by
    have h := top_low s r
    show top s r * s + s + 1 = s ^ r * s + (low s r * s + 1)
    rw [← Nat.add_assoc, ← Nat.add_mul, ← h, Nat.add_mul, Nat.one_mul]
theorem foldl_val (sg : List Nat) : ∀ (b : List Nat) (x : Nat), b.foldl (fun a c => a * sg.length + (sg.idxOf c + 1)) x = x * sg.length ^ b.length + val sg b
  | [], x => by simp [val]
  | c :: b, x => by
    unfold val
    rw [List.foldl_cons, List.foldl_cons, foldl_val sg b, foldl_val sg b (0 * sg.length + (sg.idxOf c + 1)), List.length_cons, Nat.pow_succ]
    rw [Nat.zero_mul, Nat.zero_add, Nat.add_mul, Nat.mul_assoc, Nat.mul_comm sg.length (sg.length ^ b.length), Nat.add_assoc]
theorem val_app (sg a b : List Nat) : val sg (a ++ b) = val sg a * sg.length ^ b.length + val sg b := by
  show (a ++ b).foldl _ 0 = _
  rw [List.foldl_append, foldl_val]
  rfl
theorem val_one (sg : List Nat) (c : Nat) : val sg [c] = sg.idxOf c + 1 := by simp [val]
theorem val_last {sg : List Nat} {e : Nat} (he : sg.idxOf e + 1 = sg.length) : ∀ n, val sg (List.replicate n e) = top sg.length n
  | 0 => rfl
  | n + 1 => by
    rw [List.replicate_succ', val_app, val_last he n, val_one, he]
    simp [top]
theorem val_first {sg : List Nat} {f : Nat} (hf : sg.idxOf f = 0) : ∀ n, val sg (List.replicate n f) = low sg.length n
  | 0 => rfl
  | n + 1 => by
    rw [List.replicate_succ', val_app, val_first hf n, val_one, hf]
    simp [low]
theorem top_mono (s : Nat) {m n : Nat} (h : m ≤ n) : top s m ≤ top s n := by
  have step : ∀ k, top s k ≤ top s (k + 1) := by
    intro k
    induction k with
    | zero => exact Nat.zero_le _
    | succ k ih =>
      show top s k * s + s ≤ top s (k + 1) * s + s
      exact Nat.add_le_add_right (Nat.mul_le_mul_right s ih) s
  induction n with
  | zero => rw [Nat.le_zero.mp h]; exact Nat.le_refl _
  | succ n ih =>
    rcases Nat.lt_or_ge m (n + 1) with h1 | h1
    · exact Nat.le_trans (ih (by omega)) (step n)
    · rw [Nat.le_antisymm h h1]
      exact Nat.le_refl _
theorem val_le (sg : List Nat) : ∀ (n : Nat) (l : List Nat), l.length = n → (∀ c ∈ l, c ∈ sg) → val sg l ≤ top sg.length n
  | 0, l, h, _ => by
    rw [List.eq_nil_of_length_eq_zero h]
    exact Nat.le_refl _
  | n + 1, l, h, hm => by
    rcases List.eq_nil_or_concat l with rfl | ⟨a, c, rfl⟩
    · cases h
    · rw [List.concat_eq_append] at h hm ⊢
      have ha : a.length = n := by
        rw [List.length_append] at h
        simpa using h
      have h1 := val_le sg n a ha fun c hc => hm c (List.mem_append_left _ hc)
      have h2 : sg.idxOf c < sg.length := List.idxOf_lt_length_of_mem (hm c (by simp))
      rw [val_app, val_one]
      have h3 := Nat.mul_le_mul_right sg.length h1
      show val sg a * sg.length ^ 1 + (sg.idxOf c + 1) ≤ top sg.length n * sg.length + sg.length
      rw [Nat.pow_one]
      omega
theorem val_pos (sg : List Nat) {l : List Nat} (h : l ≠ []) : 1 ≤ val sg l := by
  rcases List.eq_nil_or_concat l with rfl | ⟨a, c, rfl⟩
  · exact absurd rfl h
  · rw [List.concat_eq_append, val_app, val_one]
    omega
/-- t is the word behind l, of at most m signs -/
def Next (sg : List Nat) (m : Nat) (l t : List Nat) : Prop :=
  (∃ (a : List Nat) (i r : Nat) (c x e f : Nat), l = a ++ [c] ++ List.replicate r e ∧ t = a ++ [x] ++ List.replicate r f ∧ sg[i]? = some c ∧ sg[i + 1]? = some x ∧ sg[0]? = some f ∧ sg[sg.length - 1]? = some e) ∨
  (∃ (e f : Nat), l = List.replicate l.length e ∧ t = List.replicate (l.length % m + 1) f ∧ sg[0]? = some f ∧ sg[sg.length - 1]? = some e)
theorem idx_at {sg : List Nat} (hn : sg.Nodup) {i c : Nat} (h : sg[i]? = some c) : sg.idxOf c = i := by
  obtain ⟨hi, he⟩ := List.getElem?_eq_some_iff.mp h
  rw [← he]
  exact List.Nodup.idxOf_getElem hn i hi
theorem next_val {sg : List Nat} (hn : sg.Nodup) {m : Nat} {l t : List Nat} (hl : 1 ≤ l.length) (hm : l.length ≤ m) (h : Next sg m l t) : val sg t = val sg l + 1 ∨ (val sg l = top sg.length m ∧ val sg t = 1) := by
  rcases h with ⟨a, i, r, c, x, e, f, rfl, rfl, hc, hx, hf, he⟩ | ⟨e, f, h1, rfl, hf, he⟩
  · left
    have ic := idx_at hn hc
    have ix := idx_at hn hx
    have if' := idx_at hn hf
    have ie := idx_at hn he
    have h0 : 0 < sg.length := by
      have := (List.getElem?_eq_some_iff.mp hf).1
      omega
    rw [val_app, val_app sg (a ++ [c]), val_app sg a, val_app sg a, val_one, val_one, val_last (e := e) (by omega), val_first if', ic, ix, List.length_replicate, List.length_replicate]
    have h2 := top_low sg.length r
    have h3 : (val sg a * sg.length ^ [x].length + (i + 1 + 1)) * sg.length ^ r = (val sg a * sg.length ^ [c].length + (i + 1)) * sg.length ^ r + sg.length ^ r := by
      show (val sg a * sg.length ^ 1 + (i + 1 + 1)) * sg.length ^ r = (val sg a * sg.length ^ 1 + (i + 1)) * sg.length ^ r + sg.length ^ r
      rw [← Nat.add_assoc, Nat.add_mul _ 1, Nat.one_mul]
    omega
  · have if' := idx_at hn hf
    have ie := idx_at hn he
    have h0 : 0 < sg.length := by
      have := (List.getElem?_eq_some_iff.mp hf).1
      omega
    have hv : val sg l = top sg.length l.length := by
      rw [h1, List.length_replicate]
      exact val_last (by omega) _
    rcases Nat.lt_or_ge l.length m with h2 | h2
    · left
      rw [hv, Nat.mod_eq_of_lt h2, val_first if', low_top]
    · right
      have h3 : l.length = m := Nat.le_antisymm hm h2
      rw [hv, h3, Nat.mod_self, val_first if']
      exact ⟨rfl, by simp [low]⟩
/-- where the search stands after i turns -/
def At (sg : List Nat) (m : Nat) (used : List (List Nat)) (v0 i : Nat) (t : List Nat) : Prop :=
  t ∉ used ∨ (val sg t = (v0 + i) % top sg.length m + 1 ∧ ∀ q, q < i → (v0 + q) % top sg.length m + 1 ∈ used.map (val sg))
theorem At.start {sg : List Nat} {m : Nat} {used : List (List Nat)} {l : List Nat} (hl : 1 ≤ l.length) (hm : l.length ≤ m) (hs : ∀ c ∈ l, c ∈ sg) : At sg m used (val sg l - 1) 0 l := by
  right
  have h1 := val_pos sg (l := l) (by intro e; rw [e] at hl; cases hl)
  have h2 := Nat.le_trans (val_le sg l.length l rfl hs) (top_mono sg.length hm)
  refine ⟨?_, fun q h => absurd h (Nat.not_lt_zero _)⟩
  rw [Nat.add_zero, Nat.mod_eq_of_lt (by omega)]
  omega
theorem At.move {sg : List Nat} (hn : sg.Nodup) {m : Nat} {used : List (List Nat)} {v0 i : Nat} {t t' : List Nat} (h : At sg m used v0 i t) (hu : t ∈ used) (hl : 1 ≤ t.length) (hm : t.length ≤ m) (hm' : t'.length ≤ m) (hs' : ∀ c ∈ t', c ∈ sg) (hx : Next sg m t t') (hN : 1 < top sg.length m) : At sg m used v0 (i + 1) t' := by
  rcases h with h | ⟨h1, h2⟩
  · exact absurd hu h
  · right
    refine ⟨?_, fun q hq => ?_⟩
    · rcases next_val hn hl hm hx with e | ⟨e1, e2⟩
      · have hlt := Nat.mod_lt (v0 + i) (show 0 < top sg.length m by omega)
        rcases Nat.lt_or_ge ((v0 + i) % top sg.length m + 1) (top sg.length m) with g | g
        · rw [e, h1, ← Nat.add_assoc v0, ← Nat.mod_add_mod (v0 + i), Nat.mod_eq_of_lt g]
        · exfalso
          have := Nat.le_trans (val_le sg t'.length t' rfl hs') (top_mono sg.length hm')
          omega
      · rw [e2, ← Nat.add_assoc v0]
        have h3 : (v0 + i) % top sg.length m + 1 = top sg.length m := by omega
        rw [← Nat.mod_add_mod (v0 + i), h3, Nat.mod_self]
    · rcases Nat.lt_or_ge q i with g | g
      · exact h2 q g
      · obtain rfl : q = i := by omega
        rw [← h1]
        exact List.mem_map.mpr ⟨t, hu, rfl⟩
theorem mod_inj {N a b : Nat} (h : a % N = b % N) (h1 : a ≤ b) (h2 : b < a + N) : a = b := by
  have ha := Nat.div_add_mod a N
  have hb := Nat.div_add_mod b N
  rcases Nat.eq_zero_or_pos N with rfl | hN
  · simpa using h
  · have h3 : a / N ≤ b / N := Nat.div_le_div_right h1
    have h4 : ¬ a / N + 1 ≤ b / N := by
      intro h5
      have := Nat.mul_le_mul_left N h5
      rw [Nat.mul_add, Nat.mul_one] at this
      omega
    have h5 : a / N = b / N := by omega
    rw [h5] at ha
    omega
theorem nd_map {α β : Type} {f : α → β} : ∀ {l : List α}, (∀ a ∈ l, ∀ b ∈ l, f a = f b → a = b) → l.Nodup → (l.map f).Nodup
  | [], _, _ => List.nodup_nil
  | x :: l, h, hn => by
    obtain ⟨h1, h2⟩ := List.nodup_cons.mp hn
    rw [List.map_cons]
    refine List.nodup_cons.mpr ⟨?_, nd_map (fun a ha b hb => h a (List.mem_cons_of_mem _ ha) b (List.mem_cons_of_mem _ hb)) h2⟩
    intro hx
    obtain ⟨y, hy, e⟩ := List.mem_map.mp hx
    have := h y (List.mem_cons_of_mem _ hy) x List.mem_cons_self e
    exact h1 (this ▸ hy)
theorem At.stop {sg : List Nat} {m : Nat} {used : List (List Nat)} {v0 : Nat} {t : List Nat} (h : At sg m used v0 used.length t) (hN : used.length < top sg.length m) : t ∉ used := by
  rcases h with h | ⟨h1, h2⟩
  · exact h
  · intro hu
    have hnd : ((List.range (used.length + 1)).map fun q => (v0 + q) % top sg.length m + 1).Nodup := by
      refine nd_map ?_ List.nodup_range
      intro x hx y hy e
      have hx' := List.mem_range.mp hx
      have hy' := List.mem_range.mp hy
      have e' : (v0 + x) % top sg.length m = (v0 + y) % top sg.length m := Nat.add_right_cancel e
      rcases Nat.le_total x y with g | g
      · have := mod_inj e' (by omega) (by omega)
        omega
      · have := mod_inj e'.symm (by omega) (by omega)
        omega
    have hsub : ∀ z ∈ (List.range (used.length + 1)).map fun q => (v0 + q) % top sg.length m + 1, z ∈ used.map (val sg) := by
      intro z hz
      obtain ⟨q, hq, rfl⟩ := List.mem_map.mp hz
      have hq' := List.mem_range.mp hq
      rcases Nat.lt_or_ge q used.length with g | g
      · exact h2 q g
      · obtain rfl : q = used.length := by omega
        rw [← h1]
        exact List.mem_map.mpr ⟨t, hu, rfl⟩
    have := L2.nat_nodup_len _ _ hnd hsub
    simp at this
    omega
end Fw
set_option Elab.async false
set_option linter.all false
set_option maxRecDepth 100000
set_option maxHeartbeats 4000000
namespace Vk
open PySem PySem.Spec PyProof.Rows L2
abbrev sBoxB : Stmt := top 25
abbrev sDraw : Stmt := top 26
/-- the box of draws at b, its great numbers at g -/
def BoxB (H : Hp) (b g : Addr) : Prop := ∃ (x m sd : Int) (gs : List Int), H b = some (.lst [.int x, .int m, .int sd, .ref g]) ∧ H g = some (.lst (gs.map V.int)) ∧ (0 ≤ x ∧ 0 ≤ m ∧ 0 ≤ sd ∧ sd ≤ 2147483647) ∧ ∀ z ∈ gs, 0 ≤ z
def Kp2 (b g : Addr) (H H' : Hp) : Prop := ∀ c o, c ≠ b → c ≠ g → H c = some o → H' c = some o
theorem Kp2.refl (b g : Addr) (H : Hp) : Kp2 b g H H := fun _ _ _ _ h => h
theorem Kp2.trans {b g : Addr} {H H1 H2 : Hp} (a : Kp2 b g H H1) (c : Kp2 b g H1 H2) : Kp2 b g H H2 := fun d o h h' e => c d o h h' (a d o h h' e)
theorem Same.kp2 {H H' : Hp} (h : Same H H') (b g : Addr) : Kp2 b g H H' := fun c o _ _ e => h c o e
theorem Kp2.updB (b g : Addr) (H : Hp) (o : HO) : Kp2 b g H (upd H b o) := fun c u h _ e => by rw [upd_ne h]; exact e
theorem Kp2.updG (b g : Addr) (H : Hp) (o : HO) : Kp2 b g H (upd H g o) := fun c u _ h e => by rw [upd_ne h]; exact e
theorem BoxB.same {H H' : Hp} {b g : Addr} (h : BoxB H b g) (s : Same H H') : BoxB H' b g := by
  obtain ⟨x, m, sd, gs, h1, h2, h3⟩ := h
  exact ⟨x, m, sd, gs, s _ _ h1, s _ _ h2, h3⟩
theorem BoxB.ne {H : Hp} {b g : Addr} (h : BoxB H b g) : b ≠ g := by
  obtain ⟨x, m, sd, gs, h1, h2, _⟩ := h
  intro e
  rw [e, h2] at h1
  have z := HO.lst.inj (Option.some.inj h1)
  cases gs with
  | nil => cases z
  | cons y r => 
    cases r with
    | nil => simp at z
    | cons y2 r =>
      cases r with
      | nil => simp at z
      | cons y3 r =>
        cases r with
        | nil => simp at z
        | cons y4 r => simp at z
theorem cut_ints (ns : List Int) (lo hi : Option Int) : ∃ ms : List Int, cutV (ns.map V.int) lo hi = ms.map V.int ∧ ms.length ≤ ns.length := by
  refine ⟨(ns.drop (HT.sIx ns.length 0 lo)).take (HT.sIx ns.length ns.length hi - HT.sIx ns.length 0 lo), ?_, ?_⟩
  · unfold cutV
    rw [List.length_map, List.map_take, List.map_drop]
  · rw [List.length_take, List.length_drop]
    omega
section
variable {P : Program} {w : World} {K : PySem.W.Frag} {mg : Str → Option Value} {base : Heap} {aDiff : Addr}
def spBoxB (K : PySem.W.Frag) : Sp := fun vs H Q _ => ∃ (a : Addr) (ns : List Int), vs = [.ref a] ∧ SqL K H a (ns.map V.int) ∧ ns.length ≤ 63 ∧ ∀ (b g : Addr) (H' : Hp), H b = none → H g = none → BoxB H' b g → Same H H' → Q (.ref b) H'
theorem scBoxB : FnScope ["_law_script", "_law_seed", "_law_great", "_law_cell"] ["_law_script"] (defScope sBoxB) := ⟨rfl, rfl, rfl, by decide +kernel, rfl, by decide +kernel, by decide +kernel⟩
theorem ok_boxB {f : Addr} {fd : FuncData} (F : Fun K "_law_box" "_law_box" sBoxB f fd) (T : TxA K mg aDiff) : FnOk P w K mg base CX0 1 f fd ["_law_script"] (spBoxB K) := by
  refine F.ok scBoxB (fun vs H Q E h => ?_) (fun cdv A outer s H vs Q E hr h => ?_)
  · obtain ⟨a, ns, rfl, _⟩ := h
    rfl
  · obtain ⟨a, ns, rfl, hS, hl, k⟩ := h
    refine ⟨_, (pss_cons (ps_set (i := 1) scBoxB.nd rfl (Or.inl rfl) pe_int)
      (pss_cons (ps_set (i := 2) scBoxB.nd rfl (Or.inl rfl) (pe_lst pa_nil))
      (pss_cons (ps_for PassesOwn.never rfl (pi_list (pe_slice sl_list (pv 0) po_none (po_some pe_int))) (pg_name (i := 3) scBoxB.nd rfl (Or.inl rfl)) (pss_cons (ps_set (i := 1) scBoxB.nd rfl (Or.inl rfl) (pe_op op_mod (pe_callTy call_int1 (by rfl) T.z_int (by decide +kernel) (pa_cons (pe_op op_add (pe_op op_add (pe_op op_mul (pv 1) pe_int) (pe_op op_mod (pe_callTy call_int1 (by rfl) T.z_int (by decide +kernel) (pa_cons (pv 3) pa_nil)) pe_int)) pe_int) pa_nil)) pe_int))
      (pss_one (ps_if (pt_cmpR op_ge (pe_callB call_abs (by rfl) T.z_abs (by decide +kernel) (pa_cons (pv 3) pa_nil)) (pe_op op_pow pe_int pe_int) (nomark _)) (pss_one (ps_expr (pe_bm PySem.F.plainAttrs_list PySem.F.slot_list_append PySem.F.type_list_append mt_append (pv 2) (pa_cons (pe_callB call_abs (by rfl) T.z_abs (by decide +kernel) (pa_cons (pv 3) pa_nil)) pa_nil)))) pss_nil))))
      (pss_one (ps_ret (pe_lst (pa_cons pe_int (pa_cons pe_int (pa_cons (pv 1) (pa_cons (pv 2) pa_nil)))))))))), ?_⟩
    refine ⟨(by show 0 ≤ sizeLine; exact Nat.zero_le _), fun g hg => ?_⟩
    have s1 : Same H (upd H g (.lst [])) := upd_laid hg
    obtain ⟨ms, ems, hms⟩ := cut_ints ns none (some 63)
    refine ⟨_, rfl, _, rfl, a, _, rfl, s1.seq hS, fun p hp => ?_⟩
    rw [ems]
    have hpg : p ≠ g := fun e => by
      rw [e, upd_same] at hp
      cases hp
    have s2 : Same H (upd (upd H g (.lst [])) p (.lst (ms.map V.int))) := Same.trans s1 (upd_laid hp)
    have hp2 : (upd (upd H g (.lst [])) p (.lst (ms.map V.int))) p = some (.lst (ms.map V.int)) := upd_same
    have hg2 : (upd (upd H g (.lst [])) p (.lst (ms.map V.int))) g = some (.lst (([] : List Int).map V.int)) := by
      rw [upd_ne hpg.symm, upd_same]
      rfl
    have hgH : H g = none := hg
    generalize upd (upd H g (.lst [])) p (.lst (ms.map V.int)) = H2 at s2 hp2 hg2
    refine ⟨p, rfl, ⟨_, SqL.of hp2⟩, for_list (K := K) (a := p) (xs := ms.map V.int) (fun i σ H' => ∃ (sd : Int) (gs : List Int) (v3 : Option V), σ = [some (.ref a), some (.int sd), some (.ref g), v3] ∧ H' g = some (.lst (gs.map V.int)) ∧ (∀ z ∈ gs, 0 ≤ z) ∧ gs.length ≤ i ∧ (0 ≤ sd ∧ sd ≤ 2147483647) ∧ Kp g H2 H')
      ⟨0, [], none, rfl, hg2, by simp, Nat.le_refl _, by decide, fun _ _ _ e => e⟩ (fun i σ H' _ ⟨_, _, _, _, _, _, _, _, kp⟩ => SqL.of (kp _ _ hpg hp2)) ?_ ?_⟩
    · rintro i y σ H1 hi ⟨sd, gs, v3, rfl, hg1, hz, hlen, ⟨q1, q2⟩, kp⟩
      obtain ⟨c, hc, rfl⟩ : ∃ c, ms[i]? = some c ∧ y = V.int c := by
        rw [List.getElem?_map] at hi
        cases e : ms[i]? with
        | none => rw [e] at hi; cases hi
        | some z => rw [e] at hi; exact ⟨z, rfl, (Option.some.inj hi).symm⟩
      have hil : i < ms.length := (List.getElem?_eq_some_iff.mp hc).1
      refine ⟨_, rfl, _, _, rfl, rfl, .inl ⟨by omega, by omega⟩, _, rfl, .inl ⟨_, rfl, _, _, rfl, rfl, by show (0 : Int) < _; decide, _, _, rfl, rfl, _, _, rfl, rfl, .inl ⟨_, rfl, _, _, rfl, rfl, by show (0 : Int) < _; decide, ?_⟩⟩⟩
      refine ⟨_, rfl, _, rfl, _, _, rfl, rfl, ⟨by decide, by decide, by decide⟩, _, _, rfl, rfl, _, rfl, ?_⟩
      have g0 := Int.emod_nonneg (sd * 69621 + c % 1000003 + 1) (show (2147483647 : Int) ≠ 0 by decide)
      have g1 := Int.emod_lt_of_pos (sd * 69621 + c % 1000003 + 1) (show (0 : Int) < 2147483647 by decide)
      refine ite2 (fun h => ?_) (fun h => ?_)
      · refine ⟨_, rfl, .inl ⟨rfl, _, SqL.of hg1⟩, _, rfl, _, rfl, g, _, _, rfl, rfl, hg1, by rw [List.length_map, sizeLine_eq]; omega, ?_⟩
        refine ⟨_, gs ++ [if c < 0 then -c else c], _, rfl, ?_, ?_, ?_, ⟨g0, by omega⟩, kp.trans (Kp.upd _ _ _)⟩
        · rw [upd_same, List.map_append]
          rfl
        · intro z hzm
          rcases List.mem_append.mp hzm with h | h
          · exact hz z h
          · rw [List.mem_singleton] at h
            rw [h]
            split <;> omega
        · rw [List.length_append]
          show gs.length + 1 ≤ i + 1
          omega
      · exact ⟨_, gs, _, rfl, hg1, hz, by omega, ⟨g0, by omega⟩, kp⟩
    · rintro σ H1 ⟨sd, gs, v3, rfl, hg1, hz, hlen, hq, kp⟩
      refine ⟨_, rfl, _, rfl, (by show 4 ≤ sizeLine; decide), fun b hb => ?_⟩
      have hbg : b ≠ g := fun e => by
        rw [e, hg1] at hb
        cases hb
      have s3 : Same H H1 := fun c u e => kp c u (ne_of_none e hgH) (s2 _ _ e)
      refine k b g _ (s3.free hb) hgH ⟨0, 0, sd, gs, upd_same, ?_, ⟨by decide, by decide, hq⟩, hz⟩ (Same.trans s3 (upd_laid hb))
      rw [upd_ne hbg.symm]
      exact hg1
end
end Vk
set_option Elab.async false
set_option linter.all false
set_option maxRecDepth 100000
set_option maxHeartbeats 4000000
namespace Vk
open PySem PySem.Spec PyProof.Rows L2
theorem dp_ints {K : PySem.W.Frag} {H : Hp} : ∀ ns : List Int, DpAll K H (ns.map V.int) (ns.map PyData.int)
  | [] => .nil
  | n :: r => .cons (.int n) (dp_ints r)
theorem em1 (z : Int) : -(2 ^ 64) < z % 2147483563 ∧ z % 2147483563 < 2 ^ 64 := by
  have h0 := Int.emod_nonneg z (show (2147483563 : Int) ≠ 0 by decide)
  have h1 := Int.emod_lt_of_pos z (show (0 : Int) < 2147483563 by decide)
  omega
theorem em2 (z : Int) : -(2 ^ 64) < z % 998244353 ∧ z % 998244353 < 2 ^ 64 := by
  have h0 := Int.emod_nonneg z (show (998244353 : Int) ≠ 0 by decide)
  have h1 := Int.emod_lt_of_pos z (show (0 : Int) < 998244353 by decide)
  omega
section
variable {P : Program} {w : World} {K : PySem.W.Frag} {mg : Str → Option Value} {base : Heap} {aDiff : Addr}
def spDraw : Sp := fun vs H Q _ => ∃ (b g : Addr) (n : Int), vs = [.ref b, .int n] ∧ BoxB H b g ∧ n < 2 ^ 30 ∧
  ∀ (r : Nat) (H' : Hp), (r = 0 ∨ (r : Int) < n) → BoxB H' b g → Kp2 b g H H' → Q (.int r) H'
theorem scDraw : FnScope ["_law_box_here", "_law_many", "_law_digit", "_law_first", "_law_second", "_law_third"] ["_law_box_here", "_law_many"] (defScope sDraw) := ⟨rfl, rfl, rfl, by decide +kernel, rfl, by decide +kernel, by decide +kernel⟩
theorem ok_draw {f : Addr} {fd : FuncData} (F : Fun K "_law_draw" "_law_draw" sDraw f fd) (T : TxA K mg aDiff) : FnOk P w K mg base CX0 1 f fd ["_law_box_here", "_law_many"] spDraw := by
  refine F.ok scDraw (fun vs H Q E h => ?_) (fun cdv A outer s H vs Q E hr h => ?_)
  · obtain ⟨b, g, n, rfl, _⟩ := h
    rfl
  · obtain ⟨b, g, n, rfl, hB, h30, k⟩ := h
    refine ⟨_, (pss_cons (ps_if (pt_cmpR op_lt (pv 1) pe_int (nomark _)) (pss_one (ps_ret pe_int)) pss_nil)
      (pss_cons (ps_if (PW.pt (pw_and (pt_cmpR op_lt (pe_ix ix_list (pv 0) pe_int (fun _ _ => rfl)) pe_int (nomark _)) (pw_and1 (pt_cmpR (op_neD hr.units) (pe_ix ix_list (pv 0) pe_int (fun _ _ => rfl)) (pe_lst pa_nil) (nomark _))))) (pss_one (ps_asg (pe_bm PySem.F.plainAttrs_list PySem.F.slot_list_pop PySem.F.type_list_pop mt_popAt (pe_ix ix_list (pv 0) pe_int (fun _ _ => rfl)) (pa_cons pe_int pa_nil)) (pg_sub (pv 0) pe_int set_list))) pss_nil)
      (pss_cons (ps_if (pt_cmpR op_gt (pe_ix ix_list (pv 0) pe_int (fun _ _ => rfl)) pe_int (nomark _)) (pss_cons (ps_set (i := 2) scDraw.nd rfl (Or.inl rfl) (pe_op op_mod (pe_callTy call_int1 (by rfl) T.z_int (by decide +kernel) (pa_cons (pe_ix ix_list (pv 0) pe_int (fun _ _ => rfl)) pa_nil)) (pv 1)))
      (pss_cons (ps_asg (pe_op op_fdivN (pe_ix ix_list (pv 0) pe_int (fun _ _ => rfl)) (pv 1)) (pg_sub (pv 0) pe_int set_list))
      (pss_one (ps_ret (pv 2))))) pss_nil)
      (pss_cons (ps_if (pt_cmpR op_eq (pe_ix ix_list (pv 0) pe_int (fun _ _ => rfl)) pe_int (nomark _)) (pss_one (ps_ret pe_int)) pss_nil)
      (pss_cons (ps_asg (pe_op op_add (pe_ix ix_list (pv 0) pe_int (fun _ _ => rfl)) pe_int) (pg_sub (pv 0) pe_int set_list))
      (pss_cons (ps_set (i := 3) scDraw.nd rfl (Or.inl rfl) (pe_op op_mod (pe_callTy call_int1 (by rfl) T.z_int (by decide +kernel) (pa_cons (pe_op op_add (pe_op op_mul (pe_ix ix_list (pv 0) pe_int (fun _ _ => rfl)) pe_int) (pe_op op_mul (pe_ix ix_list (pv 0) pe_int (fun _ _ => rfl)) pe_int)) pa_nil)) pe_int))
      (pss_cons (ps_set (i := 4) scDraw.nd rfl (Or.inl rfl) (pe_op op_mod (pe_callTy call_int1 (by rfl) T.z_int (by decide +kernel) (pa_cons (pe_op op_add (pe_op op_add (pe_op op_mul (pv 3) (pv 3)) (pe_op op_mul (pe_ix ix_list (pv 0) pe_int (fun _ _ => rfl)) pe_int)) (pe_ix ix_list (pv 0) pe_int (fun _ _ => rfl))) pa_nil)) pe_int))
      (pss_cons (ps_set (i := 5) scDraw.nd rfl (Or.inl rfl) (pe_op op_mod (pe_callTy call_int1 (by rfl) T.z_int (by decide +kernel) (pa_cons (pe_op op_add (pe_op op_mul (pv 4) (pv 4)) (pe_op op_mul (pv 3) pe_int)) pa_nil)) pe_int))
      (pss_one (ps_ret (pe_op op_mod (pe_callTy call_int1 (by rfl) T.z_int (by decide +kernel) (pa_cons (pe_op op_fdiv (pv 5) pe_int) pa_nil)) (pv 1)))))))))))), ?_⟩
    have hB0 := hB
    have hbg := hB.ne
    obtain ⟨x, m, sd, gs, hb, hg, ⟨hx, hm, hs1, hs2⟩, hgs⟩ := hB
    refine ⟨_, rfl, _, _, rfl, rfl, _, rfl, ite2 (fun hn => k 0 H (.inl rfl) hB0 (Kp2.refl _ _ _)) (fun hn => ?_)⟩
    have h2 : 2 ≤ n := by
      have : ¬ n < 2 := fun z => hn (decide_eq_true z)
      omega
    have h0 : 0 < n := by omega
    refine ⟨_, rfl, b, _, 0, _, rfl, rfl, SqL.of hb, rfl, _, _, rfl, rfl, _, rfl, ite2 (fun hc => ?_) (fun hc => iteF ?_)⟩
    · refine ⟨_, rfl, b, _, 3, _, rfl, rfl, SqL.of hb, rfl, (by show 0 ≤ sizeLine; exact Nat.zero_le _), fun p hp => ?_⟩
      have hb' := upd_laid (o := .lst []) hp _ _ hb
      have hg' := upd_laid (o := .lst []) hp _ _ hg
      have s1 : Same H (upd H p (.lst [])) := upd_laid hp
      refine ⟨.list (gs.map PyData.int), .list (([] : List Int).map PyData.int), .lst (SqL.of hg') (dp_ints gs), .lst (SqL.of (xs := ([] : List Int).map V.int) upd_same) (dp_ints []), PySem.W.ke_shaped_ints gs, PySem.W.ke_shaped_ints [], ?_⟩
      generalize upd H p (.lst []) = H1 at hb' hg' s1
      have kp1 : Kp2 b g H H1 := Same.kp2 s1 b g
      rw [show PyData.eqv (.list (gs.map PyData.int)) (.list (([] : List Int).map PyData.int)) = decide (gs = []) from PySem.W.Datum.eqv (α := List Int) gs []]
      refine ⟨_, rfl, ite2 (fun he => ?_) (fun he => ?_)⟩
      · cases gs with
        | nil => cases he
        | cons z r =>
          refine ⟨_, rfl, b, _, 3, _, rfl, rfl, SqL.of hb', rfl, .inl ⟨rfl, _, SqL.of hg'⟩, g, _, 0, 0, _, rfl, rfl, hg', by decide, by decide, ?_, rfl, ?_⟩
          · show seqIndex? 0 _ = some 0
            unfold seqIndex?
            rw [List.length_map, List.length_cons]
            simp
          · have hb2 : (upd H1 g (.lst ((V.int z :: r.map V.int).eraseIdx 0))) b = some (.lst [.int x, .int m, .int sd, .ref g]) := by rw [upd_ne hbg]; exact hb'
            refine ⟨_, rfl, b, _, 0, 0, rfl, rfl, hb2, rfl, ?_⟩
            have hb3 : (upd (upd H1 g (.lst ((V.int z :: r.map V.int).eraseIdx 0))) b (.lst [.int z, .int m, .int sd, .ref g])) b = some (.lst [.int z, .int m, .int sd, .ref g]) := upd_same
            have hg3 : (upd (upd H1 g (.lst ((V.int z :: r.map V.int).eraseIdx 0))) b (.lst [.int z, .int m, .int sd, .ref g])) g = some (.lst (r.map V.int)) := by
              rw [upd_ne hbg.symm, upd_same]
              rfl
            have kp3 := (kp1.trans (Kp2.updG b g H1 (.lst ((V.int z :: r.map V.int).eraseIdx 0)))).trans (Kp2.updB b g _ (.lst [.int z, .int m, .int sd, .ref g]))
            have hz : 0 ≤ z := hgs z List.mem_cons_self
            have hgs' : ∀ z ∈ r, 0 ≤ z := fun y hy => hgs y (List.mem_cons_of_mem _ hy)
            refine ⟨_, rfl, b, _, 0, _, rfl, rfl, SqL.of hb3, rfl, _, _, rfl, rfl, _, rfl, ite2 (fun h => ?_) (fun h => ?_)⟩
            · refine ⟨_, rfl, b, _, 0, _, rfl, rfl, SqL.of hb3, rfl, .inl ⟨_, rfl, _, rfl, _, _, rfl, rfl, h0, ?_⟩⟩
              refine ⟨_, rfl, b, _, 0, _, rfl, rfl, SqL.of hb3, rfl, _, rfl, _, _, rfl, rfl, ⟨by omega, by omega⟩, ?_⟩
              refine ⟨_, rfl, b, _, 0, 0, rfl, rfl, hb3, rfl, _, rfl, ?_⟩
              have g0 := Int.emod_nonneg z (Int.ne_of_gt h0)
              have g1 := Int.emod_lt_of_pos z h0
              obtain ⟨r1, er⟩ : ∃ r1 : Nat, z % n = (r1 : Int) := ⟨(z % n).toNat, by omega⟩
              have gq : 0 ≤ (z).fdiv n := by
                rw [Int.fdiv_eq_ediv_of_nonneg _ (Int.le_of_lt h0)]
                exact Int.ediv_nonneg hz (Int.le_of_lt h0)
              show Q (.int (z % n)) _
              rw [er]
              refine k r1 _ (.inr (by omega)) ⟨(z).fdiv n, m, sd, _, upd_same, (by rw [upd_ne hbg.symm]; exact hg3), ⟨gq, hm, hs1, hs2⟩, hgs'⟩ (kp3.trans (Kp2.updB _ _ _ _))
            · refine ⟨_, rfl, b, _, 2, _, rfl, rfl, SqL.of hb3, rfl, rfl, _, rfl, ite2 (fun h => k 0 _ (.inl rfl) ⟨z, m, sd, _, hb3, hg3, ⟨hz, hm, hs1, hs2⟩, hgs'⟩ kp3) (fun h => ?_)⟩
              refine ⟨_, rfl, b, _, 1, _, rfl, rfl, SqL.of hb3, rfl, _, _, rfl, rfl, _, rfl, b, _, 1, 1, rfl, rfl, hb3, rfl, ?_⟩
              refine ⟨_, rfl, b, _, 2, _, rfl, rfl, SqL.of upd_same, rfl, _, _, rfl, rfl, .inr ⟨by decide, by decide⟩, _, rfl, b, _, 1, _, rfl, rfl, SqL.of upd_same, rfl, _, _, rfl, rfl, .inr ⟨by decide, by decide⟩, _, _, rfl, rfl, .inl ⟨_, rfl, _, _, rfl, rfl, by show (0 : Int) < _; decide, ?_⟩⟩
              refine ⟨_, rfl, _, rfl, _, _, rfl, rfl, .inl (em1 _), _, rfl, b, _, 1, _, rfl, rfl, SqL.of upd_same, rfl, _, _, rfl, rfl, .inr ⟨by decide, by decide⟩, _, _, rfl, rfl, _, rfl, b, _, 2, _, rfl, rfl, SqL.of upd_same, rfl, _, _, rfl, rfl, .inl ⟨_, rfl, _, _, rfl, rfl, by show (0 : Int) < _; decide, ?_⟩⟩
              refine ⟨_, rfl, _, rfl, _, _, rfl, rfl, .inl (em2 _), _, rfl, _, _, rfl, rfl, .inr ⟨by decide, by decide⟩, _, _, rfl, rfl, .inl ⟨_, rfl, _, _, rfl, rfl, by show (0 : Int) < _; decide, ?_⟩⟩
              refine ⟨_, rfl, _, _, rfl, rfl, ⟨by decide, by decide⟩, .inl ⟨_, rfl, _, rfl, _, _, rfl, rfl, h0, ?_⟩⟩
              have key : ∀ zz : Int, Q (.int (zz % n)) (upd _ b (.lst [.int z, .int (m + 1), .int sd, .ref g])) := fun zz => by
                have g0 := Int.emod_nonneg zz (Int.ne_of_gt h0)
                have g1 := Int.emod_lt_of_pos zz h0
                obtain ⟨r1, er⟩ : ∃ r1 : Nat, zz % n = (r1 : Int) := ⟨(zz % n).toNat, by omega⟩
                rw [er]
                exact k r1 _ (.inr (by omega)) ⟨z, m + 1, sd, _, upd_same, (by rw [upd_ne hbg.symm]; exact hg3), ⟨hz, by omega, hs1, hs2⟩, hgs'⟩ (kp3.trans (Kp2.updB _ _ _ _))
              exact key _
      · refine ⟨_, rfl, b, _, 0, _, rfl, rfl, SqL.of hb', rfl, _, _, rfl, rfl, _, rfl, ite2 (fun h => ?_) (fun h => ?_)⟩
        · refine ⟨_, rfl, b, _, 0, _, rfl, rfl, SqL.of hb', rfl, .inl ⟨_, rfl, _, rfl, _, _, rfl, rfl, h0, ?_⟩⟩
          refine ⟨_, rfl, b, _, 0, _, rfl, rfl, SqL.of hb', rfl, _, rfl, _, _, rfl, rfl, ⟨by omega, by omega⟩, ?_⟩
          refine ⟨_, rfl, b, _, 0, 0, rfl, rfl, hb', rfl, _, rfl, ?_⟩
          have g0 := Int.emod_nonneg x (Int.ne_of_gt h0)
          have g1 := Int.emod_lt_of_pos x h0
          obtain ⟨r1, er⟩ : ∃ r1 : Nat, x % n = (r1 : Int) := ⟨(x % n).toNat, by omega⟩
          have gq : 0 ≤ (x).fdiv n := by
            rw [Int.fdiv_eq_ediv_of_nonneg _ (Int.le_of_lt h0)]
            exact Int.ediv_nonneg hx (Int.le_of_lt h0)
          show Q (.int (x % n)) _
          rw [er]
          refine k r1 _ (.inr (by omega)) ⟨(x).fdiv n, m, sd, _, upd_same, (by rw [upd_ne hbg.symm]; exact hg'), ⟨gq, hm, hs1, hs2⟩, hgs⟩ (kp1.trans (Kp2.updB _ _ _ _))
        · refine ⟨_, rfl, b, _, 2, _, rfl, rfl, SqL.of hb', rfl, rfl, _, rfl, ite2 (fun h => k 0 _ (.inl rfl) ⟨x, m, sd, _, hb', hg', ⟨hx, hm, hs1, hs2⟩, hgs⟩ kp1) (fun h => ?_)⟩
          refine ⟨_, rfl, b, _, 1, _, rfl, rfl, SqL.of hb', rfl, _, _, rfl, rfl, _, rfl, b, _, 1, 1, rfl, rfl, hb', rfl, ?_⟩
          refine ⟨_, rfl, b, _, 2, _, rfl, rfl, SqL.of upd_same, rfl, _, _, rfl, rfl, .inr ⟨by decide, by decide⟩, _, rfl, b, _, 1, _, rfl, rfl, SqL.of upd_same, rfl, _, _, rfl, rfl, .inr ⟨by decide, by decide⟩, _, _, rfl, rfl, .inl ⟨_, rfl, _, _, rfl, rfl, by show (0 : Int) < _; decide, ?_⟩⟩
          refine ⟨_, rfl, _, rfl, _, _, rfl, rfl, .inl (em1 _), _, rfl, b, _, 1, _, rfl, rfl, SqL.of upd_same, rfl, _, _, rfl, rfl, .inr ⟨by decide, by decide⟩, _, _, rfl, rfl, _, rfl, b, _, 2, _, rfl, rfl, SqL.of upd_same, rfl, _, _, rfl, rfl, .inl ⟨_, rfl, _, _, rfl, rfl, by show (0 : Int) < _; decide, ?_⟩⟩
          refine ⟨_, rfl, _, rfl, _, _, rfl, rfl, .inl (em2 _), _, rfl, _, _, rfl, rfl, .inr ⟨by decide, by decide⟩, _, _, rfl, rfl, .inl ⟨_, rfl, _, _, rfl, rfl, by show (0 : Int) < _; decide, ?_⟩⟩
          refine ⟨_, rfl, _, _, rfl, rfl, ⟨by decide, by decide⟩, .inl ⟨_, rfl, _, rfl, _, _, rfl, rfl, h0, ?_⟩⟩
          have key : ∀ zz : Int, Q (.int (zz % n)) (upd _ b (.lst [.int x, .int (m + 1), .int sd, .ref g])) := fun zz => by
            have g0 := Int.emod_nonneg zz (Int.ne_of_gt h0)
            have g1 := Int.emod_lt_of_pos zz h0
            obtain ⟨r1, er⟩ : ∃ r1 : Nat, zz % n = (r1 : Int) := ⟨(zz % n).toNat, by omega⟩
            rw [er]
            exact k r1 _ (.inr (by omega)) ⟨x, m + 1, sd, _, upd_same, (by rw [upd_ne hbg.symm]; exact hg'), ⟨hx, by omega, hs1, hs2⟩, hgs⟩ (kp1.trans (Kp2.updB _ _ _ _))
          exact key _
    · refine ⟨_, rfl, b, _, 0, _, rfl, rfl, SqL.of hb, rfl, _, _, rfl, rfl, _, rfl, ite2 (fun h => ?_) (fun h => ?_)⟩
      · refine ⟨_, rfl, b, _, 0, _, rfl, rfl, SqL.of hb, rfl, .inl ⟨_, rfl, _, rfl, _, _, rfl, rfl, h0, ?_⟩⟩
        refine ⟨_, rfl, b, _, 0, _, rfl, rfl, SqL.of hb, rfl, _, rfl, _, _, rfl, rfl, ⟨by omega, by omega⟩, ?_⟩
        refine ⟨_, rfl, b, _, 0, 0, rfl, rfl, hb, rfl, _, rfl, ?_⟩
        have g0 := Int.emod_nonneg x (Int.ne_of_gt h0)
        have g1 := Int.emod_lt_of_pos x h0
        obtain ⟨r1, er⟩ : ∃ r1 : Nat, x % n = (r1 : Int) := ⟨(x % n).toNat, by omega⟩
        have gq : 0 ≤ (x).fdiv n := by
          rw [Int.fdiv_eq_ediv_of_nonneg _ (Int.le_of_lt h0)]
          exact Int.ediv_nonneg hx (Int.le_of_lt h0)
        show Q (.int (x % n)) _
        rw [er]
        refine k r1 _ (.inr (by omega)) ⟨(x).fdiv n, m, sd, _, upd_same, (by rw [upd_ne hbg.symm]; exact hg), ⟨gq, hm, hs1, hs2⟩, hgs⟩ ((Kp2.refl b g H).trans (Kp2.updB _ _ _ _))
      · refine ⟨_, rfl, b, _, 2, _, rfl, rfl, SqL.of hb, rfl, rfl, _, rfl, ite2 (fun h => k 0 _ (.inl rfl) ⟨x, m, sd, _, hb, hg, ⟨hx, hm, hs1, hs2⟩, hgs⟩ (Kp2.refl b g H)) (fun h => ?_)⟩
        refine ⟨_, rfl, b, _, 1, _, rfl, rfl, SqL.of hb, rfl, _, _, rfl, rfl, _, rfl, b, _, 1, 1, rfl, rfl, hb, rfl, ?_⟩
        refine ⟨_, rfl, b, _, 2, _, rfl, rfl, SqL.of upd_same, rfl, _, _, rfl, rfl, .inr ⟨by decide, by decide⟩, _, rfl, b, _, 1, _, rfl, rfl, SqL.of upd_same, rfl, _, _, rfl, rfl, .inr ⟨by decide, by decide⟩, _, _, rfl, rfl, .inl ⟨_, rfl, _, _, rfl, rfl, by show (0 : Int) < _; decide, ?_⟩⟩
        refine ⟨_, rfl, _, rfl, _, _, rfl, rfl, .inl (em1 _), _, rfl, b, _, 1, _, rfl, rfl, SqL.of upd_same, rfl, _, _, rfl, rfl, .inr ⟨by decide, by decide⟩, _, _, rfl, rfl, _, rfl, b, _, 2, _, rfl, rfl, SqL.of upd_same, rfl, _, _, rfl, rfl, .inl ⟨_, rfl, _, _, rfl, rfl, by show (0 : Int) < _; decide, ?_⟩⟩
        refine ⟨_, rfl, _, rfl, _, _, rfl, rfl, .inl (em2 _), _, rfl, _, _, rfl, rfl, .inr ⟨by decide, by decide⟩, _, _, rfl, rfl, .inl ⟨_, rfl, _, _, rfl, rfl, by show (0 : Int) < _; decide, ?_⟩⟩
        refine ⟨_, rfl, _, _, rfl, rfl, ⟨by decide, by decide⟩, .inl ⟨_, rfl, _, rfl, _, _, rfl, rfl, h0, ?_⟩⟩
        have key : ∀ zz : Int, Q (.int (zz % n)) (upd _ b (.lst [.int x, .int (m + 1), .int sd, .ref g])) := fun zz => by
          have g0 := Int.emod_nonneg zz (Int.ne_of_gt h0)
          have g1 := Int.emod_lt_of_pos zz h0
          obtain ⟨r1, er⟩ : ∃ r1 : Nat, zz % n = (r1 : Int) := ⟨(zz % n).toNat, by omega⟩
          rw [er]
          exact k r1 _ (.inr (by omega)) ⟨x, m + 1, sd, _, upd_same, (by rw [upd_ne hbg.symm]; exact hg), ⟨hx, by omega, hs1, hs2⟩, hgs⟩ ((Kp2.refl b g H).trans (Kp2.updB _ _ _ _))
        exact key _
end
end Vk
set_option Elab.async false
set_option linter.all false
set_option maxRecDepth 100000
set_option maxHeartbeats 4000000
namespace Vk
open PySem PySem.Spec PyProof.Rows L2
structure Ad where
  aDiff : Addr
  aBoxB : Addr
  aDraw : Addr
  aLetters : Addr
  aWord : Addr
  aSucc : Addr
  aFresh : Addr
  aOverL : Addr
  aKin : Addr
  aRows : Addr
  aIsWord : Addr
  aFault : Addr
  aOdd : Addr
  aBookL : Addr
  aPlus : Addr
  aMinus : Addr
  aItem : Addr
  aAlikeL : Addr
  aHolds : Addr
  aDue : Addr
  aAdded : Addr
  aRemoved : Addr
  aEntry : Addr
  aDeed : Addr
  aCheck : Addr
  aIsForm : Addr
  aOver : Addr
  aConf : Addr
  aLaw : Addr
  cBook : Addr
  cAlphabet : Addr
structure Fd where
  dDiff : FuncData
  dBoxB : FuncData
  dDraw : FuncData
  dLetters : FuncData
  dWord : FuncData
  dSucc : FuncData
  dFresh : FuncData
  dOverL : FuncData
  dKin : FuncData
  dRows : FuncData
  dIsWord : FuncData
  dFault : FuncData
  dOdd : FuncData
  dBookL : FuncData
  dPlus : FuncData
  dMinus : FuncData
  dItem : FuncData
  dAlikeL : FuncData
  dHolds : FuncData
  dDue : FuncData
  dAdded : FuncData
  dRemoved : FuncData
  dEntry : FuncData
  dDeed : FuncData
  dCheck : FuncData
  dIsForm : FuncData
  dOver : FuncData
  dConf : FuncData
  dLaw : FuncData
abbrev sLetters : Stmt := top 27
abbrev sWord : Stmt := top 28
abbrev sSucc : Stmt := top 29
abbrev sFresh : Stmt := top 30
abbrev sOverL : Stmt := top 31
abbrev sKin : Stmt := top 32
abbrev sRows : Stmt := top 33
abbrev sIsWord : Stmt := top 34
abbrev sFault : Stmt := top 35
abbrev sOdd : Stmt := top 36
abbrev sBookL : Stmt := top 37
abbrev sPlus : Stmt := top 38
abbrev sMinus : Stmt := top 39
abbrev sItem : Stmt := top 40
abbrev sAlikeL : Stmt := top 41
abbrev sHolds : Stmt := top 42
abbrev sDue : Stmt := top 43
abbrev sAdded : Stmt := top 44
abbrev sRemoved : Stmt := top 45
abbrev sEntry : Stmt := top 46
abbrev sDeed : Stmt := top 47
abbrev sCheck : Stmt := top 16
abbrev sIsForm : Stmt := top 17
abbrev sOver : Stmt := top 18
abbrev sConf : Stmt := top 19
abbrev sLaw : Stmt := top 48
structure Fns (K : PySem.W.Frag) (mg : Str → Option Value) (a : Ad) (d : Fd) : Prop extends TxA K mg a.aDiff where
  FDiff : Fun K "differ_within" "differ_within" sDiff a.aDiff d.dDiff
  bDiff : Binds K d.dDiff ["text", "allowed"] []
  gBoxB : mg "_law_box" = some (.ref a.aBoxB)
  FBoxB : Fun K "_law_box" "_law_box" sBoxB a.aBoxB d.dBoxB
  bBoxB : Binds K d.dBoxB ["_law_script"] []
  gDraw : mg "_law_draw" = some (.ref a.aDraw)
  FDraw : Fun K "_law_draw" "_law_draw" sDraw a.aDraw d.dDraw
  bDraw : Binds K d.dDraw ["_law_box_here", "_law_many"] []
  gLetters : mg "_law_letters" = some (.ref a.aLetters)
  FLetters : Fun K "_law_letters" "_law_letters" sLetters a.aLetters d.dLetters
  bLetters : Binds K d.dLetters ["_law_box_here", "_law_count"] []
  gWord : mg "_law_word" = some (.ref a.aWord)
  FWord : Fun K "_law_word" "_law_word" sWord a.aWord d.dWord
  bWord : Binds K d.dWord ["_law_box_here", "_law_signs", "_law_most", "_law_shift"] []
  gSucc : mg "_law_successor" = some (.ref a.aSucc)
  FSucc : Fun K "_law_successor" "_law_successor" sSucc a.aSucc d.dSucc
  bSucc : Binds K d.dSucc ["_law_signs", "_law_word_here", "_law_most"] []
  gFresh : mg "_law_fresh" = some (.ref a.aFresh)
  FFresh : Fun K "_law_fresh" "_law_fresh" sFresh a.aFresh d.dFresh
  bFresh : Binds K d.dFresh ["_law_signs", "_law_word_here", "_law_most", "_law_used"] []
  gOverL : mg "_law_overlap" = some (.ref a.aOverL)
  FOverL : Fun K "_law_overlap" "_law_overlap" sOverL a.aOverL d.dOverL
  bOverL : Binds K d.dOverL ["_law_place", "_law_other"] []
  gKin : mg "_law_kin" = some (.ref a.aKin)
  FKin : Fun K "_law_kin" "_law_kin" sKin a.aKin d.dKin
  bKin : Binds K d.dKin ["_law_box_here", "_law_signs", "_law_words", "_law_most"] []
  gRows : mg "_law_rows" = some (.ref a.aRows)
  FRows : Fun K "_law_rows" "_law_rows" sRows a.aRows d.dRows
  bRows : Binds K d.dRows ["_law_box_here", "_law_signs", "_law_count", "_law_most"] []
  gIsWord : mg "_law_is_word" = some (.ref a.aIsWord)
  FIsWord : Fun K "_law_is_word" "_law_is_word" sIsWord a.aIsWord d.dIsWord
  bIsWord : Binds K d.dIsWord ["_law_word_here", "_law_signs", "_law_most"] []
  gFault : mg "_law_fault" = some (.ref a.aFault)
  FFault : Fun K "_law_fault" "_law_fault" sFault a.aFault d.dFault
  bFault : Binds K d.dFault ["_law_signs", "_law_entry_here", "_law_rows_here"] []
  gOdd : mg "_law_odd" = some (.ref a.aOdd)
  FOdd : Fun K "_law_odd" "_law_odd" sOdd a.aOdd d.dOdd
  bOdd : Binds K d.dOdd ["_law_box_here", "_law_word_here", "_law_signs", "_law_most"] []
  gBookL : mg "_law_book" = some (.ref a.aBookL)
  FBookL : Fun K "_law_book" "_law_book" sBookL a.aBookL d.dBookL
  bBookL : Binds K d.dBookL ["_law_alphabet", "_law_rows_here"] []
  gPlus : mg "_law_plus" = some (.ref a.aPlus)
  FPlus : Fun K "_law_plus" "_law_plus" sPlus a.aPlus d.dPlus
  bPlus : Binds K d.dPlus ["_law_book_here", "_law_entry_here"] []
  gMinus : mg "_law_minus" = some (.ref a.aMinus)
  FMinus : Fun K "_law_minus" "_law_minus" sMinus a.aMinus d.dMinus
  bMinus : Binds K d.dMinus ["_law_book_here", "_law_name"] []
  gItem : mg "_law_item" = some (.ref a.aItem)
  FItem : Fun K "_law_item" "_law_item" sItem a.aItem d.dItem
  bItem : Binds K d.dItem ["_law_book_here", "_law_name"] []
  gAlikeL : mg "_law_alike" = some (.ref a.aAlikeL)
  FAlikeL : Fun K "_law_alike" "_law_alike" sAlikeL a.aAlikeL d.dAlikeL
  bAlikeL : Binds K d.dAlikeL ["_law_told", "_law_due_here"] []
  gHolds : mg "_law_holds" = some (.ref a.aHolds)
  FHolds : Fun K "_law_holds" "_law_holds" sHolds a.aHolds d.dHolds
  bHolds : Binds K d.dHolds ["_law_book_here", "_law_rows_here", "_law_words"] []
  gDue : mg "_law_due" = some (.ref a.aDue)
  FDue : Fun K "_law_due" "_law_due" sDue a.aDue d.dDue
  bDue : Binds K d.dDue ["_law_signs", "_law_rows_here", "_law_entry_here"] []
  gAdded : mg "_law_added" = some (.ref a.aAdded)
  FAdded : Fun K "_law_added" "_law_added" sAdded a.aAdded d.dAdded
  bAdded : Binds K d.dAdded ["_law_kept", "_law_signs", "_law_entry_here"] []
  gRemoved : mg "_law_removed" = some (.ref a.aRemoved)
  FRemoved : Fun K "_law_removed" "_law_removed" sRemoved a.aRemoved d.dRemoved
  bRemoved : Binds K d.dRemoved ["_law_kept", "_law_name"] []
  gEntry : mg "_law_entry" = some (.ref a.aEntry)
  FEntry : Fun K "_law_entry" "_law_entry" sEntry a.aEntry d.dEntry
  bEntry : Binds K d.dEntry ["_law_box_here", "_law_signs", "_law_rows_here", "_law_way"] []
  gDeed : mg "_law_deed" = some (.ref a.aDeed)
  FDeed : Fun K "_law_deed" "_law_deed" sDeed a.aDeed d.dDeed
  bDeed : Binds K d.dDeed ["_law_box_here", "_law_signs", "_law_kept", "_law_offered", "_law_way"] []
  gCheck : mg "check_entry" = some (.ref a.aCheck)
  FCheck : Fun K "check_entry" "check_entry" sCheck a.aCheck d.dCheck
  bCheck : Binds K d.dCheck ["alphabet", "entry", "earlier"] []
  gIsForm : mg "is_form" = some (.ref a.aIsForm)
  FIsForm : Fun K "is_form" "is_form" sIsForm a.aIsForm d.dIsForm
  bIsForm : Binds K d.dIsForm ["alphabet", "form"] []
  gOver : mg "overlap" = some (.ref a.aOver)
  FOver : Fun K "overlap" "overlap" sOver a.aOver d.dOver
  bOver : Binds K d.dOver ["place", "other"] []
  gConf : mg "conflict" = some (.ref a.aConf)
  FConf : Fun K "conflict" "conflict" sConf a.aConf d.dConf
  bConf : Binds K d.dConf ["entry", "other"] []
  gLaw : mg "law" = some (.ref a.aLaw)
  FLaw : Fun K "law" "law" sLaw a.aLaw d.dLaw
  bLaw : Binds K d.dLaw ["_law_script"] []
theorem Fns.tx {K : PySem.W.Frag} {mg : Str → Option Value} {a : Ad} {d : Fd} (T : Fns K mg a d) : TxA K mg a.aDiff := T.toTxA
theorem cut_perm {q : List Nat} {r c : Nat} (h : q[r]? = some c) : (c :: (q.take r ++ q.drop (r + 1))).Perm q := by
  have hr : r < q.length := (List.getElem?_eq_some_iff.mp h).1
  have hc : q[r] = c := (List.getElem?_eq_some_iff.mp h).2
  have e : q.take r ++ c :: q.drop (r + 1) = q := by
    rw [← hc, ← List.drop_eq_getElem_cons hr, List.take_append_drop]
  exact List.perm_middle.symm.trans (List.Perm.of_eq e)
theorem erase_map {α β : Type} (f : α → β) : ∀ (q : List α) (r : Nat), (q.map f).eraseIdx r = (q.take r ++ q.drop (r + 1)).map f
  | [], r => by simp
  | x :: q, 0 => by simp
  | x :: q, r + 1 => by
    rw [List.map_cons, List.eraseIdx_cons_succ, erase_map f q r]
    rfl
theorem alen (a b : Str) : (a ++ b).length = a.length + b.length := by
  rw [S_of a, S_of b, S_app, S_len, S_len, S_len, List.length_append]
theorem atI_mod {l : List Nat} (h : 0 < l.length) (z : Int) : ∃ c, atI (S l).cps.toList (z % ((S l).length : Int)) = some c ∧ c ∈ l := by
  rw [S_cps, S_len]
  have h0 := Int.emod_nonneg z (show (l.length : Int) ≠ 0 by omega)
  have h1 := Int.emod_lt_of_pos z (show (0 : Int) < l.length by omega)
  obtain ⟨j, ej⟩ : ∃ j : Nat, z % (l.length : Int) = (j : Int) := ⟨(z % (l.length : Int)).toNat, by omega⟩
  obtain ⟨c, hc⟩ : ∃ c, l[j]? = some c := ⟨_, List.getElem?_eq_getElem (by omega)⟩
  exact ⟨c, by rw [ej]; exact atI_nat hc, List.mem_of_getElem? hc⟩
section
variable {P : Program} {w : World} {K : PySem.W.Frag} {mg : Str → Option Value} {base : Heap} {a : Ad} {d : Fd}
theorem gDraw (T : Fns K mg a d) : FnOk P w K mg base CX0 1 a.aDraw d.dDraw ["_law_box_here", "_law_many"] spDraw := ok_draw T.FDraw T.tx
def spLetters : Sp := fun vs H Q _ => ∃ (b g : Addr) (n : Nat), vs = [.ref b, .int (n : Int)] ∧ BoxB H b g ∧ n ≤ 20 ∧
  ∀ (l : List Nat) (H' : Hp), l.length = n → Differ l azL → BoxB H' b g → Kp2 b g H H' → Q (.str (S l)) H'
theorem scLetters : FnScope ["_law_box_here", "_law_count", "_law_pool", "_law_letters_here", "_law_k"] ["_law_box_here", "_law_count"] (defScope sLetters) := ⟨rfl, rfl, rfl, by decide +kernel, rfl, by decide +kernel, by decide +kernel⟩
theorem BoxB.al {H : Hp} {b g : Addr} (h : BoxB H b g) : (∃ o, H b = some o) ∧ ∃ o, H g = some o := by
  obtain ⟨x, m, sd, gs, h1, h2, _⟩ := h
  exact ⟨⟨_, h1⟩, ⟨_, h2⟩⟩
theorem ok_letters (T : Fns K mg a d) : FnOk P w K mg base CX0 2 a.aLetters d.dLetters ["_law_box_here", "_law_count"] spLetters := by
  have GDraw : FnOk P w K mg base CX0 1 a.aDraw d.dDraw ["_law_box_here", "_law_many"] spDraw := gDraw T
  refine T.FLetters.ok scLetters (fun vs H Q E h => ?_) (fun cdv A outer s H vs Q E hr h => ?_)
  · obtain ⟨b, g, n, rfl, _⟩ := h
    rfl
  · obtain ⟨b, g, n, rfl, hB, hn, k⟩ := h
    refine ⟨_, (pss_cons (ps_set (i := 2) scLetters.nd rfl (Or.inl rfl) (pe_callTy (call_listT rfl) (by rfl) T.z_list (by decide +kernel) (pa_cons pe_str pa_nil)))
      (pss_cons (ps_set (i := 3) scLetters.nd rfl (Or.inl rfl) pe_str)
      (pss_cons (ps_for PassesOwn.never rfl (pi_range1 (by rfl) T.z_range (pa_cons (pv 1) pa_nil)) (pg_name (i := 4) scLetters.nd rfl (Or.inl rfl)) (pss_one (ps_set (i := 3) scLetters.nd rfl (Or.inl rfl) (pe_op op_add_str (pv 3) (pe_bm PySem.F.plainAttrs_list PySem.F.slot_list_pop PySem.F.type_list_pop mt_popAt (pv 2) (pa_cons (pe_call GDraw (hr.mono (by decide)) (by rfl) T.gDraw T.FDraw.kp T.bDraw .nil pass0 (pa_cons (pv 0) (pa_cons (pe_callB call_len_seq (by rfl) T.z_len (by decide +kernel) (pa_cons (pv 2) pa_nil)) pa_nil))) pa_nil))))))
      (pss_one (ps_ret (pv 3)))))), ?_⟩
    obtain ⟨⟨ob, hob⟩, ⟨og, hog⟩⟩ := hB.al
    refine ⟨_, rfl, (by decide +kernel), fun p hp => ?_⟩
    rw [az_S, signs_S]
    have pb : p ≠ b := fun z => by rw [z, hob] at hp; cases hp
    have pg : p ≠ g := fun z => by rw [z, hog] at hp; cases hp
    have hp1 : (upd H p (.lst ((azL.map fun c => S [c]).map V.str))) p = some (.lst (azL.map fun c => V.str (S [c]))) := by
      rw [upd_same, List.map_map]
      rfl
    have s1 : Same H (upd H p (.lst ((azL.map fun c => S [c]).map V.str))) := upd_laid hp
    generalize upd H p (.lst ((azL.map fun c => S [c]).map V.str)) = H1 at hp1 s1
    have e0 : PySem.Str.ofString "" = S [] := by decide +kernel
    rw [e0]
    refine ⟨_, rfl, _, rfl, by omega, by omega, for_range (lo := 0) (n := n) (fun i σ H' => ∃ (l q : List Nat) (v4 : Option V), σ = [some (.ref b), some (.int n), some (.ref p), some (.str (S l)), v4] ∧ l.length = i ∧ (l ++ q).Perm azL ∧ H' p = some (.lst (q.map fun c => V.str (S [c]))) ∧ BoxB H' b g ∧ Kp2 b g H H')
      ⟨[], azL, none, rfl, rfl, List.Perm.refl _, hp1, hB.same s1, Same.kp2 s1 b g⟩ ?_ ?_⟩
    · rintro i σ H2 hi ⟨l, q, v4, rfl, hl, hper, hp2, hB2, hk2⟩
      have hq := hper.length_eq
      rw [List.length_append, az_len] at hq
      refine ⟨_, rfl, _, rfl, .inl ⟨rfl, _, SqL.of hp2⟩, _, rfl, _, rfl, p, _, rfl, .inl (SqL.of hp2), b, g, _, rfl, hB2, by rw [List.length_map]; omega, fun r H3 hr3 hB3 hk3 => ?_⟩
      rw [List.length_map] at hr3
      have hp3 := hk3 _ _ pb pg hp2
      obtain ⟨c, hc⟩ : ∃ c, q[r]? = some c := ⟨_, List.getElem?_eq_getElem (by omega)⟩
      have hrq : r < q.length := (List.getElem?_eq_some_iff.mp hc).1
      have hat : (q.map fun c => V.str (S [c]))[r]? = some (V.str (S [c])) := by
        rw [List.getElem?_map, hc]
        rfl
      obtain ⟨j, j1, j2, _⟩ := atI_get (atI_nat hat)
      have hj : j = r := by
        have h3 : seqIndex? (r : Int) (q.map fun c => V.str (S [c])).length = some r := by
          unfold seqIndex?
          rw [List.length_map]
          have h4 : ¬ ((r : Int) < 0) := by omega
          simp [h4, hrq]
        rw [h3] at j1
        exact (Option.some.inj j1).symm
      subst hj
      refine ⟨p, _, _, j, _, rfl, rfl, hp3, by omega, by omega, j1, hat, _, _, rfl, rfl, ?_, ?_⟩
      · rw [S_len, S_len]
        exact sz4 (by show l.length + 1 ≤ 4000; omega)
      · refine ⟨l ++ [c], q.take j ++ q.drop (j + 1), _, (by rw [← S_app]; rfl), by rw [List.length_append, hl]; rfl, ?_, ?_, ?_, ?_⟩
        · rw [List.append_assoc]
          exact ((cut_perm hc).append_left l).trans hper
        · rw [upd_same, erase_map]
        · obtain ⟨x, m, sd, gs, h1, h2, h3⟩ := hB3
          exact ⟨x, m, sd, gs, by rw [upd_ne pb.symm]; exact h1, by rw [upd_ne pg.symm]; exact h2, h3⟩
        · intro c2 o h1 h2 h3
          have hne : c2 ≠ p := ne_of_none h3 hp
          rw [upd_ne hne]
          exact hk3 _ _ h1 h2 (hk2 _ _ h1 h2 h3)
    · rintro σ H2 ⟨l, q, v4, rfl, hl, hper, hp2, hB2, hk2⟩
      have hnd := hper.nodup_iff.mpr az_nodup
      exact ⟨_, rfl, k l H2 hl ⟨(List.nodup_append.mp hnd).1, fun c hc => hper.mem_iff.mp (List.mem_append_left _ hc)⟩ hB2 hk2⟩
def spWord : Sp := fun vs H Q _ => ∃ (b g : Addr) (sg : List Nat) (m z : Nat), vs = [.ref b, .str (S sg), .int (m : Int), .int (z : Int)] ∧ BoxB H b g ∧ 1 ≤ sg.length ∧ sg.length ≤ 100 ∧ 1 ≤ m ∧ m ≤ 8 ∧ z ≤ 1000 ∧
  ∀ (l : List Nat) (H' : Hp), 1 ≤ l.length → l.length ≤ m → (∀ c ∈ l, c ∈ sg) → BoxB H' b g → Kp2 b g H H' → Q (.str (S l)) H'
theorem scWord : FnScope ["_law_box_here", "_law_signs", "_law_most", "_law_shift", "_law_word_here", "_law_k"] ["_law_box_here", "_law_signs", "_law_most", "_law_shift"] (defScope sWord) := ⟨rfl, rfl, rfl, by decide +kernel, rfl, by decide +kernel, by decide +kernel⟩
theorem ok_word (T : Fns K mg a d) : FnOk P w K mg base CX0 2 a.aWord d.dWord ["_law_box_here", "_law_signs", "_law_most", "_law_shift"] spWord := by
  have GDraw : FnOk P w K mg base CX0 1 a.aDraw d.dDraw ["_law_box_here", "_law_many"] spDraw := gDraw T
  refine T.FWord.ok scWord (fun vs H Q E h => ?_) (fun cdv A outer s H vs Q E hr h => ?_)
  · obtain ⟨b, g, sg, m, z, rfl, _⟩ := h
    rfl
  · obtain ⟨b, g, sg, m, z, rfl, hB, hs1, hs2, hm1, hm2, hz, k⟩ := h
    refine ⟨_, (pss_cons (ps_set (i := 4) scWord.nd rfl (Or.inl rfl) pe_str)
      (pss_cons (ps_for PassesOwn.never rfl (pi_range1 (by rfl) T.z_range (pa_cons (pe_op op_add pe_int (pe_op op_mod (pe_callTy call_int1 (by rfl) T.z_int (by decide +kernel) (pa_cons (pe_op op_add (pe_call GDraw (hr.mono (by decide)) (by rfl) T.gDraw T.FDraw.kp T.bDraw .nil pass0 (pa_cons (pv 0) (pa_cons (pv 2) pa_nil))) (pv 3)) pa_nil)) (pv 2))) pa_nil)) (pg_name (i := 5) scWord.nd rfl (Or.inl rfl)) (pss_one (ps_set (i := 4) scWord.nd rfl (Or.inl rfl) (pe_op op_add_str (pv 4) (pe_ix ix_str (pv 1) (pe_op op_mod (pe_callTy call_int1 (by rfl) T.z_int (by decide +kernel) (pa_cons (pe_op op_add (pe_op op_add (pe_call GDraw (hr.mono (by decide)) (by rfl) T.gDraw T.FDraw.kp T.bDraw .nil pass0 (pa_cons (pv 0) (pa_cons (pe_callB call_len_str (by rfl) T.z_len (by decide +kernel) (pa_cons (pv 1) pa_nil)) pa_nil))) (pv 5)) pe_int) pa_nil)) (pe_callB call_len_str (by rfl) T.z_len (by decide +kernel) (pa_cons (pv 1) pa_nil))) (fun _ _ => rfl))))))
      (pss_one (ps_ret (pv 4))))), ?_⟩
    have hsl : (S sg).length ≤ sizeLine := sz4 (by rw [S_len]; omega)
    have e0 : PySem.Str.ofString "" = S [] := by decide +kernel
    rw [e0]
    refine ⟨_, rfl, _, rfl, b, g, _, rfl, hB, by omega, fun r H1 hr1 hB1 hk1 => ⟨_, rfl, _, _, rfl, rfl, .inl ⟨_, rfl, _, rfl, _, _, rfl, rfl, by omega, _, _, rfl, rfl, ?_⟩⟩⟩
    have g0 := Int.emod_nonneg ((r : Int) + (z : Int)) (show (m : Int) ≠ 0 by omega)
    have g1 := Int.emod_lt_of_pos ((r : Int) + (z : Int)) (show (0 : Int) < m by omega)
    refine ⟨_, rfl, by omega, by omega, for_range (lo := 0) (n := (1 + ((r : Int) + (z : Int)) % (m : Int)).toNat) (fun i σ H' => ∃ (l : List Nat) (v5 : Option V), σ = [some (.ref b), some (.str (S sg)), some (.int m), some (.int z), some (.str (S l)), v5] ∧ l.length = i ∧ (∀ c ∈ l, c ∈ sg) ∧ BoxB H' b g ∧ Kp2 b g H H')
      ⟨[], none, rfl, rfl, by simp, hB1, hk1⟩ ?_ ?_⟩
    · rintro i σ H2 hi ⟨l, v5, rfl, hl, hsub, hB2, hk2⟩
      refine ⟨_, rfl, _, rfl, _, rfl, _, rfl, _, rfl, hsl, b, g, _, rfl, hB2, by rw [S_len]; omega, fun r2 H3 hr3 hB3 hk3 => ?_⟩
      obtain ⟨c, hc1, hc2⟩ := atI_mod (l := sg) (by omega) ((r2 : Int) + (0 + (i : Int)) + 1)
      refine ⟨_, rfl, _, _, rfl, rfl, _, _, rfl, rfl, .inl ⟨_, rfl, _, rfl, _, rfl, hsl, _, _, rfl, rfl, by rw [S_len]; omega, S sg, _, c, rfl, rfl, hsl, hc1, _, _, rfl, rfl, ?_, ?_⟩⟩
      · rw [S_len]
        exact sz4 (by show l.length + 1 ≤ 4000; omega)
      · refine ⟨l ++ [c], _, (by rw [← S_app]; rfl), by rw [List.length_append, hl]; rfl, ?_, hB3, hk2.trans hk3⟩
        intro x hx
        rcases List.mem_append.mp hx with h | h
        · exact hsub x h
        · rw [List.mem_singleton] at h
          subst h
          exact hc2
    · rintro σ H2 ⟨l, v5, rfl, hl, hsub, hB2, hk2⟩
      exact ⟨_, rfl, k l H2 (by omega) (by omega) hsub hB2 hk2⟩
end
end Vk
set_option Elab.async false
set_option linter.all false
set_option maxRecDepth 100000
set_option maxHeartbeats 4000000
namespace Vk
open PySem PySem.Spec PyProof.Rows L2
/-! a comprehension over a list that stands still -/
theorem lc_lst {β : Type} {K : PySem.W.Frag} {a : Addr} {ys : List β} (f : β → V) {j : Nat} {tt : TT} {te : TE} {vs : List Nat} {σ : L2.St} {H1 : Hp} {D : Addr} {Qd : Hp → Prop} (p : β → Bool) (v : β → V) (hl : ys.length ≤ 4000) (ha : H1 a = some (.lst (ys.map f))) (hD : H1 D = none)
    (hw : ∀ x, wipe ((wipe σ vs).set j (some x)) vs = wipe σ vs)
    (ht : ∀ y ∈ ys, ∀ (H2 : Hp) (Q : Bool → Hp → Prop), (∀ b, b ≠ D → H2 b = H1 b) → Q (p y) H2 → tt ((wipe σ vs).set j (some (f y))) H2 Q)
    (he : ∀ y ∈ ys, p y = true → ∀ (H2 : Hp) (Q : VK), (∀ b, b ≠ D → H2 b = H1 b) → Q (v y) H2 → te ((wipe σ vs).set j (some (f y))) H2 Q)
    (hq : Qd (upd H1 D (.lst ((ys.filter p).map v)))) :
    ∃ W : Nat → Nat → Hp → Prop, (∃ m, W 0 m (upd H1 D (.lst []))) ∧ ∀ i m H, W i m H →
      ((Itl K a).stop i H ∧ Qd H) ∨ ((Itl K a).go i H ∧ ∃ Nx : Hp → Prop, (∀ H', Nx H' → ∃ m', m' < m ∧ W (i + 1) m' H') ∧ ∀ x H', (Itl K a).yld i H x H' → gName j x (wipe σ vs) H' fun σ2 H2 => wipe σ2 vs = wipe σ vs ∧ tt σ2 H2 fun b H3 =>
        if b = true then te σ2 H3 fun y H4 => ∃ acc, H4 D = some (.lst acc) ∧ acc.length < sizeLine ∧ Nx (upd H4 D (.lst (acc ++ [y]))) else Nx H3) := by
  have haD : a ≠ D := fun z => by
    rw [z, hD] at ha
    cases ha
  refine lc_list (K := K) (a := a) (xs := ys.map f) (fun i H => H = upd H1 D (.lst (((ys.take i).filter p).map v))) rfl (fun i H _ e => SqL.of (by rw [e, upd_ne haD]; exact ha)) ?_ ?_
  · rintro i x H' hi hP
    subst hP
    obtain ⟨y, hy, rfl⟩ : ∃ y, ys[i]? = some y ∧ x = f y := by
      rw [List.getElem?_map] at hi
      cases e : ys[i]? with
      | none => rw [e] at hi; cases hi
      | some z => rw [e] at hi; exact ⟨z, rfl, (Option.some.inj hi).symm⟩
    have hm : y ∈ ys := List.mem_of_getElem? hy
    have off : ∀ b, b ≠ D → (upd H1 D (.lst (((ys.take i).filter p).map v))) b = H1 b := fun b hb => upd_ne hb
    have e1 : ys.take (i + 1) = ys.take i ++ [y] := by
      rw [List.take_add_one, hy]
      rfl
    refine ⟨hw _, ht y hm _ _ off ?_⟩
    by_cases hp : p y = true
    · rw [if_pos hp]
      refine he y hm hp _ _ off ⟨_, upd_same, ?_, ?_⟩
      · rw [List.length_map, sizeLine_eq]
        have h1 := List.length_filter_le p (ys.take i)
        rw [List.length_take] at h1
        omega
      · rw [upd_upd, e1, List.filter_append, List.filter_cons_of_pos hp, List.filter_nil, List.map_append]
        rfl
    · rw [if_neg hp, e1, List.filter_append, List.filter_cons_of_neg hp, List.filter_nil, List.append_nil]
  · rintro H rfl
    rw [List.length_map, List.take_length]
    exact hq
end Vk
set_option Elab.async false
set_option linter.all false
set_option maxRecDepth 100000
set_option maxHeartbeats 4000000
namespace Vk
open PySem PySem.Spec PyProof.Rows L2
theorem idx_first {sg : List Nat} {c : Nat} (hc : c ∈ sg) : ∃ i rest, Builtin.Str.occurrences (S sg) (⟨#[c]⟩ : Str) 0 (S sg).length 1 = i :: rest ∧ sg[i]? = some c := by
  rcases StrLaws.occ_head (S sg) (⟨#[c]⟩ : Str) 1 (Nat.le_refl 1) with ⟨h1, _⟩ | ⟨i, r, h1, h2, _⟩
  · have h := PySem.StrLaws.found_one (S sg) c
    rw [h1, S_cps, decide_eq_true hc] at h
    cases h
  · refine ⟨i, r, h1, ?_⟩
    have h3 := PySem.StrLaws.at_take h2
    rw [S_cps] at h3
    have h4 : (sg.drop i).take 1 = [c] := h3
    have h5 : (sg.drop i)[0]? = some c := by
      cases e : sg.drop i with
      | nil => rw [e] at h4; cases h4
      | cons x xs =>
        rw [e] at h4
        have := List.head_eq_of_cons_eq h4
        rw [this]
        rfl
    rw [List.getElem?_drop, Nat.add_zero] at h5
    exact h5
theorem atI_last {l : List Nat} (h : 0 < l.length) : ∃ e, atI (S l).cps.toList (-1) = some e ∧ l[l.length - 1]? = some e := by
  obtain ⟨e, he⟩ : ∃ e, l[l.length - 1]? = some e := ⟨_, List.getElem?_eq_getElem (by omega)⟩
  refine ⟨e, ?_, he⟩
  rw [S_cps]
  unfold atI ixN
  rw [if_neg (by omega), if_pos (by omega)]
  have : ((-1 : Int) + (l.length : Int)).toNat = l.length - 1 := by omega
  rw [this]
  exact he
theorem one_eq {c e : Nat} : decide ((V.str (⟨#[c]⟩ : Str)) = V.str (⟨#[e]⟩ : Str)) = decide (c = e) := by
  have h : ((V.str (⟨#[c]⟩ : Str)) = V.str (⟨#[e]⟩ : Str)) ↔ c = e := ⟨fun h => List.head_eq_of_cons_eq (S_inj.mp (show S [c] = S [e] from V.str.inj h)), fun h => by rw [h]⟩
  rw [Bool.eq_iff_iff, decide_eq_true_iff, decide_eq_true_iff]
  exact h
theorem rep_one {n c : Nat} : repL n [c] = List.replicate n c := by
  unfold repL
  induction n with
  | zero => rfl
  | succ n ih => rw [List.replicate_succ, List.flatten_cons, ih, List.replicate_succ]; rfl
def WordOk (sg : List Nat) (m : Nat) (l : List Nat) : Prop := 1 ≤ l.length ∧ l.length ≤ m ∧ ∀ c ∈ l, c ∈ sg
def anyL : List Nat := (PySem.Str.ofString "any").cps.toList
def ovB (p o : List Nat) : Bool := decide (p = o) || (decide (p = anyL) || decide (o = anyL))
theorem rep_mem {n c : Nat} {l : List Nat} (h : c ∈ repL n l) : c ∈ l := by
  unfold repL at h
  obtain ⟨x, hx, hc⟩ := List.mem_flatten.mp h
  rw [List.eq_of_mem_replicate hx] at hc
  exact hc
theorem eqV_S (a b : List Nat) : eqV (.str (S a)) (.str (S b)) = decide (a = b) := by
  show (S a == S b) = _
  rw [Bool.eq_iff_iff, beq_iff_eq, decide_eq_true_iff]
  exact S_inj
theorem inV_strs (t : List Nat) : ∀ us : List (List Nat), inV (.str (S t)) (us.map fun l => V.str (S l)) = decide (t ∈ us)
  | [] => by simp [inV]
  | u :: us => by
    have ih := inV_strs t us
    unfold inV at ih ⊢
    rw [List.map_cons, List.any_cons, ih, eqV_S, Bool.eq_iff_iff, Bool.or_eq_true_iff, decide_eq_true_iff, decide_eq_true_iff, decide_eq_true_iff, List.mem_cons]
    exact ⟨fun h => h.imp Eq.symm id, fun h => h.imp Eq.symm id⟩
section
variable {P : Program} {w : World} {K : PySem.W.Frag} {mg : Str → Option Value} {base : Heap} {a : Ad} {d : Fd}
def spSucc : Sp := fun vs H Q _ => ∃ (sg l : List Nat) (m : Nat), vs = [.str (S sg), .str (S l), .int (m : Int)] ∧ 1 ≤ sg.length ∧ sg.length ≤ 100 ∧ m ≤ 8 ∧ WordOk sg m l ∧ ∀ t, WordOk sg m t → Fw.Next sg m l t → Q (.str (S t)) H
theorem scSucc : FnScope ["_law_signs", "_law_word_here", "_law_most", "_law_at"] ["_law_signs", "_law_word_here", "_law_most"] (defScope sSucc) := ⟨rfl, rfl, rfl, by decide +kernel, rfl, by decide +kernel, by decide +kernel⟩
theorem ok_succ (T : Fns K mg a d) : FnOk P w K mg base CX0 1 a.aSucc d.dSucc ["_law_signs", "_law_word_here", "_law_most"] spSucc := by
  refine T.FSucc.ok scSucc (fun vs H Q E h => ?_) (fun cdv A outer s H vs Q E hr h => ?_)
  · obtain ⟨sg, l, m, rfl, _⟩ := h
    rfl
  · obtain ⟨sg, l, m, rfl, hs1, hs2, hm, ⟨hw1, hw2, hw3⟩, k⟩ := h
    refine ⟨_, (pss_cons (ps_set (i := 3) scSucc.nd rfl (Or.inl rfl) (pe_op op_sub (pe_callB call_len_str (by rfl) T.z_len (by decide +kernel) (pa_cons (pv 1) pa_nil)) pe_int))
      (pss_cons (ps_while PassesOwn.never (PW.pt (pw_and (pt_cmpR op_ge (pv 3) pe_int (nomark _)) (pw_and1 (pt_cmpR op_eq (pe_ix ix_str (pv 1) (pv 3) (fun _ _ => rfl)) (pe_ix ix_str (pv 0) (pe_un un_neg pe_int) (fun _ _ => rfl)) (nomark _))))) (pss_one (ps_set (i := 3) scSucc.nd rfl (Or.inl rfl) (pe_op op_sub (pv 3) pe_int))))
      (pss_cons (ps_if (pt_cmpR op_lt (pv 3) pe_int (nomark _)) (pss_one (ps_ret (pe_op op_mulT (pe_ix ix_str (pv 0) pe_int (fun _ _ => rfl)) (pe_op op_add (pe_op op_mod (pe_callTy call_int1 (by rfl) T.z_int (by decide +kernel) (pa_cons (pe_callB call_len_str (by rfl) T.z_len (by decide +kernel) (pa_cons (pv 1) pa_nil)) pa_nil)) (pv 2)) pe_int)))) pss_nil)
      (pss_one (ps_ret (pe_op op_add_str (pe_op op_add_str (pe_slice sl_str (pv 1) po_none (po_some (pv 3))) (pe_ix ix_str (pv 0) (pe_op op_add (pe_m1 PySem.F.slot_str_index PySem.F.type_str_index mt_sindex (pv 0) (pe_ix ix_str (pv 1) (pv 3) (fun _ _ => rfl))) pe_int) (fun _ _ => rfl))) (pe_op op_mulT (pe_ix ix_str (pv 0) pe_int (fun _ _ => rfl)) (pe_op op_sub (pe_op op_sub (pe_callB call_len_str (by rfl) T.z_len (by decide +kernel) (pa_cons (pv 1) pa_nil)) pe_int) (pv 3))))))))), ?_⟩
    have hsl : (S sg).length ≤ sizeLine := sz4 (by rw [S_len]; omega)
    have hll : (S l).length ≤ sizeLine := sz4 (by rw [S_len]; omega)
    obtain ⟨e, he1, he2⟩ := atI_last (l := sg) (by omega)
    obtain ⟨f0, hf0⟩ : ∃ f0, sg[0]? = some f0 := ⟨_, List.getElem?_eq_getElem (by omega)⟩
    have hat0 : atI (S sg).cps.toList 0 = some f0 := by rw [S_cps]; exact atI_nat (j := 0) hf0
    have hf0m := List.mem_of_getElem? hf0
    refine ⟨_, rfl, _, rfl, hll, _, _, rfl, rfl, fun m0 σ H1 => H1 = H ∧ ∃ t : Int, σ = [some (.str (S sg)), some (.str (S l)), some (.int m), some (.int t)] ∧ t + 1 = (m0 : Int) ∧ (m0 : Int) ≤ l.length ∧ l.drop m0 = List.replicate (l.length - m0) e, ⟨l.length, rfl, _, rfl, ?_, Int.le_refl _, by simp⟩, ?_⟩
    · rw [S_len]
      show ((l.length : Int) - 1) + 1 = _
      omega
    rintro m0 σ H1 ⟨rfl, t, rfl, ht1, ht2, hdr⟩
    refine ⟨_, rfl, _, _, rfl, rfl, _, rfl, ite2 (fun h => ?_) (fun h => iteF ?_)⟩
    · have h0 : 0 ≤ t := of_decide_eq_true h
      obtain ⟨j, rfl⟩ : ∃ j : Nat, t = (j : Int) := ⟨t.toNat, by omega⟩
      obtain ⟨c, hc⟩ : ∃ c, l[j]? = some c := ⟨_, List.getElem?_eq_getElem (by omega)⟩
      have hcm := List.mem_of_getElem? hc
      have hatc : atI (S l).cps.toList (j : Int) = some c := by rw [S_cps]; exact atI_nat hc
      refine ⟨_, rfl, _, rfl, S l, _, c, rfl, rfl, hll, hatc, _, rfl, _, rfl, S sg, _, e, rfl, rfl, hsl, he1, rfl, ?_⟩
      rw [one_eq]
      refine ⟨_, rfl, ite2 (fun h2 => ?_) (fun h2 => ?_)⟩
      · refine ⟨fun σ' H' => H' = H1 ∧ σ' = [some (.str (S sg)), some (.str (S l)), some (.int m), some (.int ((j : Int) - 1))], ?_, ?_⟩
        · rintro σ' H' ⟨rfl, rfl⟩
          refine ⟨j, by omega, rfl, _, rfl, by omega, by omega, ?_⟩
          have hm0 : m0 = j + 1 := by omega
          have hjl : j < l.length := by omega
          rw [hm0] at hdr
          have hcj : l[j] = c := by
            have := (List.getElem?_eq_some_iff.mp hc).2
            exact this
          rw [List.drop_eq_getElem_cons hjl, hdr, hcj, of_decide_eq_true h2, show l.length - j = (l.length - (j + 1)) + 1 by omega, List.replicate_succ]
        · exact ⟨_, rfl, _, _, rfl, rfl, rfl, rfl⟩
      · refine ⟨_, rfl, _, _, rfl, rfl, _, rfl, ite2 (fun h3 => absurd (of_decide_eq_true h3) (by omega)) (fun h3 => ?_)⟩
        obtain ⟨i, rest, ho, hi⟩ := idx_first (hw3 c hcm)
        have hil : i < sg.length := (List.getElem?_eq_some_iff.mp hi).1
        have hne : i ≠ sg.length - 1 := fun z => by
          rw [z, he2] at hi
          exact h2 (decide_eq_true (Option.some.inj hi).symm)
        obtain ⟨x, hx⟩ : ∃ x, sg[i + 1]? = some x := ⟨_, List.getElem?_eq_getElem (by omega)⟩
        have hatx : atI (S sg).cps.toList ((i : Int) + 1) = some x := by rw [S_cps]; exact atI_nat hx
        refine ⟨_, rfl, _, rfl, _, rfl, S l, rfl, hll, ?_⟩
        refine ⟨_, rfl, _, rfl, ⟨_, rfl⟩, _, rfl, _, rfl, S l, _, c, rfl, rfl, hll, hatc, S sg, ⟨#[c]⟩, i, rest, rfl, rfl, ho, _, _, rfl, rfl, S sg, _, x, rfl, rfl, hsl, hatx, _, _, rfl, rfl, ?_⟩
        have h1 := S_to l j
        rw [h1]
        refine ⟨?_, _, rfl, S sg, 0, f0, rfl, rfl, hsl, hat0, _, rfl, _, rfl, hll, _, _, rfl, rfl, _, rfl, _, _, rfl, rfl, [f0], l.length - 1 - j, rfl, ?_, ?_, by omega, _, _, rfl, rfl, ?_, ?_⟩
        · rw [S_len]
          show (l.take j).length + 1 ≤ sizeLine
          rw [List.length_take]
          exact sz4 (by omega)
        · rw [S_len]
          show V.int _ = V.int _
          congr 1
          show ((l.length : Int) - 1) - (j : Int) = _
          omega
        · show 1 * _ ≤ 4000
          omega
        · rw [alen, S_len, S_len, repL_len]
          show (l.take j).length + 1 + _ * 1 ≤ sizeLine
          rw [List.length_take]
          exact sz4 (by omega)
        · have eq : S (l.take j) ++ (⟨#[x]⟩ : Str) ++ S (repL (l.length - 1 - j) [f0]) = S (l.take j ++ [x] ++ repL (l.length - 1 - j) [f0]) := by
            rw [← S_app, ← S_app]
            rfl
          have q := k (l.take j ++ [x] ++ repL (l.length - 1 - j) [f0]) ⟨?_, ?_, ?_⟩ ?_
          · rw [← eq] at q
            exact q
          · simp only [List.length_append, List.length_singleton]
            omega
          · rw [List.length_append, List.length_append, repL_len, List.length_take]
            show min j l.length + 1 + (l.length - 1 - j) * 1 ≤ m
            omega
          · intro y hy
            rcases List.mem_append.mp hy with hy | hy
            · rcases List.mem_append.mp hy with hy | hy
              · exact hw3 y (List.mem_of_mem_take hy)
              · rw [List.mem_singleton] at hy
                subst hy
                exact List.mem_of_getElem? hx
            · have := rep_mem hy
              rw [List.mem_singleton] at this
              subst this
              exact hf0m
          · have hm0 : m0 = j + 1 := by omega
            rw [hm0] at hdr
            refine .inl ⟨l.take j, i, l.length - 1 - j, c, x, e, f0, ?_, by rw [rep_one], hi, hx, hf0, he2⟩
            have hjl : j < l.length := by omega
            have hcj : l[j] = c := (List.getElem?_eq_some_iff.mp hc).2
            have := List.drop_eq_getElem_cons hjl
            rw [hdr, hcj, show l.length - (j + 1) = l.length - 1 - j by omega] at this
            rw [List.append_assoc]
            show l = l.take j ++ c :: List.replicate (l.length - 1 - j) e
            rw [← this, List.take_append_drop]
    · have h0 : t < 0 := by
        have : ¬ 0 ≤ t := fun z => h (decide_eq_true z)
        omega
      refine ⟨_, rfl, _, _, rfl, rfl, _, rfl, ite2 (fun h3 => ?_) (fun h3 => absurd (decide_eq_true h0) h3)⟩
      have g0 := Int.emod_nonneg (l.length : Int) (show (m : Int) ≠ 0 by omega)
      have g1 := Int.emod_lt_of_pos (l.length : Int) (show (0 : Int) < m by omega)
      obtain ⟨n, hn⟩ : ∃ n : Nat, (l.length : Int) % (m : Int) = (n : Int) := ⟨((l.length : Int) % (m : Int)).toNat, by omega⟩
      refine ⟨_, rfl, S sg, 0, f0, rfl, rfl, hsl, hat0, _, rfl, _, rfl, hll, .inl ⟨_, rfl, _, rfl, _, _, rfl, rfl, by omega, _, _, rfl, rfl, [f0], n + 1, rfl, ?_, ?_, by omega, ?_⟩⟩
      · rw [S_len]
        show V.int _ = V.int _
        congr 1
        show ((l.length : Int) % (m : Int)) + 1 = _
        omega
      · show 1 * (n + 1) ≤ 4000
        omega
      · refine k _ ⟨?_, ?_, ?_⟩ ?_
        · rw [repL_len]
          show 1 ≤ (n + 1) * 1
          omega
        · rw [repL_len]
          show (n + 1) * 1 ≤ m
          omega
        · intro y hy
          have := rep_mem hy
          rw [List.mem_singleton] at this
          subst this
          exact hf0m
        · have hm0 : m0 = 0 := by omega
          rw [hm0] at hdr
          refine .inr ⟨e, f0, by simpa using hdr, ?_, hf0, he2⟩
          rw [rep_one, show l.length % m + 1 = n + 1 by omega]
def spFresh (K : PySem.W.Frag) : Sp := fun vs H Q _ => ∃ (sg l : List Nat) (m : Nat) (u : Addr) (us : List (List Nat)), vs = [.str (S sg), .str (S l), .int (m : Int), .ref u] ∧ 1 ≤ sg.length ∧ sg.length ≤ 100 ∧ m ≤ 8 ∧ WordOk sg m l ∧ SqL K H u (us.map fun t => V.str (S t)) ∧ us.length ≤ 100 ∧
  ∀ t, WordOk sg m t → (sg.Nodup → us.length < Fw.top sg.length m → t ∉ us) → Q (.str (S t)) H
theorem scFresh : FnScope ["_law_signs", "_law_word_here", "_law_most", "_law_used", "_law_turn"] ["_law_signs", "_law_word_here", "_law_most", "_law_used"] (defScope sFresh) := ⟨rfl, rfl, rfl, by decide +kernel, rfl, by decide +kernel, by decide +kernel⟩
theorem flat_strs (us : List (List Nat)) : (us.map fun t => V.str (S t)).all flatV = true := by
  rw [List.all_map]
  simp [flatV]
theorem ok_fresh (T : Fns K mg a d) : FnOk P w K mg base CX0 2 a.aFresh d.dFresh ["_law_signs", "_law_word_here", "_law_most", "_law_used"] (spFresh K) := by
  have GSucc : FnOk P w K mg base CX0 1 a.aSucc d.dSucc ["_law_signs", "_law_word_here", "_law_most"] spSucc := ok_succ T
  refine T.FFresh.ok scFresh (fun vs H Q E h => ?_) (fun cdv A outer s H vs Q E hr h => ?_)
  · obtain ⟨sg, l, m, u, us, rfl, _⟩ := h
    rfl
  · obtain ⟨sg, l, m, u, us, rfl, hs1, hs2, hm, hw, hu, hul, k⟩ := h
    refine ⟨_, (pss_cons (ps_for PassesOwn.never rfl (pi_range1 (by rfl) T.z_range (pa_cons (pe_callB call_len_seq (by rfl) T.z_len (by decide +kernel) (pa_cons (pv 3) pa_nil)) pa_nil)) (pg_name (i := 4) scFresh.nd rfl (Or.inl rfl)) (pss_one (ps_if (pt_cmpR op_in_seq (pv 1) (pv 3) rfl) (pss_one (ps_set (i := 1) scFresh.nd rfl (Or.inl rfl) (pe_call GSucc (hr.mono (by decide)) (by rfl) T.gSucc T.FSucc.kp T.bSucc .nil pass0 (pa_cons (pv 0) (pa_cons (pv 1) (pa_cons (pv 2) pa_nil)))))) pss_nil)))
      (pss_one (ps_ret (pv 1)))), ?_⟩
    refine ⟨_, rfl, u, _, rfl, .inl hu, _, rfl, by rw [List.length_map]; omega, by rw [List.length_map]; omega, for_range (lo := 0) (n := (us.map fun t => V.str (S t)).length) (fun i σ H' => H' = H ∧ ∃ (t : List Nat) (v4 : Option V), σ = [some (.str (S sg)), some (.str (S t)), some (.int m), some (.ref u), v4] ∧ WordOk sg m t ∧ (sg.Nodup → us.length < Fw.top sg.length m → Fw.At sg m us (Fw.val sg l - 1) i t))
      ⟨rfl, l, none, rfl, hw, fun _ _ => Fw.At.start hw.1 hw.2.1 hw.2.2⟩ ?_ ?_⟩
    · rintro i σ H1 hi ⟨rfl, t, v4, rfl, ht, hat⟩
      rw [List.length_map] at hi
      refine ⟨_, rfl, _, rfl, u, _, rfl, .inl hu, rfl, flat_strs us, _, rfl, ?_⟩
      rw [inV_strs]
      refine ite2 (fun h => ?_) (fun h => ⟨rfl, t, _, rfl, ht, fun _ _ => .inl fun z => h (decide_eq_true z)⟩)
      exact ⟨_, rfl, _, rfl, _, rfl, sg, t, m, rfl, hs1, hs2, hm, ht, fun t2 ht2 hx => ⟨rfl, t2, _, rfl, ht2, fun a1 a2 => Fw.At.move a1 (hat a1 a2) (of_decide_eq_true h) ht.1 ht.2.1 ht2.2.1 ht2.2.2 hx (by omega)⟩⟩
    · rintro σ H1 ⟨rfl, t, v4, rfl, ht, hat⟩
      rw [List.length_map] at hat
      exact ⟨_, rfl, k t ht fun a1 a2 => Fw.At.stop (hat a1 a2) a2⟩
def spOverL : Sp := fun vs H Q _ => ∃ p o : List Nat, vs = [.str (S p), .str (S o)] ∧ Q (.bl (ovB p o)) H
theorem any_S : PySem.Str.ofString "any" = S anyL := S_of _
theorem scOverL : FnScope ["_law_place", "_law_other"] ["_law_place", "_law_other"] (defScope sOverL) := ⟨rfl, rfl, rfl, by decide +kernel, rfl, by decide +kernel, by decide +kernel⟩
theorem ok_overL (T : Fns K mg a d) : FnOk P w K mg base CX0 1 a.aOverL d.dOverL ["_law_place", "_law_other"] spOverL := by
  refine T.FOverL.ok scOverL (fun vs H Q E h => ?_) (fun cdv A outer s H vs Q E hr h => ?_)
  · obtain ⟨p, o, rfl, _⟩ := h
    rfl
  · obtain ⟨p, o, rfl, k⟩ := h
    refine ⟨_, (pss_one (ps_ret (pe_or (pe_cmpR op_eq (pv 0) (pv 1) (nomark _)) (pe_or (pe_cmpR op_eq (pv 0) pe_str (nomark _)) (pe_one (pe_cmpR op_eq (pv 1) pe_str (nomark _))))))), ?_⟩
    unfold ovB at k
    refine ⟨_, rfl, _, rfl, rfl, ?_⟩
    rw [S_eq_iff]
    refine ⟨_, rfl, ite2 (fun h1 => by rw [h1, Bool.true_or] at k; exact k) (fun h1 => ?_)⟩
    rw [Bool.eq_false_iff.mpr h1, Bool.false_or] at k
    refine ⟨_, rfl, rfl, ?_⟩
    rw [any_S, S_eq_iff]
    refine ⟨_, rfl, ite2 (fun h2 => by rw [h2, Bool.true_or] at k; exact k) (fun h2 => ?_)⟩
    rw [Bool.eq_false_iff.mpr h2, Bool.false_or] at k
    refine ⟨_, rfl, rfl, ?_⟩
    rw [S_eq_iff]
    exact k
def spKin : Sp := fun vs H Q _ => ∃ (b g : Addr) (sg : List Nat) (u : Addr) (us : List (List Nat)) (m : Nat), vs = [.ref b, .str (S sg), .ref u, .int (m : Int)] ∧ BoxB H b g ∧ 1 ≤ sg.length ∧ sg.length ≤ 100 ∧ m ≤ 8 ∧ H u = some (.lst (us.map fun t => V.str (S t))) ∧ (u ≠ b ∧ u ≠ g) ∧ 1 ≤ us.length ∧ us.length ≤ 100 ∧ (∀ t ∈ us, WordOk sg m t) ∧
  ∀ t H', WordOk sg m t → BoxB H' b g → Kp2 b g H H' → Q (.str (S t)) H'
theorem scKin : FnScope ["_law_box_here", "_law_signs", "_law_words", "_law_most", "_law_word_here", "_law_way"] ["_law_box_here", "_law_signs", "_law_words", "_law_most"] (defScope sKin) := ⟨rfl, rfl, rfl, by decide +kernel, rfl, by decide +kernel, by decide +kernel⟩
theorem ok_kin (T : Fns K mg a d) : FnOk P w K mg base CX0 2 a.aKin d.dKin ["_law_box_here", "_law_signs", "_law_words", "_law_most"] spKin := by
  have GDraw : FnOk P w K mg base CX0 1 a.aDraw d.dDraw ["_law_box_here", "_law_many"] spDraw := gDraw T
  refine T.FKin.ok scKin (fun vs H Q E h => ?_) (fun cdv A outer s H vs Q E hr h => ?_)
  · obtain ⟨b, g, sg, u, us, m, rfl, _⟩ := h
    rfl
  · obtain ⟨b, g, sg, u, us, m, rfl, hB, hs1, hs2, hm, hu, ⟨hub, hug⟩, hu1, hu2, hus, k⟩ := h
    refine ⟨_, (pss_cons (ps_set (i := 4) scKin.nd rfl (Or.inl rfl) (pe_ix ix_list (pv 2) (pe_call GDraw (hr.mono (by decide)) (by rfl) T.gDraw T.FDraw.kp T.bDraw .nil pass0 (pa_cons (pv 0) (pa_cons (pe_callB call_len_seq (by rfl) T.z_len (by decide +kernel) (pa_cons (pv 2) pa_nil)) pa_nil))) (fun _ _ => rfl)))
      (pss_cons (ps_set (i := 5) scKin.nd rfl (Or.inl rfl) (pe_call GDraw (hr.mono (by decide)) (by rfl) T.gDraw T.FDraw.kp T.bDraw .nil pass0 (pa_cons (pv 0) (pa_cons pe_int pa_nil))))
      (pss_cons (ps_if (PW.pt (pw_and (pt_cmpR op_eq (pv 5) pe_int (nomark _)) (pw_and1 (pt_cmpR op_lt (pe_callB call_len_str (by rfl) T.z_len (by decide +kernel) (pa_cons (pv 4) pa_nil)) (pv 3) (nomark _))))) (pss_one (ps_ret (pe_op op_add_str (pv 4) (pe_ix ix_str (pv 1) (pe_call GDraw (hr.mono (by decide)) (by rfl) T.gDraw T.FDraw.kp T.bDraw .nil pass0 (pa_cons (pv 0) (pa_cons (pe_callB call_len_str (by rfl) T.z_len (by decide +kernel) (pa_cons (pv 1) pa_nil)) pa_nil))) (fun _ _ => rfl))))) pss_nil)
      (pss_cons (ps_if (PW.pt (pw_and (pt_cmpR op_eq (pv 5) pe_int (nomark _)) (pw_and1 (pt_cmpR op_gt (pe_callB call_len_str (by rfl) T.z_len (by decide +kernel) (pa_cons (pv 4) pa_nil)) pe_int (nomark _))))) (pss_one (ps_ret (pe_slice sl_str (pv 4) po_none (po_some (pe_un un_neg pe_int))))) pss_nil)
      (pss_one (ps_ret (pv 4))))))), ?_⟩
    have hsl : (S sg).length ≤ sizeLine := sz4 (by rw [S_len]; omega)
    refine ⟨_, rfl, _, rfl, _, rfl, u, _, rfl, .inl (SqL.of hu), b, g, _, rfl, hB, by rw [List.length_map]; omega, fun r H1 hr1 hB1 hk1 => ?_⟩
    rw [List.length_map] at hr1
    obtain ⟨t, ht⟩ : ∃ t, us[r]? = some t := ⟨_, List.getElem?_eq_getElem (by omega)⟩
    have htm := hus t (List.mem_of_getElem? ht)
    obtain ⟨w1, w2, w3⟩ := id htm
    have htl : (S t).length ≤ sizeLine := sz4 (by rw [S_len]; omega)
    have hat : (us.map fun t => V.str (S t))[r]? = some (V.str (S t)) := by
      rw [List.getElem?_map, ht]
      rfl
    refine ⟨u, _, _, _, rfl, rfl, SqL.of (hk1 _ _ hub hug hu), atI_nat hat, ?_⟩
    refine ⟨_, rfl, b, g, _, rfl, hB1, by decide, fun way H2 hw2 hB2 hk2 => ?_⟩
    have hk := hk1.trans hk2
    have word : ∀ {c : Nat}, c ∈ sg → t.length < m → WordOk sg m (t ++ [c]) := fun {c} hc hlt => ⟨by rw [List.length_append]; omega, by rw [List.length_append]; show t.length + 1 ≤ m; omega, fun x hx => by
      rcases List.mem_append.mp hx with h | h
      · exact w3 x h
      · rw [List.mem_singleton] at h
        subst h
        exact hc⟩
    have hcut : 1 < t.length → WordOk sg m (t.take (t.length - 1)) := fun h => ⟨by rw [List.length_take]; omega, by rw [List.length_take]; omega, fun x hx => w3 x (List.mem_of_mem_take hx)⟩
    have ecut : 1 < t.length → cutS (S t) none (some (-1)) = S (t.take (t.length - 1)) := fun h => by
      rw [S_cut, HT.sIx_none]
      have e : HT.sIx t.length t.length (some (-1)) = t.length - 1 := by
        show (if (-1 : Int) < 0 then ((-1 : Int) + (t.length : Int)).toNat else min (-1 : Int).toNat t.length) = _
        rw [if_pos (by decide)]
        omega
      rw [e, List.drop_zero, Nat.sub_zero]
    refine ⟨_, rfl, rfl, _, rfl, ite2 (fun h1 => ?_) (fun h1 => ?_)⟩
    · refine ⟨_, rfl, _, rfl, htl, _, rfl, _, _, rfl, rfl, _, rfl, ite2 (fun h2 => ?_) (fun h2 => ?_)⟩
      · have hlt := of_decide_eq_true h2
        rw [S_len] at hlt
        refine ⟨_, rfl, _, rfl, _, rfl, _, rfl, _, rfl, hsl, b, g, _, rfl, hB2, by rw [S_len]; omega, fun r3 H3 hr3 hB3 hk3 => ?_⟩
        rw [S_len] at hr3
        obtain ⟨c, hc⟩ : ∃ c, sg[r3]? = some c := ⟨_, List.getElem?_eq_getElem (by omega)⟩
        refine ⟨S sg, _, c, rfl, rfl, hsl, by rw [S_cps]; exact atI_nat hc, _, _, rfl, rfl, ?_, ?_⟩
        · rw [S_len]
          exact sz4 (by show t.length + 1 ≤ 4000; omega)
        · have q := k _ H3 (word (List.mem_of_getElem? hc) (by omega)) hB3 (hk.trans hk3)
          rw [← S_app] at q
          exact q
      · refine ⟨_, rfl, rfl, _, rfl, ite2 (fun h3 => ⟨_, rfl, _, rfl, htl, _, _, rfl, rfl, _, rfl, ite2 (fun h4 => ?_) (fun h4 => ⟨_, rfl, k t H2 htm hB2 hk⟩)⟩) (fun h3 => iteF ⟨_, rfl, k t H2 htm hB2 hk⟩)⟩
        have hlt := of_decide_eq_true h4
        rw [S_len] at hlt
        have hlt2 : 1 < t.length := by omega
        refine ⟨_, rfl, _, rfl, _, rfl, S t, rfl, htl, ?_⟩
        have q := k _ H2 (hcut hlt2) hB2 hk
        rw [← ecut hlt2] at q
        exact q
    · refine iteF ?_
      refine ⟨_, rfl, rfl, _, rfl, ite2 (fun h3 => ⟨_, rfl, _, rfl, htl, _, _, rfl, rfl, _, rfl, ite2 (fun h4 => ?_) (fun h4 => ⟨_, rfl, k t H2 htm hB2 hk⟩)⟩) (fun h3 => iteF ⟨_, rfl, k t H2 htm hB2 hk⟩)⟩
      have hlt := of_decide_eq_true h4
      rw [S_len] at hlt
      have hlt2 : 1 < t.length := by omega
      refine ⟨_, rfl, _, rfl, _, rfl, S t, rfl, htl, ?_⟩
      have q := k _ H2 (hcut hlt2) hB2 hk
      rw [← ecut hlt2] at q
      exact q
end
end Vk
set_option Elab.async false
set_option linter.all false
set_option maxRecDepth 100000
set_option maxHeartbeats 8000000
namespace Vk
open PySem PySem.Spec PyProof.Rows L2
/-- an entry: four texts -/
structure Row where
  n : List Nat
  l : List Nat
  s : List Nat
  p : List Nat
def confB (r e : Row) : Bool := ovB r.p e.p && (decide (r.l = e.l) || decide (r.s = e.s))
def Lt (z : Str) : List Nat := z.cps.toList
theorem Lt_S (z : Str) : S (Lt z) = z := (S_of z).symm
def kindsL : List (List Nat) := [Lt "any", Lt "opening", Lt "inner"]
/-- a row by itself -/
def RowW (sg : List Nat) (m : Nat) (r : Row) : Prop := WordOk azL 8 r.n ∧ WordOk sg m r.l ∧ WordOk sg m r.s ∧ r.p ∈ kindsL
/-- two rows that may stand in one book -/
def Apart (r e : Row) : Prop := r.n ≠ e.n ∧ confB r e = false
def Row.vs (r : Row) : List V := [.str (S r.n), .str (S r.l), .str (S r.s), .str (S r.p)]
def Tx (t : List Nat) : Prop := t.length ≤ 100 ∧ ∀ c ∈ t, c < 0x110000
def Row.ok (r : Row) : Prop := Tx r.n ∧ Tx r.l ∧ Tx r.s ∧ Tx r.p
/-- a list of entries at u -/
def RowsAt (H : Hp) (u : Addr) (ps : List (Addr × Row)) : Prop := H u = some (.lst (ps.map fun q => V.ref q.1)) ∧ ∀ q ∈ ps, H q.1 = some (.tup q.2.vs) ∧ q.2.ok
theorem RowsAt.same {H H' : Hp} {u : Addr} {ps : List (Addr × Row)} (h : RowsAt H u ps) (s : Same H H') : RowsAt H' u ps := ⟨s _ _ h.1, fun q hq => ⟨s _ _ (h.2 q hq).1, (h.2 q hq).2⟩⟩
theorem tup_box {H : Hp} {b g x : Addr} {xs : List V} (hB : BoxB H b g) (h : H x = some (.tup xs)) : x ≠ b ∧ x ≠ g := by
  obtain ⟨_, _, _, _, h1, h2, _⟩ := hB
  exact ⟨fun z => (by rw [z, h1] at h; cases h), fun z => (by rw [z, h2] at h; cases h)⟩
theorem RowsAt.kp {H H' : Hp} {b g u : Addr} {ps : List (Addr × Row)} (h : RowsAt H u ps) (hB : BoxB H b g) (hu : u ≠ b ∧ u ≠ g) (k : Kp2 b g H H') : RowsAt H' u ps :=
  ⟨k _ _ hu.1 hu.2 h.1, fun q hq => by
    obtain ⟨h1, h2⟩ := h.2 q hq
    obtain ⟨n1, n2⟩ := tup_box hB h1
    exact ⟨k _ _ n1 n2 h1, h2⟩⟩
def Row.py (r : Row) : PyData := .tuple [.str (S r.n), .str (S r.l), .str (S r.s), .str (S r.p)]
theorem tx_ok {t : List Nat} (h : Tx t) : PyData.strOk (S t) = true := by
  show t.toArray.all (fun c => decide (c < 0x110000)) = true
  simp
  exact h.2
theorem dp_row {K : PySem.W.Frag} {H : Hp} {x : Addr} {r : Row} (h : H x = some (.tup r.vs)) : Dp K H (.ref x) r.py := .tup (SqT.of h) (.cons (.str _) (.cons (.str _) (.cons (.str _) (.cons (.str _) .nil))))
theorem dp_rows {K : PySem.W.Frag} {H : Hp} : ∀ ps : List (Addr × Row), (∀ q ∈ ps, H q.1 = some (.tup q.2.vs)) → DpAll K H (ps.map fun q => V.ref q.1) (ps.map fun q => q.2.py)
  | [], _ => .nil
  | q :: r, h => .cons (dp_row (h q List.mem_cons_self)) (dp_rows r fun x hx => h x (List.mem_cons_of_mem _ hx))
theorem can_row {r : Row} (h : r.ok) : PyData.canLay0 r.py = true := by
  obtain ⟨h1, h2, h3, h4⟩ := h
  simp [Row.py, PyData.canLay0, PyData.canLayAll0, tx_ok h1, tx_ok h2, tx_ok h3, tx_ok h4]
theorem dep_row (r : Row) : PyData.depth r.py = 1 := by
  simp [Row.py, PyData.depth, PyData.depthAll]
theorem can_rows : ∀ ps : List (Addr × Row), (∀ q ∈ ps, q.2.ok) → PyData.canLayAll0 (ps.map fun q => q.2.py) = true
  | [], _ => by simp [PyData.canLayAll0]
  | q :: r, h => by
    have h1 := can_row (h q List.mem_cons_self)
    have h2 := can_rows r fun x hx => h x (List.mem_cons_of_mem _ hx)
    rw [List.map_cons]
    unfold PyData.canLayAll0
    rw [h1, h2]
    rfl
theorem dep_rows : ∀ ps : List (Addr × Row), PyData.depthAll (ps.map fun q => q.2.py) ≤ 1
  | [] => by simp [PyData.depthAll]
  | q :: r => by
    rw [List.map_cons]
    unfold PyData.depthAll
    rw [dep_row]
    exact Nat.max_le.mpr ⟨Nat.le_refl _, dep_rows r⟩
theorem shaped_rows {ps : List (Addr × Row)} (h : ∀ q ∈ ps, q.2.ok) : SeqAt.shaped (.list (ps.map fun q => q.2.py)) = true := by
  have h1 := dep_rows ps
  unfold SeqAt.shaped
  rw [Bool.and_eq_true_iff]
  refine ⟨?_, decide_eq_true ?_⟩
  · unfold PyData.canLay0
    exact can_rows ps h
  · unfold PyData.depth
    omega
theorem eqv_nil : ∀ ds : List PyData, PyData.eqv (.list ds) (.list []) = ds.isEmpty
  | [] => by simp [PyData.eqv, PyData.eqvAll]
  | d :: r => by simp [PyData.eqv, PyData.eqvAll]
theorem shaped_nil : SeqAt.shaped (.list []) = true := by
  simp [SeqAt.shaped, PyData.canLay0, PyData.canLayAll0, PyData.depth, PyData.depthAll]
theorem az_ok : ∀ c ∈ azL, c < 0x110000 := by decide +kernel
def WideOk (sg : List Nat) : Prop := ∀ c ∈ sg, c < 0x110000
theorem WordOk.tx {sg t : List Nat} {m : Nat} (hs : WideOk sg) (h : WordOk sg m t) (hm : m ≤ 8) : Tx t := ⟨by have := h.2.1; omega, fun c hc => hs c (h.2.2 c hc)⟩
theorem lit_S (z : Str) : z = S z.cps.toList := S_of z
theorem _root_.L2.PS.imp {X : Cx} {st : Stmt} {t t' : TS} (h : PS X st t) (k : ∀ D σ H, t' D σ H → t D σ H) : PS X st t' := ⟨fun pins s σ H D I q => h.run pins s σ H D I (k D σ H q)⟩
theorem col_map {α β : Type} (ps : List α) (f : α → β) : (ps.filter fun _ => true).map f = ps.map f := by
  rw [List.filter_eq_self.mpr (fun _ _ => rfl)]
def stR (b : Addr) (sg : List Nat) (n m : Nat) (u : Addr) (v6 v7 v8 v9 v10 v11 v12 : Option V) : L2.St := [some (.ref b), some (.str (S sg)), some (.int n), some (.int m), some (.str (S azL)), some (.ref u), v6, v7, v8, v9, v10, v11, v12]
def tKin11 : TS := fun D σ H => ∃ (b g : Addr) (sg : List Nat) (n m : Nat) (u : Addr) (ps : List (Addr × Row)) (t : List Nat) (v6 v7 v8 v9 v10 v12 : Option V), σ = stR b sg n m u v6 v7 v8 v9 v10 (some (.str (S t))) v12 ∧ BoxB H b g ∧ 1 ≤ sg.length ∧ sg.length ≤ 100 ∧ m ≤ 8 ∧ RowsAt H u ps ∧ (u ≠ b ∧ u ≠ g) ∧ ps.length ≤ 100 ∧ (∀ q ∈ ps, WordOk sg m q.2.l) ∧ WordOk sg m t ∧
  ∀ t2 H', WordOk sg m t2 → BoxB H' b g → Kp2 b g H H' → D.nx (stR b sg n m u v6 v7 v8 v9 v10 (some (.str (S t2))) v12) H'
def tKin12 : TS := fun D σ H => ∃ (b g : Addr) (sg : List Nat) (n m : Nat) (u : Addr) (ps : List (Addr × Row)) (t : List Nat) (v6 v7 v8 v9 v10 v11 : Option V), σ = stR b sg n m u v6 v7 v8 v9 v10 v11 (some (.str (S t))) ∧ BoxB H b g ∧ 1 ≤ sg.length ∧ sg.length ≤ 100 ∧ m ≤ 8 ∧ RowsAt H u ps ∧ (u ≠ b ∧ u ≠ g) ∧ ps.length ≤ 100 ∧ (∀ q ∈ ps, WordOk sg m q.2.s) ∧ WordOk sg m t ∧
  ∀ t2 H', WordOk sg m t2 → BoxB H' b g → Kp2 b g H H' → D.nx (stR b sg n m u v6 v7 v8 v9 v10 v11 (some (.str (S t2)))) H'
section
variable {P : Program} {w : World} {K : PySem.W.Frag} {mg : Str → Option Value} {base : Heap} {a : Ad} {d : Fd}
def spRows : Sp := fun vs H Q _ => ∃ (b g : Addr) (sg : List Nat) (n m : Nat), vs = [.ref b, .str (S sg), .int (n : Int), .int (m : Int)] ∧ BoxB H b g ∧ 1 ≤ sg.length ∧ sg.length ≤ 100 ∧ WideOk sg ∧ n ≤ 20 ∧ 1 ≤ m ∧ m ≤ 8 ∧
  ∀ (u : Addr) (ps : List (Addr × Row)) (H' : Hp), H u = none → RowsAt H' u ps → ps.length = n → (∀ q ∈ ps, RowW sg m q.2) → (sg.Nodup → n ≤ Fw.top sg.length m → (ps.map (·.2)).Pairwise Apart) → BoxB H' b g → Kp2 b g H H' → Q (.ref u) H'
theorem scRows : FnScope ["_law_box_here", "_law_signs", "_law_count", "_law_most", "_law_lowers", "_law_rows_here", "_law_k", "_law_name", "_law_row", "_law_place", "_law_near", "_law_long", "_law_short"] ["_law_box_here", "_law_signs", "_law_count", "_law_most"] (defScope sRows) := ⟨rfl, rfl, rfl, by decide +kernel, rfl, by decide +kernel, by decide +kernel⟩
theorem ok_rows (T : Fns K mg a d) : FnOk P w K mg base CX0 3 a.aRows d.dRows ["_law_box_here", "_law_signs", "_law_count", "_law_most"] spRows := by
  have GDraw : FnOk P w K mg base CX0 1 a.aDraw d.dDraw ["_law_box_here", "_law_many"] spDraw := gDraw T
  have GWord : FnOk P w K mg base CX0 2 a.aWord d.dWord ["_law_box_here", "_law_signs", "_law_most", "_law_shift"] spWord := ok_word T
  have GFresh : FnOk P w K mg base CX0 2 a.aFresh d.dFresh ["_law_signs", "_law_word_here", "_law_most", "_law_used"] (spFresh K) := ok_fresh T
  have GOverL : FnOk P w K mg base CX0 1 a.aOverL d.dOverL ["_law_place", "_law_other"] spOverL := ok_overL T
  have GKin : FnOk P w K mg base CX0 2 a.aKin d.dKin ["_law_box_here", "_law_signs", "_law_words", "_law_most"] spKin := ok_kin T
  refine T.FRows.ok scRows (fun vs H Q E h => ?_) (fun cdv A outer s H vs Q E hr h => ?_)
  · obtain ⟨b, g, sg, n, m, rfl, _⟩ := h
    rfl
  · obtain ⟨b, g, sg, n, m, rfl, hB, hs1, hs2, hsw, hn, hm1, hm2, k⟩ := h
    refine ⟨_, (pss_cons (ps_set (i := 4) scRows.nd rfl (Or.inl rfl) pe_str)
      (pss_cons (ps_set (i := 5) scRows.nd rfl (Or.inl rfl) (pe_lst pa_nil))
      (pss_cons (ps_for PassesOwn.never rfl (pi_range1 (by rfl) T.z_range (pa_cons (pv 2) pa_nil)) (pg_name (i := 6) scRows.nd rfl (Or.inl rfl)) (pss_cons (ps_set (i := 7) scRows.nd rfl (Or.inl rfl) (pe_call GFresh (hr.mono (by decide)) (by rfl) T.gFresh T.FFresh.kp T.bFresh .nil pass0 (pa_cons (pv 4) (pa_cons (pe_call GWord (hr.mono (by decide)) (by rfl) T.gWord T.FWord.kp T.bWord .nil pass0 (pa_cons (pv 0) (pa_cons (pv 4) (pa_cons pe_int (pa_cons pe_int pa_nil))))) (pa_cons pe_int (pa_cons (pe_lc (own := [("_law_row", 8)]) (g := gName 8) (by rfl) scRows.nd (pi_list (pv 5)) (blkOk_by (own := [("_law_row", 8)]) (N := ["_law_box_here", "_law_signs", "_law_count", "_law_most", "_law_lowers", "_law_rows_here", "_law_k", "_law_name", "_law_row", "_law_place", "_law_near", "_law_long", "_law_short"]) (sc := defScope sRows) (by decide +kernel)) (fun _ _ _ _ _ => pg_name (i := 8) scRows.nd rfl (Or.inl rfl)) (fun _ _ _ _ _ => pts_nil) (fun _ _ _ _ _ => (pe_ix (r := rIxT K) ix_tup (pv 8) pe_int (fun _ _ => rfl)))) pa_nil))))))
      (pss_cons (ps_set (i := 9) scRows.nd rfl (Or.inr rfl) (pe_ix (r := rIxL K) ix_list (pe_lst (pa_cons pe_str (pa_cons pe_str (pa_cons pe_str pa_nil)))) (pe_op op_mod (pe_callTy call_int1 (by rfl) T.z_int (by decide +kernel) (pa_cons (pe_op op_add (pe_call GDraw (hr.mono (by decide)) (by rfl) T.gDraw T.FDraw.kp T.bDraw .nil pass0 (pa_cons (pv 0) (pa_cons pe_int pa_nil))) (pv 6)) pa_nil)) pe_int) (fun _ _ => rfl)))
      (pss_cons (ps_setLc (i := 10) (own := [("_law_row", 8)]) (g := gName 8) (by rfl) scRows.nd rfl rfl (by rfl) (pi_list (pv 5)) (blkOk_by (own := [("_law_row", 8)]) (N := ["_law_box_here", "_law_signs", "_law_count", "_law_most", "_law_lowers", "_law_rows_here", "_law_k", "_law_name", "_law_row", "_law_place", "_law_near", "_law_long", "_law_short"]) (sc := defScope sRows) (by decide +kernel)) (fun _ _ _ _ _ => pg_name (i := 8) scRows.nd rfl (Or.inl rfl)) (fun _ _ _ _ _ => (pts_one (pt_val (pe_call GOverL (hr.mono (by decide)) (by rfl) T.gOverL T.FOverL.kp T.bOverL .nil pass0 (pa_cons (pe_ix (r := rIxT K) ix_tup (pv 8) pe_int (fun _ _ => rfl)) (pa_cons (pv 9) pa_nil)))))) (fun _ _ _ _ _ => (pv 8)))
      (pss_cons (ps_set (i := 11) scRows.nd rfl (Or.inl rfl) (pe_call GWord (hr.mono (by decide)) (by rfl) T.gWord T.FWord.kp T.bWord .nil pass0 (pa_cons (pv 0) (pa_cons (pv 1) (pa_cons (pv 3) (pa_cons (pe_op op_add (pv 6) pe_int) pa_nil))))))
      (pss_cons (ps_set (i := 12) scRows.nd rfl (Or.inl rfl) (pe_call GWord (hr.mono (by decide)) (by rfl) T.gWord T.FWord.kp T.bWord .nil pass0 (pa_cons (pv 0) (pa_cons (pv 1) (pa_cons (pv 3) (pa_cons pe_int pa_nil))))))
      (pss_cons (PS.imp (t' := tKin11) (ps_if (PW.pt (pw_and (pt_cmpR (op_neD hr.units) (pv 5) (pe_lst pa_nil) (nomark _)) (pw_and1 (pt_cmpR op_eq (pe_call GDraw (hr.mono (by decide)) (by rfl) T.gDraw T.FDraw.kp T.bDraw .nil pass0 (pa_cons (pv 0) (pa_cons pe_int pa_nil))) pe_int (nomark _))))) (pss_one (ps_set (i := 11) scRows.nd rfl (Or.inl rfl) (pe_call GKin (hr.mono (by decide)) (by rfl) T.gKin T.FKin.kp T.bKin .nil pass0 (pa_cons (pv 0) (pa_cons (pv 1) (pa_cons (pe_lc (own := [("_law_row", 8)]) (g := gName 8) (by rfl) scRows.nd (pi_list (pv 5)) (blkOk_by (own := [("_law_row", 8)]) (N := ["_law_box_here", "_law_signs", "_law_count", "_law_most", "_law_lowers", "_law_rows_here", "_law_k", "_law_name", "_law_row", "_law_place", "_law_near", "_law_long", "_law_short"]) (sc := defScope sRows) (by decide +kernel)) (fun _ _ _ _ _ => pg_name (i := 8) scRows.nd rfl (Or.inl rfl)) (fun _ _ _ _ _ => pts_nil) (fun _ _ _ _ _ => (pe_ix (r := rIxT K) ix_tup (pv 8) pe_int (fun _ _ => rfl)))) (pa_cons (pv 3) pa_nil))))))) pss_nil) (fun D σ H h => (by
      obtain ⟨b, g, sg, n, m, u, ps, t, v6, v7, v8, v9, v10, vx, rfl, hB, hs1, hs2, hm2, hR, hub, hps, hw, ht, k⟩ := h
      refine ⟨_, rfl, Nat.zero_le _, fun p hp => ?_⟩
      have s1 : Same H (upd H p (.lst [])) := upd_laid hp
      have hR1 := hR.same s1
      refine ⟨.list (ps.map fun q => q.2.py), .list [], .lst (SqL.of hR1.1) (dp_rows ps fun q hq => (hR1.2 q hq).1), .lst (SqL.of upd_same) .nil, shaped_rows (fun q hq => (hR1.2 q hq).2), shaped_nil, ?_⟩
      rw [eqv_nil]
      have hB1 := hB.same s1
      have k1 : Kp2 b g H (upd H p (.lst [])) := Same.kp2 s1 b g
      generalize upd H p (.lst []) = H1 at hR1 hB1 k1
      refine ⟨_, rfl, ite2 (fun h => ?_) (fun h => iteF (k t H1 ht hB1 k1))⟩
      have hne : ps ≠ [] := fun z => by
        subst z
        cases h
      have hpos : 1 ≤ ps.length := by
        cases ps with
        | nil => exact absurd rfl hne
        | cons x r => exact Nat.succ_le_succ (Nat.zero_le _)
      refine ⟨_, rfl, b, g, _, rfl, hB1, by decide, fun r H2 hr2 hB2 hk2 => ⟨rfl, _, rfl, ite2 (fun h2 => ?_) (fun h2 => k t H2 ht hB2 (k1.trans hk2))⟩⟩
      have hR2 := hR1.kp hB1 hub hk2
      refine ⟨_, rfl, _, rfl, _, rfl, u, rfl, ⟨_, SqL.of hR2.1⟩, fun D2 hD2 => lc_lst (fun q : Addr × Row => V.ref q.1) (fun _ => true) (fun q => V.str (S q.2.l)) (by omega) hR2.1 hD2 (fun _ => rfl) (fun _ _ _ _ _ q => q) (fun q hq _ H3 Q3 off k3 => ⟨_, rfl, q.1, _, 1, _, rfl, rfl, SqT.of ((off q.1 (ne_of_none (hR2.2 q hq).1 hD2)).trans (hR2.2 q hq).1), rfl, k3⟩) ?_⟩
      rw [col_map]
      have s3 : Same H2 (upd H2 D2 (.lst (ps.map fun q => V.str (S q.2.l)))) := upd_laid hD2
      have hD3 : (upd H2 D2 (.lst (ps.map fun q => V.str (S q.2.l)))) D2 = some (.lst ((ps.map fun q => q.2.l).map fun t => V.str (S t))) := by
        rw [upd_same, List.map_map]
        rfl
      obtain ⟨⟨ob, hob⟩, ⟨og, hog⟩⟩ := hB2.al
      exact ⟨_, rfl, b, g, sg, D2, ps.map fun q => q.2.l, m, rfl, hB2.same s3, hs1, hs2, hm2, hD3, ⟨(ne_of_none hob hD2).symm, (ne_of_none hog hD2).symm⟩, by rw [List.length_map]; exact hpos, by rw [List.length_map]; exact hps, fun t ht => by
        obtain ⟨q, hq, rfl⟩ := List.mem_map.mp ht
        exact hw q hq, fun t2 H4 ht2 hB4 hk4 => k t2 H4 ht2 hB4 (k1.trans (hk2.trans ((Same.kp2 s3 b g).trans hk4)))⟩)))
      (pss_cons (PS.imp (t' := tKin12) (ps_if (PW.pt (pw_and (pt_cmpR (op_neD hr.units) (pv 5) (pe_lst pa_nil) (nomark _)) (pw_and1 (pt_cmpR op_eq (pe_call GDraw (hr.mono (by decide)) (by rfl) T.gDraw T.FDraw.kp T.bDraw .nil pass0 (pa_cons (pv 0) (pa_cons pe_int pa_nil))) pe_int (nomark _))))) (pss_one (ps_set (i := 12) scRows.nd rfl (Or.inl rfl) (pe_call GKin (hr.mono (by decide)) (by rfl) T.gKin T.FKin.kp T.bKin .nil pass0 (pa_cons (pv 0) (pa_cons (pv 1) (pa_cons (pe_lc (own := [("_law_row", 8)]) (g := gName 8) (by rfl) scRows.nd (pi_list (pv 5)) (blkOk_by (own := [("_law_row", 8)]) (N := ["_law_box_here", "_law_signs", "_law_count", "_law_most", "_law_lowers", "_law_rows_here", "_law_k", "_law_name", "_law_row", "_law_place", "_law_near", "_law_long", "_law_short"]) (sc := defScope sRows) (by decide +kernel)) (fun _ _ _ _ _ => pg_name (i := 8) scRows.nd rfl (Or.inl rfl)) (fun _ _ _ _ _ => pts_nil) (fun _ _ _ _ _ => (pe_ix (r := rIxT K) ix_tup (pv 8) pe_int (fun _ _ => rfl)))) (pa_cons (pv 3) pa_nil))))))) pss_nil) (fun D σ H h => (by
      obtain ⟨b, g, sg, n, m, u, ps, t, v6, v7, v8, v9, v10, vx, rfl, hB, hs1, hs2, hm2, hR, hub, hps, hw, ht, k⟩ := h
      refine ⟨_, rfl, Nat.zero_le _, fun p hp => ?_⟩
      have s1 : Same H (upd H p (.lst [])) := upd_laid hp
      have hR1 := hR.same s1
      refine ⟨.list (ps.map fun q => q.2.py), .list [], .lst (SqL.of hR1.1) (dp_rows ps fun q hq => (hR1.2 q hq).1), .lst (SqL.of upd_same) .nil, shaped_rows (fun q hq => (hR1.2 q hq).2), shaped_nil, ?_⟩
      rw [eqv_nil]
      have hB1 := hB.same s1
      have k1 : Kp2 b g H (upd H p (.lst [])) := Same.kp2 s1 b g
      generalize upd H p (.lst []) = H1 at hR1 hB1 k1
      refine ⟨_, rfl, ite2 (fun h => ?_) (fun h => iteF (k t H1 ht hB1 k1))⟩
      have hne : ps ≠ [] := fun z => by
        subst z
        cases h
      have hpos : 1 ≤ ps.length := by
        cases ps with
        | nil => exact absurd rfl hne
        | cons x r => exact Nat.succ_le_succ (Nat.zero_le _)
      refine ⟨_, rfl, b, g, _, rfl, hB1, by decide, fun r H2 hr2 hB2 hk2 => ⟨rfl, _, rfl, ite2 (fun h2 => ?_) (fun h2 => k t H2 ht hB2 (k1.trans hk2))⟩⟩
      have hR2 := hR1.kp hB1 hub hk2
      refine ⟨_, rfl, _, rfl, _, rfl, u, rfl, ⟨_, SqL.of hR2.1⟩, fun D2 hD2 => lc_lst (fun q : Addr × Row => V.ref q.1) (fun _ => true) (fun q => V.str (S q.2.s)) (by omega) hR2.1 hD2 (fun _ => rfl) (fun _ _ _ _ _ q => q) (fun q hq _ H3 Q3 off k3 => ⟨_, rfl, q.1, _, 2, _, rfl, rfl, SqT.of ((off q.1 (ne_of_none (hR2.2 q hq).1 hD2)).trans (hR2.2 q hq).1), rfl, k3⟩) ?_⟩
      rw [col_map]
      have s3 : Same H2 (upd H2 D2 (.lst (ps.map fun q => V.str (S q.2.s)))) := upd_laid hD2
      have hD3 : (upd H2 D2 (.lst (ps.map fun q => V.str (S q.2.s)))) D2 = some (.lst ((ps.map fun q => q.2.s).map fun t => V.str (S t))) := by
        rw [upd_same, List.map_map]
        rfl
      obtain ⟨⟨ob, hob⟩, ⟨og, hog⟩⟩ := hB2.al
      exact ⟨_, rfl, b, g, sg, D2, ps.map fun q => q.2.s, m, rfl, hB2.same s3, hs1, hs2, hm2, hD3, ⟨(ne_of_none hob hD2).symm, (ne_of_none hog hD2).symm⟩, by rw [List.length_map]; exact hpos, by rw [List.length_map]; exact hps, fun t ht => by
        obtain ⟨q, hq, rfl⟩ := List.mem_map.mp ht
        exact hw q hq, fun t2 H4 ht2 hB4 hk4 => k t2 H4 ht2 hB4 (k1.trans (hk2.trans ((Same.kp2 s3 b g).trans hk4)))⟩)))
      (pss_cons (ps_set (i := 11) scRows.nd rfl (Or.inl rfl) (pe_call GFresh (hr.mono (by decide)) (by rfl) T.gFresh T.FFresh.kp T.bFresh .nil pass0 (pa_cons (pv 1) (pa_cons (pv 11) (pa_cons (pv 3) (pa_cons (pe_lc (own := [("_law_row", 8)]) (g := gName 8) (by rfl) scRows.nd (pi_list (pv 10)) (blkOk_by (own := [("_law_row", 8)]) (N := ["_law_box_here", "_law_signs", "_law_count", "_law_most", "_law_lowers", "_law_rows_here", "_law_k", "_law_name", "_law_row", "_law_place", "_law_near", "_law_long", "_law_short"]) (sc := defScope sRows) (by decide +kernel)) (fun _ _ _ _ _ => pg_name (i := 8) scRows.nd rfl (Or.inl rfl)) (fun _ _ _ _ _ => pts_nil) (fun _ _ _ _ _ => (pe_ix (r := rIxT K) ix_tup (pv 8) pe_int (fun _ _ => rfl)))) pa_nil))))))
      (pss_cons (ps_set (i := 12) scRows.nd rfl (Or.inl rfl) (pe_call GFresh (hr.mono (by decide)) (by rfl) T.gFresh T.FFresh.kp T.bFresh .nil pass0 (pa_cons (pv 1) (pa_cons (pv 12) (pa_cons (pv 3) (pa_cons (pe_lc (own := [("_law_row", 8)]) (g := gName 8) (by rfl) scRows.nd (pi_list (pv 10)) (blkOk_by (own := [("_law_row", 8)]) (N := ["_law_box_here", "_law_signs", "_law_count", "_law_most", "_law_lowers", "_law_rows_here", "_law_k", "_law_name", "_law_row", "_law_place", "_law_near", "_law_long", "_law_short"]) (sc := defScope sRows) (by decide +kernel)) (fun _ _ _ _ _ => pg_name (i := 8) scRows.nd rfl (Or.inl rfl)) (fun _ _ _ _ _ => pts_nil) (fun _ _ _ _ _ => (pe_ix (r := rIxT K) ix_tup (pv 8) pe_int (fun _ _ => rfl)))) pa_nil))))))
      (pss_one (ps_expr (pe_bm PySem.F.plainAttrs_list PySem.F.slot_list_append PySem.F.type_list_append mt_append (pv 5) (pa_cons (pe_tup (pa_cons (pv 7) (pa_cons (pv 11) (pa_cons (pv 12) (pa_cons (pv 9) pa_nil))))) pa_nil))))))))))))))
      (pss_one (ps_ret (pv 5)))))), ?_⟩
    refine ⟨Nat.zero_le _, fun u hu => ?_⟩
    rw [az_S]
    obtain ⟨⟨ob, hob⟩, ⟨og, hog⟩⟩ := hB.al
    have hub : u ≠ b ∧ u ≠ g := ⟨(ne_of_none hob hu).symm, (ne_of_none hog hu).symm⟩
    have s1 : Same H (upd H u (.lst [])) := upd_laid hu
    have hR1 : RowsAt (upd H u (.lst [])) u [] := ⟨upd_same, by simp⟩
    have hB1 := hB.same s1
    have k1 : Kp2 b g H (upd H u (.lst [])) := Same.kp2 s1 b g
    generalize upd H u (.lst []) = H1 at hR1 hB1 k1
    have at3 : ∀ j : Nat, j < 3 → ∃ pl : List Nat, ([V.str "any", .str "inner", .str "opening"] : List V)[j]? = some (.str (S pl)) ∧ Tx pl ∧ pl ∈ kindsL := by
      intro j hj
      match j, hj with
      | 0, _ => exact ⟨("any" : Str).cps.toList, congrArg (fun z => some (V.str z)) (S_of _), ⟨by decide +kernel, by decide +kernel⟩, List.mem_cons_self⟩
      | 1, _ => exact ⟨("inner" : Str).cps.toList, congrArg (fun z => some (V.str z)) (S_of _), ⟨by decide +kernel, by decide +kernel⟩, (List.mem_cons_of_mem _ (List.mem_cons_of_mem _ List.mem_cons_self))⟩
      | 2, _ => exact ⟨("opening" : Str).cps.toList, congrArg (fun z => some (V.str z)) (S_of _), ⟨by decide +kernel, by decide +kernel⟩, (List.mem_cons_of_mem _ List.mem_cons_self)⟩
    have e26 := az_len
    refine ⟨_, rfl, _, rfl, by omega, by omega, for_range (lo := 0) (n := n) (fun i σ H' => ∃ (ps : List (Addr × Row)) (v6 v7 v8 v9 v10 v11 v12 : Option V), σ = stR b sg n m u v6 v7 v8 v9 v10 v11 v12 ∧ RowsAt H' u ps ∧ ps.length = i ∧ (∀ q ∈ ps, RowW sg m q.2) ∧ (sg.Nodup → n ≤ Fw.top sg.length m → (ps.map (·.2)).Pairwise Apart) ∧ BoxB H' b g ∧ Kp2 b g H H')
      ⟨[], _, _, _, _, _, _, _, rfl, hR1, rfl, by simp, fun _ _ => .nil, hB1, k1⟩ ?_ ?_⟩
    · rintro i σ H2 hi ⟨ps, v6, v7, v8, v9, v10, v11, v12, rfl, hR2, hlen, hws, hpw, hB2, k2⟩
      -- the name
      refine ⟨_, rfl, _, rfl, _, rfl, b, g, azL, 8, 0, rfl, hB2, by omega, by omega, by omega, by omega, by omega, fun w1 H3 hw1 hw2 hw3 hB3 k3 => ?_⟩
      have hR3 := hR2.kp hB2 hub k3
      refine ⟨_, rfl, u, rfl, ⟨_, SqL.of hR3.1⟩, fun D2 hD2 => lc_lst (fun q : Addr × Row => V.ref q.1) (fun _ => true) (fun q => V.str (S q.2.n)) (by omega) hR3.1 hD2 (fun _ => rfl) (fun _ _ _ _ _ q => q) (fun q hq _ H3 Q3 off k3 => ⟨_, rfl, q.1, _, 0, _, rfl, rfl, SqT.of ((off q.1 (ne_of_none (hR3.2 q hq).1 hD2)).trans (hR3.2 q hq).1), rfl, k3⟩) ?_⟩
      rw [col_map]
      have s4 : Same H3 (upd H3 D2 (.lst (ps.map fun q => V.str (S q.2.n)))) := upd_laid hD2
      have hD4 : (upd H3 D2 (.lst (ps.map fun q => V.str (S q.2.n)))) D2 = some (.lst ((ps.map fun q => q.2.n).map fun t => V.str (S t))) := by
        rw [upd_same, List.map_map]
        rfl
      have hR4 := hR3.same s4
      have hB4 := hB3.same s4
      have k4 := k2.trans (k3.trans (Same.kp2 s4 b g))
      generalize upd H3 D2 (.lst (ps.map fun q => V.str (S q.2.n))) = H4 at hD4 hR4 hB4 k4
      refine ⟨azL, w1, 8, D2, ps.map fun q => q.2.n, rfl, by omega, by omega, by omega, ⟨hw1, hw2, hw3⟩, SqL.of hD4, by rw [List.length_map]; omega, fun nm hnm hnf => ?_⟩
      have hnmx : Tx nm := hnm.tx az_ok (by omega)
      -- the place
      refine ⟨(by show 3 ≤ sizeLine; decide), fun L hL => ?_⟩
      have s5 : Same H4 (upd H4 L (.lst [.str "any", .str "inner", .str "opening"])) := upd_laid hL
      have hL5 : (upd H4 L (.lst [.str "any", .str "inner", .str "opening"])) L = some (.lst [.str "any", .str "inner", .str "opening"]) := upd_same
      have hR5 := hR4.same s5
      have hB5 := hB4.same s5
      have k5 := k4.trans (Same.kp2 s5 b g)
      obtain ⟨⟨ob5, hob5⟩, ⟨og5, hog5⟩⟩ := hB4.al
      have hLb : L ≠ b ∧ L ≠ g := ⟨(ne_of_none hob5 hL).symm, (ne_of_none hog5 hL).symm⟩
      generalize upd H4 L (.lst [.str "any", .str "inner", .str "opening"]) = H5 at hL5 hR5 hB5 k5
      refine ⟨_, rfl, b, g, _, rfl, hB5, by decide, fun r H6 hr6 hB6 hk6 => ?_⟩
      have hR6 := hR5.kp hB5 hub hk6
      have k6 := k5.trans hk6
      have g0 := Int.emod_nonneg ((r : Int) + (0 + (i : Int))) (show (3 : Int) ≠ 0 by decide)
      have g1 := Int.emod_lt_of_pos ((r : Int) + (0 + (i : Int))) (show (0 : Int) < 3 by decide)
      obtain ⟨j, hj⟩ : ∃ j : Nat, ((r : Int) + (0 + (i : Int))) % 3 = (j : Int) := ⟨(((r : Int) + (0 + (i : Int))) % 3).toNat, by omega⟩
      obtain ⟨pl, hpl, hplx, hplk⟩ := at3 j (by omega)
      refine ⟨_, rfl, _, _, rfl, rfl, .inl ⟨_, rfl, _, _, rfl, rfl, by show (0 : Int) < _; decide, L, _, _, _, rfl, rfl, SqL.of (hk6 _ _ hLb.1 hLb.2 hL5), (by rw [hj]; exact atI_nat hpl), ?_⟩⟩
      -- those near
      refine ⟨_, rfl, u, rfl, ⟨_, SqL.of hR6.1⟩, fun D7 hD7 => lc_lst (fun q : Addr × Row => V.ref q.1) (fun q => ovB q.2.p pl) (fun q => V.ref q.1) (by omega) hR6.1 hD7 (fun _ => rfl) (fun q hq H3 Q3 off k3 => ⟨_, rfl, q.1, _, 3, _, rfl, rfl, SqT.of ((off q.1 (ne_of_none (hR6.2 q hq).1 hD7)).trans (hR6.2 q hq).1), rfl, _, rfl, q.2.p, pl, rfl, _, rfl, k3⟩) (fun q hq _ H3 Q3 off k3 => ⟨_, rfl, k3⟩) ?_⟩
      have s7 : Same H6 (upd H6 D7 (.lst ((ps.filter fun q => ovB q.2.p pl).map fun q => V.ref q.1))) := upd_laid hD7
      have hN7 : RowsAt (upd H6 D7 (.lst ((ps.filter fun q => ovB q.2.p pl).map fun q => V.ref q.1))) D7 (ps.filter fun q => ovB q.2.p pl) := ⟨upd_same, fun q hq => ((hR6.same s7).2 q (List.mem_filter.mp hq).1)⟩
      have hR7 := hR6.same s7
      have hB7 := hB6.same s7
      have k7 := k6.trans (Same.kp2 s7 b g)
      obtain ⟨⟨ob7, hob7⟩, ⟨og7, hog7⟩⟩ := hB6.al
      have hDb : D7 ≠ b ∧ D7 ≠ g := ⟨(ne_of_none hob7 hD7).symm, (ne_of_none hog7 hD7).symm⟩
      have hNl : (ps.filter fun q => ovB q.2.p pl).length ≤ ps.length := List.length_filter_le _ _
      generalize upd H6 D7 (.lst ((ps.filter fun q => ovB q.2.p pl).map fun q => V.ref q.1)) = H7 at hN7 hR7 hB7 k7
      have hNm : ∀ q ∈ ps, ovB q.2.p pl = true → q ∈ ps.filter fun q => ovB q.2.p pl := fun q hq h => List.mem_filter.mpr ⟨hq, h⟩
      generalize (ps.filter fun q => ovB q.2.p pl) = ns at hN7 hNl hNm
      -- long and short
      refine ⟨_, rfl, _, rfl, _, rfl, _, rfl, _, _, rfl, rfl, b, g, sg, m, i + 1, (congrArg (fun z : Int => ([V.ref b, .str (S sg), .int (m : Int), V.int z] : List V)) (by omega : (0 + (i : Int)) + 1 = ((i + 1 : Nat) : Int))), hB7, hs1, hs2, hm1, hm2, by omega, fun w2 H8 a1 a2 a3 hB8 hk8 => ?_⟩
      refine ⟨_, rfl, _, rfl, _, rfl, b, g, sg, m, 0, rfl, hB8, hs1, hs2, hm1, hm2, by omega, fun w3 H9 c1 c2 c3 hB9 hk9 => ?_⟩
      have hR9 := (hR7.kp hB7 hub hk8).kp hB8 hub hk9
      have hN9 := (hN7.kp hB7 hDb hk8).kp hB8 hDb hk9
      have k9 := k7.trans (hk8.trans hk9)
      refine ⟨b, g, sg, n, m, u, ps, w2, _, _, _, _, _, _, rfl, hB9, hs1, hs2, hm2, hR9, hub, by omega, fun q hq => (hws q hq).2.1, ⟨a1, a2, a3⟩, fun t2 H10 ht2 hB10 hk10 => ?_⟩
      have hR10 := hR9.kp hB9 hub hk10
      refine ⟨b, g, sg, n, m, u, ps, w3, _, _, _, _, _, _, rfl, hB10, hs1, hs2, hm2, hR10, hub, by omega, fun q hq => (hws q hq).2.2.1, ⟨c1, c2, c3⟩, fun t3 H11 ht3 hB11 hk11 => ?_⟩
      have hR11 := hR10.kp hB10 hub hk11
      have hN11 := (hN9.kp hB9 hDb hk10).kp hB10 hDb hk11
      have k11 := k9.trans (hk10.trans hk11)
      -- fresh ones
      refine ⟨_, rfl, _, rfl, _, rfl, _, rfl, D7, rfl, ⟨_, SqL.of hN11.1⟩, fun D2 hD2 => lc_lst (fun q : Addr × Row => V.ref q.1) (fun _ => true) (fun q => V.str (S q.2.l)) (by omega) hN11.1 hD2 (fun _ => rfl) (fun _ _ _ _ _ q => q) (fun q hq _ H3 Q3 off k3 => ⟨_, rfl, q.1, _, 1, _, rfl, rfl, SqT.of ((off q.1 (ne_of_none (hN11.2 q hq).1 hD2)).trans (hN11.2 q hq).1), rfl, k3⟩) ?_⟩
      rw [col_map]
      have s12 : Same H11 (upd H11 D2 (.lst (ns.map fun q => V.str (S q.2.l)))) := upd_laid hD2
      have hD12 : (upd H11 D2 (.lst (ns.map fun q => V.str (S q.2.l)))) D2 = some (.lst ((ns.map fun q => q.2.l).map fun t => V.str (S t))) := by
        rw [upd_same, List.map_map]
        rfl
      have hR12 := hR11.same s12
      have hN12 := hN11.same s12
      have hB12 := hB11.same s12
      have k12 := k11.trans (Same.kp2 s12 b g)
      generalize upd H11 D2 (.lst (ns.map fun q => V.str (S q.2.l))) = H12 at hD12 hR12 hN12 hB12 k12
      refine ⟨sg, t2, m, D2, ns.map fun q => q.2.l, rfl, hs1, hs2, hm2, ht2, SqL.of hD12, by rw [List.length_map]; omega, fun lg hlg hlf => ?_⟩
      refine ⟨_, rfl, _, rfl, _, rfl, _, rfl, D7, rfl, ⟨_, SqL.of hN12.1⟩, fun D3 hD3 => lc_lst (fun q : Addr × Row => V.ref q.1) (fun _ => true) (fun q => V.str (S q.2.s)) (by omega) hN12.1 hD3 (fun _ => rfl) (fun _ _ _ _ _ q => q) (fun q hq _ H3 Q3 off k3 => ⟨_, rfl, q.1, _, 2, _, rfl, rfl, SqT.of ((off q.1 (ne_of_none (hN12.2 q hq).1 hD3)).trans (hN12.2 q hq).1), rfl, k3⟩) ?_⟩
      rw [col_map]
      have s13 : Same H12 (upd H12 D3 (.lst (ns.map fun q => V.str (S q.2.s)))) := upd_laid hD3
      have hD13 : (upd H12 D3 (.lst (ns.map fun q => V.str (S q.2.s)))) D3 = some (.lst ((ns.map fun q => q.2.s).map fun t => V.str (S t))) := by
        rw [upd_same, List.map_map]
        rfl
      have hR13 := hR12.same s13
      have hB13 := hB12.same s13
      have k13 := k12.trans (Same.kp2 s13 b g)
      generalize upd H12 D3 (.lst (ns.map fun q => V.str (S q.2.s))) = H13 at hD13 hR13 hB13 k13
      refine ⟨sg, t3, m, D3, ns.map fun q => q.2.s, rfl, hs1, hs2, hm2, ht3, SqL.of hD13, by rw [List.length_map]; omega, fun sh hsh hsf => ?_⟩
      -- the row
      refine ⟨_, rfl, .inl ⟨rfl, _, SqL.of hR13.1⟩, _, rfl, _, rfl, _, rfl, _, rfl, (by show 4 ≤ sizeLine; decide), fun tp htp => ?_⟩
      have s14 : Same H13 (upd H13 tp (.tup [.str (S nm), .str (S lg), .str (S sh), .str (S pl)])) := upd_laid htp
      have hR14 := hR13.same s14
      have hB14 := hB13.same s14
      have k14 := k13.trans (Same.kp2 s14 b g)
      have htp14 : (upd H13 tp (.tup [.str (S nm), .str (S lg), .str (S sh), .str (S pl)])) tp = some (.tup [.str (S nm), .str (S lg), .str (S sh), .str (S pl)]) := upd_same
      generalize upd H13 tp (.tup [.str (S nm), .str (S lg), .str (S sh), .str (S pl)]) = H14 at hR14 hB14 k14 htp14
      refine ⟨u, _, _, rfl, rfl, hR14.1, by rw [List.length_map, sizeLine_eq]; omega, ?_⟩
      have nu : ∀ {x : Addr} {xs : List V}, H14 x = some (.tup xs) → x ≠ u := fun {x xs} hx z => by
        rw [z, hR14.1] at hx
        cases hx
      refine ⟨ps ++ [(tp, ⟨nm, lg, sh, pl⟩)], _, _, _, _, _, _, _, rfl, ⟨?_, ?_⟩, ?_, ?_, ?_, ?_, ?_⟩
      · rw [upd_same, List.map_append]
        rfl
      · intro q hq
        rcases List.mem_append.mp hq with h | h
        · obtain ⟨h1, h2⟩ := hR14.2 q h
          exact ⟨by rw [upd_ne (nu h1)]; exact h1, h2⟩
        · rw [List.mem_singleton] at h
          subst h
          exact ⟨by rw [upd_ne (nu htp14)]; exact htp14, hnmx, hlg.tx hsw hm2, hsh.tx hsw hm2, hplx⟩
      · rw [List.length_append, hlen]
        rfl
      · intro q hq
        rcases List.mem_append.mp hq with h | h
        · exact hws q h
        · rw [List.mem_singleton] at h
          subst h
          exact ⟨hnm, hlg, hsh, hplk⟩
      · intro z1 z2
        rw [List.map_append]
        refine List.pairwise_append.mpr ⟨hpw z1 z2, List.pairwise_singleton _ _, fun r hr e he => ?_⟩
        obtain ⟨q, hq, rfl⟩ := List.mem_map.mp hr
        rw [List.map_cons, List.map_nil, List.mem_singleton] at he
        subst he
        have d1 := hnf az_nodup (by rw [List.length_map, az_len]; exact Nat.lt_of_le_of_lt (show ps.length ≤ 20 by omega) (by decide))
        have d2 := hlf z1 (by rw [List.length_map]; omega)
        have d3 := hsf z1 (by rw [List.length_map]; omega)
        refine ⟨fun z => d1 (List.mem_map.mpr ⟨q, hq, z⟩), ?_⟩
        unfold confB
        show (ovB q.2.p pl && (decide (q.2.l = lg) || decide (q.2.s = sh))) = false
        cases ho : ovB q.2.p pl with
        | false => rfl
        | true =>
          have hm := hNm q hq ho
          rw [decide_eq_false (fun z => d2 (List.mem_map.mpr ⟨q, hm, z⟩)), decide_eq_false (fun z => d3 (List.mem_map.mpr ⟨q, hm, z⟩))]
          rfl
      · obtain ⟨x, mm, sd, gs, h1, h2, h3⟩ := hB14
        exact ⟨x, mm, sd, gs, by rw [upd_ne hub.1.symm]; exact h1, by rw [upd_ne hub.2.symm]; exact h2, h3⟩
      · intro c o h1 h2 h3
        have hne : c ≠ u := ne_of_none h3 hu
        rw [upd_ne hne]
        exact k14 c o h1 h2 h3
    · rintro σ H2 ⟨ps, v6, v7, v8, v9, v10, v11, v12, rfl, hR2, hlen, hws, hpw, hB2, k2⟩
      exact ⟨_, rfl, k u ps H2 hu hR2 hlen hws hpw hB2 k2⟩
end
end Vk
set_option Elab.async false
set_option linter.all false
set_option maxRecDepth 100000
set_option maxHeartbeats 8000000
namespace Vk
open PySem PySem.Spec PyProof.Rows L2
def isW (sg : List Nat) (m : Nat) (t : List Nat) : Bool := decide (1 ≤ t.length) && (decide (t.length ≤ m) && decide (∀ c ∈ t, c ∈ sg))
theorem isW_iff {sg t : List Nat} {m : Nat} : isW sg m t = true ↔ WordOk sg m t := by
  unfold isW WordOk
  rw [Bool.and_eq_true_iff, Bool.and_eq_true_iff, decide_eq_true_iff, decide_eq_true_iff, decide_eq_true_iff]
def faultL (sg : List Nat) (e : Row) (rs : List Row) : List (List Nat) :=
  if isW azL 8 e.n = false then [Lt "BadName", e.n]
  else if isW sg 6 e.l = false then [Lt "BadForm", e.l]
  else if isW sg 6 e.s = false then [Lt "BadForm", e.s]
  else if e.p ∉ kindsL then [Lt "UnknownPlace", e.p]
  else if e.n ∈ rs.map (·.n) then [Lt "DuplicateName", e.n]
  else match rs.find? (fun r => confB r e) with
    | some r => [Lt "Conflict", e.n, r.n]
    | none => []
theorem kinds_map : kindsL.map (fun l => V.str (S l)) = ([.str "any", .str "opening", .str "inner"] : List V) := by
  unfold kindsL
  simp only [List.map_cons, List.map_nil, Lt_S]
section
variable {P : Program} {w : World} {K : PySem.W.Frag} {mg : Str → Option Value} {base : Heap} {a : Ad} {d : Fd}
def spIsWord : Sp := fun vs H Q _ => ∃ (t sg : List Nat) (m : Nat), vs = [.str (S t), .str (S sg), .int (m : Int)] ∧ t.length ≤ 1000 ∧ ∀ H', Same H H' → Q (.bl (isW sg m t)) H'
theorem scIsWord : FnScope ["_law_word_here", "_law_signs", "_law_most", "_law_sign"] ["_law_word_here", "_law_signs", "_law_most"] (defScope sIsWord) := ⟨rfl, rfl, rfl, by decide +kernel, rfl, by decide +kernel, by decide +kernel⟩
theorem ok_isWord (T : Fns K mg a d) : FnOk P w K mg base CX0 1 a.aIsWord d.dIsWord ["_law_word_here", "_law_signs", "_law_most"] spIsWord := by
  refine T.FIsWord.ok scIsWord (fun vs H Q E h => ?_) (fun cdv A outer s H vs Q E hr h => ?_)
  · obtain ⟨t, sg, m, rfl, _⟩ := h
    rfl
  · obtain ⟨t, sg, m, rfl, hl, k⟩ := h
    refine ⟨_, (pss_one (ps_ret (pe_and (pe_cmpR op_ge (pe_callB call_len_str (by rfl) T.z_len (by decide +kernel) (pa_cons (pv 0) pa_nil)) pe_int (nomark _)) (pe_and (pe_cmpR op_le (pe_callB call_len_str (by rfl) T.z_len (by decide +kernel) (pa_cons (pv 0) pa_nil)) (pv 2) (nomark _)) (pe_one (pe_callB (cr_all rfl) (by rfl) T.z_all (by decide +kernel) (pa_cons (pe_lc (own := [("_law_sign", 3)]) (g := gName 3) (by rfl) scIsWord.nd (pi_str (pv 0)) (blkOk_by (own := [("_law_sign", 3)]) (N := ["_law_word_here", "_law_signs", "_law_most", "_law_sign"]) (sc := defScope sIsWord) (by decide +kernel)) (fun _ _ _ _ _ => pg_name (i := 3) scIsWord.nd rfl (Or.inl rfl)) (fun _ _ _ _ _ => pts_nil) (fun _ _ _ _ _ => (pe_cmpR op_in_sign (pv 3) (pv 1) rfl))) pa_nil))))))), ?_⟩
    have htl : (S t).length ≤ sizeLine := sz4 (by rw [S_len]; omega)
    unfold isW at k
    refine ⟨_, rfl, _, rfl, htl, _, _, rfl, rfl, _, rfl, ite2 (fun h1 => ?_) (fun h1 => ?_)⟩
    · have g1 : 1 ≤ t.length := by
        have := of_decide_eq_true h1
        rw [S_len] at this
        omega
      rw [decide_eq_true g1, Bool.true_and] at k
      refine ⟨_, rfl, _, rfl, htl, _, rfl, _, _, rfl, rfl, _, rfl, ite2 (fun h2 => ?_) (fun h2 => ?_)⟩
      · have g2 : t.length ≤ m := by
          have := of_decide_eq_true h2
          rw [S_len] at this
          omega
        rw [decide_eq_true g2, Bool.true_and] at k
        refine ⟨_, rfl, _, rfl, fun D hD => lc_text (fun _ => true) (fun c => V.bl (decide (c ∈ sg))) (by omega) (fun _ => rfl) (fun _ _ _ _ _ q => q) (fun c hc _ H2 Q2 _ q => ⟨_, rfl, _, rfl, c, S sg, rfl, rfl, by rw [S_cps]; exact q⟩) ?_⟩
        refine ⟨D, t.map (fun c => decide (c ∈ sg)), rfl, ?_, ?_⟩
        · rw [List.map_map]
          refine SqL.of ?_
          rw [upd_same, List.filter_eq_self.mpr (fun _ _ => rfl)]
          rfl
        · have e3 : (t.map fun c => decide (c ∈ sg)).all id = decide (∀ c ∈ t, c ∈ sg) := by
            rw [Bool.eq_iff_iff]
            simp
          rw [e3]
          exact k _ (upd_laid hD)
      · have g2 : ¬ t.length ≤ m := fun z => h2 (decide_eq_true (by rw [S_len]; omega))
        rw [decide_eq_false g2, Bool.false_and] at k
        exact k H (Same.refl H)
    · have g1 : ¬ 1 ≤ t.length := fun z => h1 (decide_eq_true (by rw [S_len]; omega))
      rw [decide_eq_false g1, Bool.false_and] at k
      exact k H (Same.refl H)
def spFault : Sp := fun vs H Q _ => ∃ (sg : List Nat) (x u : Addr) (e : Row) (ps : List (Addr × Row)), vs = [.str (S sg), .ref x, .ref u] ∧ H x = some (.tup e.vs) ∧ e.ok ∧ RowsAt H u ps ∧ ps.length ≤ 20 ∧
  ∀ p H', H p = none → H' p = some (.lst ((faultL sg e (ps.map (·.2))).map fun t => V.str (S t))) → Same H H' → Q (.ref p) H'
theorem scFault : FnScope ["_law_signs", "_law_entry_here", "_law_rows_here", "_law_form", "_law_row"] ["_law_signs", "_law_entry_here", "_law_rows_here"] (defScope sFault) := ⟨rfl, rfl, rfl, by decide +kernel, rfl, by decide +kernel, by decide +kernel⟩
theorem ok_fault (T : Fns K mg a d) : FnOk P w K mg base CX0 2 a.aFault d.dFault ["_law_signs", "_law_entry_here", "_law_rows_here"] spFault := by
  have GIsWord : FnOk P w K mg base CX0 1 a.aIsWord d.dIsWord ["_law_word_here", "_law_signs", "_law_most"] spIsWord := ok_isWord T
  have GOverL : FnOk P w K mg base CX0 1 a.aOverL d.dOverL ["_law_place", "_law_other"] spOverL := ok_overL T
  refine T.FFault.ok scFault (fun vs H Q E h => ?_) (fun cdv A outer s H vs Q E hr h => ?_)
  · obtain ⟨sg, x, u, e, ps, rfl, _⟩ := h
    rfl
  · obtain ⟨sg, x, u, e, ps, rfl, hx, heok, hR, hps, k⟩ := h
    refine ⟨_, (pss_cons (ps_if (pt_not (pt_val (pe_call GIsWord (hr.mono (by decide)) (by rfl) T.gIsWord T.FIsWord.kp T.bIsWord .nil pass0 (pa_cons (pe_ix (r := rIxT K) ix_tup (pv 1) pe_int (fun _ _ => rfl)) (pa_cons pe_str (pa_cons pe_int pa_nil)))))) (pss_one (ps_ret (pe_lst (pa_cons pe_str (pa_cons (pe_ix (r := rIxT K) ix_tup (pv 1) pe_int (fun _ _ => rfl)) pa_nil))))) pss_nil)
      (pss_cons (ps_for PassesOwn.never rfl (pi_tup (pe_slice sl_tup (pv 1) (po_some pe_int) (po_some pe_int))) (pg_name (i := 3) scFault.nd rfl (Or.inl rfl)) (pss_one (ps_if (pt_not (pt_val (pe_call GIsWord (hr.mono (by decide)) (by rfl) T.gIsWord T.FIsWord.kp T.bIsWord .nil pass0 (pa_cons (pv 3) (pa_cons (pv 0) (pa_cons pe_int pa_nil)))))) (pss_one (ps_ret (pe_lst (pa_cons pe_str (pa_cons (pv 3) pa_nil))))) pss_nil)))
      (pss_cons (ps_if (pt_cmpR op_notIn_seq (pe_ix (r := rIxT K) ix_tup (pv 1) pe_int (fun _ _ => rfl)) (pe_lst (pa_cons pe_str (pa_cons pe_str (pa_cons pe_str pa_nil)))) rfl) (pss_one (ps_ret (pe_lst (pa_cons pe_str (pa_cons (pe_ix (r := rIxT K) ix_tup (pv 1) pe_int (fun _ _ => rfl)) pa_nil))))) pss_nil)
      (pss_cons (ps_if (pt_cmpR op_in_seq (pe_ix (r := rIxT K) ix_tup (pv 1) pe_int (fun _ _ => rfl)) (pe_lc (own := [("_law_row", 4)]) (g := gName 4) (by rfl) scFault.nd (pi_list (pv 2)) (blkOk_by (own := [("_law_row", 4)]) (N := ["_law_signs", "_law_entry_here", "_law_rows_here", "_law_form", "_law_row"]) (sc := defScope sFault) (by decide +kernel)) (fun _ _ _ _ _ => pg_name (i := 4) scFault.nd rfl (Or.inl rfl)) (fun _ _ _ _ _ => pts_nil) (fun _ _ _ _ _ => (pe_ix (r := rIxT K) ix_tup (pv 4) pe_int (fun _ _ => rfl)))) rfl) (pss_one (ps_ret (pe_lst (pa_cons pe_str (pa_cons (pe_ix (r := rIxT K) ix_tup (pv 1) pe_int (fun _ _ => rfl)) pa_nil))))) pss_nil)
      (pss_cons (ps_for PassesOwn.never rfl (pi_list (pv 2)) (pg_name (i := 4) scFault.nd rfl (Or.inl rfl)) (pss_one (ps_if (PW.pt (pw_and (pt_val (pe_call GOverL (hr.mono (by decide)) (by rfl) T.gOverL T.FOverL.kp T.bOverL .nil pass0 (pa_cons (pe_ix (r := rIxT K) ix_tup (pv 4) pe_int (fun _ _ => rfl)) (pa_cons (pe_ix (r := rIxT K) ix_tup (pv 1) pe_int (fun _ _ => rfl)) pa_nil)))) (pw_and1 (PW.pt (pw_or (pt_cmpR op_eq (pe_ix (r := rIxT K) ix_tup (pv 4) pe_int (fun _ _ => rfl)) (pe_ix (r := rIxT K) ix_tup (pv 1) pe_int (fun _ _ => rfl)) (nomark _)) (pw_or1 (pt_cmpR op_eq (pe_ix (r := rIxT K) ix_tup (pv 4) pe_int (fun _ _ => rfl)) (pe_ix (r := rIxT K) ix_tup (pv 1) pe_int (fun _ _ => rfl)) (nomark _)))))))) (pss_one (ps_ret (pe_lst (pa_cons pe_str (pa_cons (pe_ix (r := rIxT K) ix_tup (pv 1) pe_int (fun _ _ => rfl)) (pa_cons (pe_ix (r := rIxT K) ix_tup (pv 4) pe_int (fun _ _ => rfl)) pa_nil)))))) pss_nil)))
      (pss_one (ps_ret (pe_lst pa_nil)))))))), ?_⟩
    have fin : ∀ (H1 : Hp) (xs : List V), Same H H1 → xs = (faultL sg e (ps.map (·.2))).map (fun t => V.str (S t)) → ∀ p, H1 p = none → Q (.ref p) (upd H1 p (.lst xs)) := fun H1 xs s he p hp => by
      refine k p _ (s.free hp) ?_ (Same.trans s (upd_laid hp))
      rw [← he]
      exact upd_same
    obtain ⟨on, ol, os, op⟩ := id heok
    refine ⟨_, rfl, x, _, 0, _, rfl, rfl, SqT.of hx, rfl, e.n, azL, 8, (by rw [← az_S]; rfl), by have := on.1; omega, fun H1 s1 => ⟨_, rfl, ite2 (fun h1 => ?_) (fun h1 => ?_)⟩⟩
    · refine ⟨_, rfl, x, _, 0, _, rfl, rfl, SqT.of (s1 _ _ hx), rfl, (by show 2 ≤ sizeLine; decide), fin H1 _ s1 ?_⟩
      have h2 : isW azL 8 e.n = false := by simpa using h1
      unfold faultL
      rw [if_pos h2]
      simp only [List.map_cons, List.map_nil, Lt_S]
    have w1 : ¬ isW azL 8 e.n = false := by simpa using h1
    refine ⟨_, rfl, _, rfl, _, rfl, x, _, rfl, SqT.of (s1 _ _ hx), (by show ¬ (1 = 0 ∧ _); omega), fun p1 hp1 => ?_⟩
    have s2 := Same.trans s1 (upd_laid (o := .tup (cutV e.vs (some 1) (some 3))) hp1)
    have hp2 : (upd H1 p1 (.tup (cutV e.vs (some 1) (some 3)))) p1 = some (.tup [.str (S e.l), .str (S e.s)]) := upd_same
    generalize upd H1 p1 (.tup (cutV e.vs (some 1) (some 3))) = H2 at s2 hp2
    refine ⟨p1, rfl, ⟨_, SqT.of hp2⟩, for_tup (K := K) (a := p1) (xs := [.str (S e.l), .str (S e.s)]) (fun i σ H' => ∃ v3 : Option V, σ = [some (.str (S sg)), some (.ref x), some (.ref u), v3, none] ∧ Same H2 H' ∧ (1 ≤ i → isW sg 6 e.l = true) ∧ (2 ≤ i → isW sg 6 e.s = true))
      ⟨none, rfl, Same.refl _, by omega, by omega⟩ (fun i σ H' _ ⟨_, _, s, _⟩ => SqT.of (s _ _ hp2)) ?_ ?_⟩
    · rintro i y σ H3 hi ⟨v3, rfl, s3, c1, c2⟩
      have s23 := Same.trans s2 s3
      match i, hi with
      | 0, hi =>
        have hy : V.str (S e.l) = y := Option.some.inj hi
        subst hy
        refine ⟨_, rfl, _, rfl, e.l, sg, 6, rfl, by have := ol.1; omega, fun H4 s4 => ⟨_, rfl, ite2 (fun h2 => ?_) (fun h2 => ?_)⟩⟩
        · refine ⟨_, rfl, (by show 2 ≤ sizeLine; decide), fin H4 _ (Same.trans s23 s4) ?_⟩
          have h3 : isW sg 6 e.l = false := by simpa using h2
          unfold faultL
          rw [if_neg w1, if_pos h3]
          simp only [List.map_cons, List.map_nil, Lt_S]
        · have h3 : isW sg 6 e.l = true := by simpa using h2
          exact ⟨_, rfl, Same.trans s3 s4, fun _ => h3, by omega⟩
      | 1, hi =>
        have hy : V.str (S e.s) = y := Option.some.inj hi
        subst hy
        have d1 := c1 (Nat.le_refl _)
        refine ⟨_, rfl, _, rfl, e.s, sg, 6, rfl, by have := os.1; omega, fun H4 s4 => ⟨_, rfl, ite2 (fun h2 => ?_) (fun h2 => ?_)⟩⟩
        · refine ⟨_, rfl, (by show 2 ≤ sizeLine; decide), fin H4 _ (Same.trans s23 s4) ?_⟩
          have h3 : isW sg 6 e.s = false := by simpa using h2
          unfold faultL
          rw [if_neg w1, if_neg (by rw [d1]; decide), if_pos h3]
          simp only [List.map_cons, List.map_nil, Lt_S]
        · have h3 : isW sg 6 e.s = true := by simpa using h2
          exact ⟨_, rfl, Same.trans s3 s4, fun _ => d1, fun _ => h3⟩
      | n + 2, hi => simp at hi
    · rintro σ H3 ⟨v3, rfl, s3, c1, c2⟩
      have d1 := c1 (by show 1 ≤ 2; decide)
      have d2 := c2 (by show 2 ≤ 2; decide)
      have s23 := Same.trans s2 s3
      refine ⟨_, rfl, x, _, 3, _, rfl, rfl, SqT.of (s23 _ _ hx), rfl, (by show 3 ≤ sizeLine; decide), fun p4 hp4 => ⟨p4, _, rfl, .inl (SqL.of upd_same), rfl, rfl, ?_⟩⟩
      have s4 := Same.trans s23 (upd_laid (o := .lst [.str "any", .str "opening", .str "inner"]) hp4)
      generalize upd H3 p4 (.lst [.str "any", .str "opening", .str "inner"]) = H4 at s4
      rw [if_pos rfl, ← kinds_map, inV_strs]
      refine ⟨_, rfl, ite2 (fun h2 => ?_) (fun h2 => ?_)⟩
      · refine ⟨_, rfl, x, _, 3, _, rfl, rfl, SqT.of (s4 _ _ hx), rfl, (by show 2 ≤ sizeLine; decide), fin H4 _ s4 ?_⟩
        have h3 : e.p ∉ kindsL := by simpa using h2
        unfold faultL
        rw [if_neg w1, if_neg (by rw [d1]; decide), if_neg (by rw [d2]; decide), if_pos h3]
        simp only [List.map_cons, List.map_nil, Lt_S]
      have h3 : ¬ e.p ∉ kindsL := by simpa using h2
      have hR4 := hR.same s4
      refine ⟨_, rfl, x, _, 0, _, rfl, rfl, SqT.of (s4 _ _ hx), rfl, _, rfl, u, rfl, ⟨_, SqL.of hR4.1⟩, fun D2 hD2 => lc_lst (fun q : Addr × Row => V.ref q.1) (fun _ => true) (fun q => V.str (S q.2.n)) (by omega) hR4.1 hD2 (fun _ => rfl) (fun _ _ _ _ _ q => q) (fun q hq _ H3 Q3 off k3 => ⟨_, rfl, q.1, _, 0, _, rfl, rfl, SqT.of ((off q.1 (ne_of_none (hR4.2 q hq).1 hD2)).trans (hR4.2 q hq).1), rfl, k3⟩) ?_⟩
      rw [col_map]
      have s5 := Same.trans s4 (upd_laid (o := .lst (ps.map fun q => V.str (S q.2.n))) hD2)
      have hD5 : (upd H4 D2 (.lst (ps.map fun q => V.str (S q.2.n)))) D2 = some (.lst (((ps.map (·.2)).map (·.n)).map fun t => V.str (S t))) := by
        rw [upd_same, List.map_map, List.map_map]
        rfl
      generalize upd H4 D2 (.lst (ps.map fun q => V.str (S q.2.n))) = H5 at s5 hD5
      refine ⟨D2, _, rfl, .inl (SqL.of hD5), rfl, flat_strs _, ?_⟩
      rw [if_neg Bool.false_ne_true, inV_strs]
      refine ⟨_, rfl, ite2 (fun h4 => ?_) (fun h4 => ?_)⟩
      · refine ⟨_, rfl, x, _, 0, _, rfl, rfl, SqT.of (s5 _ _ hx), rfl, (by show 2 ≤ sizeLine; decide), fin H5 _ s5 ?_⟩
        unfold faultL
        rw [if_neg w1, if_neg (by rw [d1]; decide), if_neg (by rw [d2]; decide), if_neg h3, if_pos (of_decide_eq_true h4)]
        simp only [List.map_cons, List.map_nil, Lt_S]
      have h5 : ¬ e.n ∈ (ps.map (·.2)).map (·.n) := fun z => h4 (decide_eq_true z)
      have hR5 := hR.same s5
      refine ⟨_, rfl, u, rfl, ⟨_, SqL.of hR5.1⟩, for_list (K := K) (a := u) (xs := ps.map fun q => V.ref q.1) (fun i σ H' => H' = H5 ∧ (∃ v3 v4 : Option V, σ = [some (.str (S sg)), some (.ref x), some (.ref u), v3, v4]) ∧ ∀ r ∈ (ps.map (·.2)).take i, confB r e = false)
        ⟨rfl, ⟨_, _, rfl⟩, by simp⟩ (fun i σ H' _ ⟨e, _⟩ => SqL.of (by rw [e]; exact hR5.1)) ?_ ?_⟩
      · rintro i y σ H6 hi ⟨rfl, ⟨v3, v4, rfl⟩, hno⟩
        obtain ⟨q, hq, rfl⟩ : ∃ q, ps[i]? = some q ∧ y = V.ref q.1 := by
          rw [List.getElem?_map] at hi
          cases ee : ps[i]? with
          | none => rw [ee] at hi; cases hi
          | some z => rw [ee] at hi; exact ⟨z, rfl, (Option.some.inj hi).symm⟩
        have hqm := List.mem_of_getElem? hq
        have hqt := (hR5.2 q hqm).1
        have hq2 : (ps.map (·.2))[i]? = some q.2 := by rw [List.getElem?_map, hq]; rfl
        have step : confB q.2 e = false → ∀ r ∈ (ps.map (·.2)).take (i + 1), confB r e = false := fun hf r hr => by
          rw [List.take_add_one, hq2] at hr
          rcases List.mem_append.mp hr with h | h
          · exact hno r h
          · have : r = q.2 := by simpa using h
            rw [this]
            exact hf
        have found : confB q.2 e = true → faultL sg e (ps.map (·.2)) = [Lt "Conflict", e.n, q.2.n] := fun hf => by
          have hfind : (ps.map (·.2)).find? (fun r => confB r e) = some q.2 := by
            rw [List.find?_eq_some_iff_append]
            refine ⟨hf, (ps.map (·.2)).take i, (ps.map (·.2)).drop (i + 1), ?_, fun r hr => ?_⟩
            · have hil : i < (ps.map (·.2)).length := (List.getElem?_eq_some_iff.mp hq2).1
              have hg := (List.getElem?_eq_some_iff.mp hq2).2
              rw [← hg, ← List.drop_eq_getElem_cons hil, List.take_append_drop]
            · rw [hno r hr]
              rfl
          unfold faultL
          rw [if_neg w1, if_neg (by rw [d1]; decide), if_neg (by rw [d2]; decide), if_neg h3, if_neg h5, hfind]
        refine ⟨_, rfl, q.1, _, 3, _, rfl, rfl, SqT.of hqt, rfl, _, rfl, x, _, 3, _, rfl, rfl, SqT.of (s5 _ _ hx), rfl, q.2.p, e.p, rfl, _, rfl, ite2 (fun h6 => ?_) (fun h6 => iteF ⟨rfl, ⟨_, _, rfl⟩, step (by unfold confB; rw [Bool.eq_false_iff.mpr h6, Bool.false_and])⟩)⟩
        have ret : confB q.2 e = true → ∀ p, H6 p = none → Q (.ref p) (upd H6 p (.lst [.str "Conflict", .str (S e.n), .str (S q.2.n)])) := fun hf => fin H6 _ s5 (by
          rw [found hf]
          simp only [List.map_cons, List.map_nil, Lt_S])
        refine ⟨_, rfl, q.1, _, 1, _, rfl, rfl, SqT.of hqt, rfl, _, rfl, x, _, 1, _, rfl, rfl, SqT.of (s5 _ _ hx), rfl, rfl, ?_⟩
        rw [S_eq_iff]
        refine ⟨_, rfl, ite2 (fun h7 => iteT ?_) (fun h7 => ?_)⟩
        · refine ⟨_, rfl, x, _, 0, _, rfl, rfl, SqT.of (s5 _ _ hx), rfl, _, rfl, q.1, _, 0, _, rfl, rfl, SqT.of hqt, rfl, (by show 3 ≤ sizeLine; decide), ret ?_⟩
          unfold confB
          rw [h6, h7]
          rfl
        · refine ⟨_, rfl, q.1, _, 2, _, rfl, rfl, SqT.of hqt, rfl, _, rfl, x, _, 2, _, rfl, rfl, SqT.of (s5 _ _ hx), rfl, rfl, ?_⟩
          rw [S_eq_iff]
          refine ⟨_, rfl, ite2 (fun h8 => ?_) (fun h8 => ⟨rfl, ⟨_, _, rfl⟩, step (by unfold confB; rw [Bool.eq_false_iff.mpr h7, Bool.eq_false_iff.mpr h8, Bool.or_false, Bool.and_false])⟩)⟩
          refine ⟨_, rfl, x, _, 0, _, rfl, rfl, SqT.of (s5 _ _ hx), rfl, _, rfl, q.1, _, 0, _, rfl, rfl, SqT.of hqt, rfl, (by show 3 ≤ sizeLine; decide), ret ?_⟩
          unfold confB
          rw [h6, h8, Bool.or_true]
          rfl
      · rintro σ H6 ⟨rfl, ⟨v3, v4, rfl⟩, hno⟩
        refine ⟨Nat.zero_le _, fin H6 _ s5 ?_⟩
        have hlen : (ps.map fun q => V.ref q.1).length = (ps.map (·.2)).length := by rw [List.length_map, List.length_map]
        rw [hlen, List.take_length] at hno
        have hfind : (ps.map (·.2)).find? (fun r => confB r e) = none := by
          rw [List.find?_eq_none]
          intro r hr
          rw [hno r hr]
          decide
        unfold faultL
        rw [if_neg w1, if_neg (by rw [d1]; decide), if_neg (by rw [d2]; decide), if_neg h3, if_neg h5, hfind]
        rfl
end
end Vk
set_option Elab.async false
set_option linter.all false
set_option maxRecDepth 100000
set_option maxHeartbeats 8000000
namespace Vk
open PySem PySem.Spec PyProof.Rows L2
theorem dp_all {K : PySem.W.Frag} {H : Hp} : ∀ ys : List Str, DpAll K H (ys.map V.str) (ys.map PyData.str)
  | [] => .nil
  | y :: ys => .cons (.str y) (dp_all ys)
theorem dp_strs {K : PySem.W.Frag} {H : Hp} {a : Addr} {ys : List Str} (h : SqL K H a (ys.map V.str)) : Dp K H (.ref a) (.list (ys.map PyData.str)) := .lst h (dp_all ys)
theorem can_strs : ∀ ys : List Str, (∀ y ∈ ys, PyData.strOk y = true) → PyData.canLayAll0 (ys.map PyData.str) = true
  | [], _ => by simp [PyData.canLayAll0]
  | y :: r, h => by
    have h1 := h y List.mem_cons_self
    have h2 := can_strs r fun z hz => h z (List.mem_cons_of_mem _ hz)
    simp [PyData.canLayAll0, PyData.canLay0, h1, h2]
theorem dep_strs : ∀ ys : List Str, PyData.depthAll (ys.map PyData.str) = 0
  | [] => by simp [PyData.depthAll]
  | _ :: r => by simp [PyData.depthAll, PyData.depth, dep_strs r]
theorem shaped_strs {ys : List Str} (h : ∀ y ∈ ys, PyData.strOk y = true) : SeqAt.shaped (.list (ys.map PyData.str)) = true := by
  simp [SeqAt.shaped, PyData.canLay0, PyData.depth, can_strs ys h, dep_strs]
theorem wide_ok {t : List Nat} (h : ∀ c ∈ t, c < 0x110000) : PyData.strOk (S t) = true := by
  show t.toArray.all (fun c => decide (c < 0x110000)) = true
  simp
  exact h
theorem fault_wide {sg : List Nat} {e : Row} {rs : List Row} (he : e.ok) (hr : ∀ r ∈ rs, r.ok) : ∀ t ∈ faultL sg e rs, ∀ c ∈ t, c < 0x110000 := by
  have l1 : ∀ c ∈ Lt "BadName", c < 0x110000 := by decide +kernel
  have l2 : ∀ c ∈ Lt "BadForm", c < 0x110000 := by decide +kernel
  have l3 : ∀ c ∈ Lt "UnknownPlace", c < 0x110000 := by decide +kernel
  have l4 : ∀ c ∈ Lt "DuplicateName", c < 0x110000 := by decide +kernel
  have l5 : ∀ c ∈ Lt "Conflict", c < 0x110000 := by decide +kernel
  obtain ⟨on, ol, os, op⟩ := he
  have two : ∀ {x y : List Nat}, (∀ c ∈ x, c < 0x110000) → (∀ c ∈ y, c < 0x110000) → ∀ t ∈ [x, y], ∀ c ∈ t, c < 0x110000 := fun {x y} h1 h2 t ht => by
    rcases List.mem_cons.mp ht with rfl | ht
    · exact h1
    · rw [List.mem_singleton] at ht
      subst ht
      exact h2
  unfold faultL
  split
  · exact two l1 on.2
  · split
    · exact two l2 ol.2
    · split
      · exact two l2 os.2
      · split
        · exact two l3 op.2
        · split
          · exact two l4 on.2
          · split
            · rename_i r hf
              intro t ht
              have hm := List.mem_of_find?_eq_some hf
              rcases List.mem_cons.mp ht with rfl | ht
              · exact l5
              · exact two on.2 (hr r hm).1.2 t ht
            · intro t ht
              cases ht
def firstF (sg : List Nat) : List Row → List Row → List (List Nat)
  | _, [] => []
  | es, r :: rest => if faultL sg r es = [] then firstF sg (es ++ [r]) rest else faultL sg r es
theorem firstF_cons (sg : List Nat) (es : List Row) (r : Row) (rest : List Row) : firstF sg es (r :: rest) = if faultL sg r es = [] then firstF sg (es ++ [r]) rest else faultL sg r es := by
  conv => lhs; unfold firstF
theorem firstF_nil (sg : List Nat) (es : List Row) : firstF sg es [] = [] := by
  unfold firstF
  rfl
def dueV (sg : List Nat) (rs : List Row) : List V := if 8 < rs.length then [.str "TooMany", .int 8] else if firstF sg [] rs = [] then [.str "book"] else (firstF sg [] rs).map fun t => V.str (S t)
theorem cut_to (xs : List V) (k : Nat) : cutV xs none (some (k : Int)) = xs.take k := by
  unfold cutV
  rw [HT.sIx_none, HT.sIx_nat, List.drop_zero, Nat.sub_zero, ← List.take_take, List.take_length]
theorem cut_from (xs : List V) (k : Nat) : cutV xs (some (k : Int)) none = xs.drop k := by
  unfold cutV
  rw [HT.sIx_none, HT.sIx_nat]
  by_cases h : k ≤ xs.length
  · rw [Nat.min_eq_left h]
    exact List.take_of_length_le (by rw [List.length_drop]; exact Nat.le_refl _)
  · rw [Nat.min_eq_right (by omega), List.drop_length, List.drop_eq_nil_of_le (by omega), List.take_nil]
section
variable {P : Program} {w : World} {K : PySem.W.Frag} {mg : Str → Option Value} {base : Heap} {a : Ad} {d : Fd}
def spOver : Sp := spOverL
theorem scOver : FnScope ["place", "other"] ["place", "other"] (defScope sOver) := ⟨rfl, rfl, rfl, by decide +kernel, rfl, by decide +kernel, by decide +kernel⟩
theorem ok_over (T : Fns K mg a d) : FnOk P w K mg base CX0 1 a.aOver d.dOver ["place", "other"] spOverL := by
  refine T.FOver.ok scOver (fun vs H Q E h => ?_) (fun cdv A outer s H vs Q E hr h => ?_)
  · obtain ⟨p, o, rfl, _⟩ := h
    rfl
  · obtain ⟨p, o, rfl, k⟩ := h
    refine ⟨_, (pss_one (ps_ret (pe_or (pe_cmpR op_eq (pv 0) (pv 1) (nomark _)) (pe_or (pe_cmpR op_eq (pv 0) pe_str (nomark _)) (pe_one (pe_cmpR op_eq (pv 1) pe_str (nomark _))))))), ?_⟩
    unfold ovB at k
    refine ⟨_, rfl, _, rfl, rfl, ?_⟩
    rw [S_eq_iff]
    refine ⟨_, rfl, ite2 (fun h1 => by rw [h1, Bool.true_or] at k; exact k) (fun h1 => ?_)⟩
    rw [Bool.eq_false_iff.mpr h1, Bool.false_or] at k
    refine ⟨_, rfl, rfl, ?_⟩
    rw [any_S, S_eq_iff]
    refine ⟨_, rfl, ite2 (fun h2 => by rw [h2, Bool.true_or] at k; exact k) (fun h2 => ?_)⟩
    rw [Bool.eq_false_iff.mpr h2, Bool.false_or] at k
    refine ⟨_, rfl, rfl, ?_⟩
    rw [S_eq_iff]
    exact k
def spConf : Sp := fun vs H Q _ => ∃ (x y : Addr) (e o : Row), vs = [.ref x, .ref y] ∧ H x = some (.tup e.vs) ∧ H y = some (.tup o.vs) ∧ Q (.bl (confB o e)) H
theorem ov_comm (p o : List Nat) : ovB p o = ovB o p := by
  unfold ovB
  rw [decide_eq_decide.mpr (Eq.comm (a := p) (b := o)), Bool.or_comm (decide (p = anyL))]
theorem scConf : FnScope ["entry", "other"] ["entry", "other"] (defScope sConf) := ⟨rfl, rfl, rfl, by decide +kernel, rfl, by decide +kernel, by decide +kernel⟩
theorem ok_conf (T : Fns K mg a d) : FnOk P w K mg base CX0 2 a.aConf d.dConf ["entry", "other"] spConf := by
  have GOver : FnOk P w K mg base CX0 1 a.aOver d.dOver ["place", "other"] spOverL := ok_over T
  refine T.FConf.ok scConf (fun vs H Q E h => ?_) (fun cdv A outer s H vs Q E hr h => ?_)
  · obtain ⟨x, y, e, o, rfl, _⟩ := h
    rfl
  · obtain ⟨x, y, e, o, rfl, hx, hy, k⟩ := h
    refine ⟨_, (pss_one (ps_ret (pe_and (pe_call GOver (hr.mono (by decide)) (by rfl) T.gOver T.FOver.kp T.bOver .nil pass0 (pa_cons (pe_ix (r := rIxT K) ix_tup (pv 0) pe_int (fun _ _ => rfl)) (pa_cons (pe_ix (r := rIxT K) ix_tup (pv 1) pe_int (fun _ _ => rfl)) pa_nil))) (pe_one (pe_or (pe_cmpR op_eq (pe_ix (r := rIxT K) ix_tup (pv 0) pe_int (fun _ _ => rfl)) (pe_ix (r := rIxT K) ix_tup (pv 1) pe_int (fun _ _ => rfl)) (nomark _)) (pe_one (pe_cmpR op_eq (pe_ix (r := rIxT K) ix_tup (pv 0) pe_int (fun _ _ => rfl)) (pe_ix (r := rIxT K) ix_tup (pv 1) pe_int (fun _ _ => rfl)) (nomark _)))))))), ?_⟩
    unfold confB at k
    rw [ov_comm, decide_eq_decide.mpr (Eq.comm (a := o.l) (b := e.l)), decide_eq_decide.mpr (Eq.comm (a := o.s) (b := e.s))] at k
    refine ⟨_, rfl, x, _, 3, _, rfl, rfl, SqT.of hx, rfl, _, rfl, y, _, 3, _, rfl, rfl, SqT.of hy, rfl, e.p, o.p, rfl, _, rfl, ite2 (fun h1 => ?_) (fun h1 => by rw [Bool.eq_false_iff.mpr h1, Bool.false_and] at k; exact k)⟩
    rw [h1, Bool.true_and] at k
    refine ⟨_, rfl, x, _, 1, _, rfl, rfl, SqT.of hx, rfl, _, rfl, y, _, 1, _, rfl, rfl, SqT.of hy, rfl, rfl, ?_⟩
    rw [S_eq_iff]
    refine ⟨_, rfl, ite2 (fun h2 => by rw [h2, Bool.true_or] at k; exact k) (fun h2 => ?_)⟩
    rw [Bool.eq_false_iff.mpr h2, Bool.false_or] at k
    refine ⟨_, rfl, x, _, 2, _, rfl, rfl, SqT.of hx, rfl, _, rfl, y, _, 2, _, rfl, rfl, SqT.of hy, rfl, rfl, ?_⟩
    rw [S_eq_iff]
    exact k
end
end Vk
set_option Elab.async false
set_option linter.all false
set_option maxRecDepth 100000
set_option maxHeartbeats 8000000
namespace Vk
open PySem PySem.Spec PyProof.Rows L2
def charsZ : Str := PySem.Str.ofString " !\"#$&'()*+,-./0123456789:;<=>?@ABCDEFGHIJKLMNOPQRSTUVWXYZ[\\]^_`" ++ PySem.Str.ofString "abcdefghijklmnopqrstuvwxyz{|}~"
def charsL : List Nat := charsZ.cps.toList
theorem chars_len : charsL.length ≤ 200 := by decide +kernel
theorem chars_wide : ∀ c ∈ charsL, c < 0x110000 := by decide +kernel
theorem chars_sp : 32 ∈ charsL := by decide +kernel
section
variable {P : Program} {w : World} {K : PySem.W.Frag} {mg : Str → Option Value} {base : Heap} {a : Ad} {d : Fd}
def spOdd : Sp := fun vs H Q _ => ∃ (b g : Addr) (t sg : List Nat) (m : Nat), vs = [.ref b, .str (S t), .str (S sg), .int (m : Int)] ∧ BoxB H b g ∧ Tx t ∧ 1 ≤ sg.length ∧ sg.length ≤ 100 ∧ WideOk sg ∧ 32 ∉ sg ∧ 1 ≤ m ∧ m ≤ 8 ∧
  ∀ (t2 : List Nat) (H' : Hp), Tx t2 → BoxB H' b g → Kp2 b g H H' → Q (.str (S t2)) H'
theorem scOdd : FnScope ["_law_box_here", "_law_word_here", "_law_signs", "_law_most", "_law_way", "_law_chars", "_law_strange", "_law_char", "_law_at"] ["_law_box_here", "_law_word_here", "_law_signs", "_law_most"] (defScope sOdd) := ⟨rfl, rfl, rfl, by decide +kernel, rfl, by decide +kernel, by decide +kernel⟩
theorem ok_odd (T : Fns K mg a d) : FnOk P w K mg base CX0 2 a.aOdd d.dOdd ["_law_box_here", "_law_word_here", "_law_signs", "_law_most"] spOdd := by
  have GDraw : FnOk P w K mg base CX0 1 a.aDraw d.dDraw ["_law_box_here", "_law_many"] spDraw := gDraw T
  refine T.FOdd.ok scOdd (fun vs H Q E h => ?_) (fun cdv A outer s H vs Q E hr h => ?_)
  · obtain ⟨b, g, t, sg, m, rfl, _⟩ := h
    rfl
  · obtain ⟨b, g, t, sg, m, rfl, hB, ht, hs1, hs2, hsw, h32, hm1, hm2, k⟩ := h
    refine ⟨_, (pss_cons (ps_set (i := 4) scOdd.nd rfl (Or.inl rfl) (pe_call GDraw (hr.mono (by decide)) (by rfl) T.gDraw T.FDraw.kp T.bDraw .nil pass0 (pa_cons (pv 0) (pa_cons pe_int pa_nil))))
      (pss_cons (ps_if (pt_cmpR op_eq (pv 4) pe_int (nomark _)) (pss_one (ps_ret pe_str)) pss_nil)
      (pss_cons (ps_if (pt_cmpR op_eq (pv 4) pe_int (nomark _)) (pss_one (ps_ret (pe_slice sl_str (pe_op op_add_str (pe_op op_mulT (pv 1) pe_int) (pe_op op_mulT (pe_ix ix_str (pv 2) (pe_un un_neg pe_int) (fun _ _ => rfl)) pe_int)) po_none (po_some (pe_op op_add (pv 3) pe_int))))) pss_nil)
      (pss_cons (ps_set (i := 5) scOdd.nd rfl (Or.inl rfl) pe_str)
      (pss_cons (ps_set (i := 5) scOdd.nd rfl (Or.inl rfl) (pe_op op_add_str (pv 5) pe_str))
      (pss_cons (ps_setLc (i := 6) (own := [("_law_char", 7)]) (g := gName 7) (by rfl) scOdd.nd rfl rfl (by rfl) (pi_str (pv 5)) (blkOk_by (own := [("_law_char", 7)]) (N := ["_law_box_here", "_law_word_here", "_law_signs", "_law_most", "_law_way", "_law_chars", "_law_strange", "_law_char", "_law_at"]) (sc := defScope sOdd) (by decide +kernel)) (fun _ _ _ _ _ => pg_name (i := 7) scOdd.nd rfl (Or.inl rfl)) (fun _ _ _ _ _ => (pts_one (pt_cmpR op_notIn_sign (pv 7) (pv 2) rfl))) (fun _ _ _ _ _ => (pv 7)))
      (pss_cons (ps_set (i := 1) scOdd.nd rfl (Or.inl rfl) (pe_slice sl_str (pv 1) po_none (po_some (pe_op op_sub (pv 3) pe_int))))
      (pss_cons (ps_set (i := 8) scOdd.nd rfl (Or.inl rfl) (pe_call GDraw (hr.mono (by decide)) (by rfl) T.gDraw T.FDraw.kp T.bDraw .nil pass0 (pa_cons (pv 0) (pa_cons (pe_op op_add (pe_callB call_len_str (by rfl) T.z_len (by decide +kernel) (pa_cons (pv 1) pa_nil)) pe_int) pa_nil))))
      (pss_one (ps_ret (pe_op op_add_str (pe_op op_add_str (pe_slice sl_str (pv 1) po_none (po_some (pv 8))) (pe_ix (r := rIxL K) ix_list (pv 6) (pe_call GDraw (hr.mono (by decide)) (by rfl) T.gDraw T.FDraw.kp T.bDraw .nil pass0 (pa_cons (pv 0) (pa_cons (pe_callB call_len_seq (by rfl) T.z_len (by decide +kernel) (pa_cons (pv 6) pa_nil)) pa_nil))) (fun _ _ => rfl))) (pe_slice sl_str (pv 1) (po_some (pv 8)) po_none)))))))))))), ?_⟩
    have htl : (S t).length ≤ sizeLine := sz4 (by rw [S_len]; have := ht.1; omega)
    have hsl : (S sg).length ≤ sizeLine := sz4 (by rw [S_len]; omega)
    obtain ⟨e, he1, he2⟩ := atI_last (l := sg) (by omega)
    have hem := List.mem_of_getElem? he2
    have htlen := ht.1
    refine ⟨_, rfl, b, g, _, rfl, hB, by decide, fun way H1 hw hB1 hk1 => ?_⟩
    refine ⟨_, rfl, rfl, _, rfl, ite2 (fun h => ?_) (fun h => ⟨_, rfl, rfl, _, rfl, ite2 (fun h => ?_) (fun h => ?_)⟩)⟩
    · have e0 : PySem.Str.ofString "" = S [] := by decide +kernel
      rw [e0]
      exact k [] H1 ⟨by decide, by simp⟩ hB1 hk1
    · refine ⟨_, rfl, t, 9, rfl, rfl, by omega, by omega, _, rfl, _, rfl, S sg, _, e, rfl, rfl, hsl, he1, [e], 9, rfl, rfl, (by show 1 * 9 ≤ 4000; decide), by decide, _, _, rfl, rfl, ?_, ?_⟩
      · rw [S_len, S_len, repL_len, repL_len]
        exact sz4 (by show 9 * t.length + 9 * 1 ≤ 4000; omega)
      · refine ⟨_, rfl, _, _, rfl, rfl, _, rfl, _, rfl, ?_, ?_⟩
        · rw [alen, S_len, S_len, repL_len, repL_len]
          exact sz4 (by show 9 * t.length + 9 * 1 ≤ 4000; omega)
        · have e1 : ((m : Int) + 1) = ((m + 1 : Nat) : Int) := by omega
          have q := k ((repL 9 t ++ repL 9 [e]).take (m + 1)) H1 ⟨?_, ?_⟩ hB1 hk1
          · rw [← S_to, ← S_app, ← e1] at q
            exact q
          · rw [List.length_take]
            omega
          · intro c hc
            rcases List.mem_append.mp (List.mem_of_mem_take hc) with h | h
            · exact ht.2 c (rep_mem h)
            · have := rep_mem h
              rw [List.mem_singleton] at this
              rw [this]
              exact hsw e hem
    · refine ⟨_, rfl, _, _, rfl, rfl, by decide +kernel, ?_⟩
      have hz : PySem.Str.ofString " !\"#$&'()*+,-./0123456789:;<=>?@ABCDEFGHIJKLMNOPQRSTUVWXYZ[\\]^_`" ++ PySem.Str.ofString "abcdefghijklmnopqrstuvwxyz{|}~" = S charsL := S_of charsZ
      rw [hz]
      have hcl := chars_len
      refine ⟨_, rfl, _, rfl, fun D hD => lc_text (fun c => !decide (c ∈ sg)) (fun c => V.str (S [c])) (by omega) (fun _ => rfl) (fun c hc H3 Q3 _ q => ⟨_, rfl, _, rfl, c, S sg, rfl, rfl, _, rfl, by rw [S_cps]; exact q⟩) (fun c hc _ H3 Q3 _ q => ⟨_, rfl, q⟩) ?_⟩
      have s2 : Same H1 (upd H1 D (.lst ((charsL.filter fun c => !decide (c ∈ sg)).map fun c => V.str (S [c])))) := upd_laid hD
      have hD2 : (upd H1 D (.lst ((charsL.filter fun c => !decide (c ∈ sg)).map fun c => V.str (S [c])))) D = some (.lst ((charsL.filter fun c => !decide (c ∈ sg)).map fun c => V.str (S [c]))) := upd_same
      have hB2 := hB1.same s2
      have k2 := hk1.trans (Same.kp2 s2 b g)
      obtain ⟨⟨ob, hob⟩, ⟨og, hog⟩⟩ := hB1.al
      have hDb : D ≠ b ∧ D ≠ g := ⟨(ne_of_none hob hD).symm, (ne_of_none hog hD).symm⟩
      have hfl := List.length_filter_le (fun c => !decide (c ∈ sg)) charsL
      have hsp : 32 ∈ charsL.filter fun c => !decide (c ∈ sg) := List.mem_filter.mpr ⟨chars_sp, by simpa using h32⟩
      have hfp := List.length_pos_of_mem hsp
      have hfw : ∀ c ∈ charsL.filter fun c => !decide (c ∈ sg), c < 0x110000 := fun c hc => chars_wide c (List.mem_filter.mp hc).1
      generalize upd H1 D (.lst ((charsL.filter fun c => !decide (c ∈ sg)).map fun c => V.str (S [c]))) = H2 at hD2 hB2 k2
      generalize (charsL.filter fun c => !decide (c ∈ sg)) = st at hD2 hfl hfp hfw
      refine ⟨_, rfl, _, rfl, _, _, rfl, rfl, _, rfl, S t, rfl, htl, ?_⟩
      have e1 : ((m : Int) - 1) = ((m - 1 : Nat) : Int) := by omega
      have ecut : cutS (S t) none (some ((fun i j : Int => i - j) (m : Int) 1)) = S (t.take (m - 1)) := by
        show cutS (S t) none (some ((m : Int) - 1)) = _
        rw [e1, S_to]
      have htk : (t.take (m - 1)).length ≤ 100 := by rw [List.length_take]; omega
      have htw : ∀ c ∈ t.take (m - 1), c < 0x110000 := fun c hc => ht.2 c (List.mem_of_mem_take hc)
      have htk2 : (t.take (m - 1)).length ≤ 7 := by rw [List.length_take]; omega
      have fin : ∀ tt : List Nat, tt.length ≤ 7 → (∀ c ∈ tt, c < 0x110000) → ∀ z : Str, z = S tt → (S tt).length ≤ sizeLine → True := fun _ _ _ _ _ _ => trivial
      first
        | rw [ecut]
        | (rw [show cutS (S t) none (some ((m : Int) - 1)) = S (t.take (m - 1)) from ecut])
      generalize t.take (m - 1) = tt at htk htw htk2
      have httl : (S tt).length ≤ sizeLine := sz4 (by rw [S_len]; omega)
      refine ⟨_, rfl, _, rfl, _, rfl, httl, _, _, rfl, rfl, b, g, _, rfl, hB2, by rw [S_len]; omega, fun r H3 hr3 hB3 hk3 => ?_⟩
      refine ⟨_, rfl, _, rfl, _, rfl, S tt, rfl, httl, _, rfl, _, rfl, _, rfl, D, _, rfl, .inl (SqL.of (hk3 _ _ hDb.1 hDb.2 hD2)), b, g, _, rfl, hB3, by rw [List.length_map]; omega, fun r2 H4 hr4 hB4 hk4 => ?_⟩
      rw [List.length_map] at hr4
      obtain ⟨c, hc⟩ : ∃ c, st[r2]? = some c := ⟨_, List.getElem?_eq_getElem (by omega)⟩
      have hat : (st.map fun c => V.str (S [c]))[r2]? = some (V.str (S [c])) := by rw [List.getElem?_map, hc]; rfl
      rw [S_to]
      refine ⟨D, _, _, _, rfl, rfl, SqL.of (hk4 _ _ hDb.1 hDb.2 (hk3 _ _ hDb.1 hDb.2 hD2)), atI_nat hat, _, _, rfl, rfl, ?_, _, rfl, _, rfl, _, rfl, S tt, rfl, httl, _, _, rfl, rfl, ?_, ?_⟩
      · rw [S_len, S_len, List.length_take]
        exact sz4 (by show min r tt.length + 1 ≤ 4000; omega)
      · rw [S_from, alen, S_len, S_len, S_len, List.length_take, List.length_drop]
        exact sz4 (by show min r tt.length + 1 + (tt.length - r) ≤ 4000; omega)
      · rw [S_from, S_app, S_app]
        refine k _ H4 ⟨?_, ?_⟩ hB4 (k2.trans (hk3.trans hk4))
        · rw [List.length_append, List.length_append, List.length_take, List.length_drop]
          show min r tt.length + 1 + (tt.length - r) ≤ 100
          omega
        · intro x hx
          rcases List.mem_append.mp hx with hx | hx
          · rcases List.mem_append.mp hx with hx | hx
            · exact htw x (List.mem_of_mem_take hx)
            · rw [List.mem_singleton] at hx
              rw [hx]
              exact hfw c (List.mem_of_getElem? hc)
          · exact htw x (List.mem_of_mem_drop hx)
end
end Vk
set_option Elab.async false
set_option linter.all false
set_option maxRecDepth 100000
set_option maxHeartbeats 8000000
namespace Vk
open PySem PySem.Spec PyProof.Rows L2
def wrongL : List (List Nat) := [Lt "", Lt "Any", Lt "any ", Lt " inner", Lt "start", Lt "letter", Lt "joint", Lt "openin", Lt "inners", Lt "OPENING", Lt "all", Lt "anyinner"]
def wrongV : List V := [.str "", .str "Any", .str "any ", .str " inner", .str "start", .str "letter", .str "joint", .str "openin", .str "inners", .str "OPENING", .str "all", .str "anyinner"]
theorem wrong_eq : wrongV = wrongL.map fun t => V.str (S t) := by
  show wrongV = [V.str (S (Lt "")), .str (S (Lt "Any")), .str (S (Lt "any ")), .str (S (Lt " inner")), .str (S (Lt "start")), .str (S (Lt "letter")), .str (S (Lt "joint")), .str (S (Lt "openin")), .str (S (Lt "inners")), .str (S (Lt "OPENING")), .str (S (Lt "all")), .str (S (Lt "anyinner"))]
  simp only [Lt_S]
  rfl
theorem wrong_tx : ∀ t ∈ wrongL, Tx t := by unfold Tx; decide +kernel
def Row.put (r : Row) (j : Nat) (t : List Nat) : Row := match j with
  | 0 => {r with n := t}
  | 1 => {r with l := t}
  | 2 => {r with s := t}
  | _ => {r with p := t}
theorem put_vs (r : Row) {j : Nat} (t : List Nat) (h : j ≤ 3) : r.vs.set j (.str (S t)) = (r.put j t).vs := by
  match j, h with
  | 0, _ => rfl
  | 1, _ => rfl
  | 2, _ => rfl
  | 3, _ => rfl
theorem put_ok {r : Row} {j : Nat} {t : List Nat} (hr : r.ok) (ht : Tx t) : (r.put j t).ok := by
  obtain ⟨h1, h2, h3, h4⟩ := hr
  unfold Row.put
  split
  · exact ⟨ht, h2, h3, h4⟩
  · exact ⟨h1, ht, h3, h4⟩
  · exact ⟨h1, h2, ht, h4⟩
  · exact ⟨h1, h2, h3, ht⟩
theorem vs_at {r : Row} (hr : r.ok) {j : Nat} (h : j ≤ 3) : ∃ t, r.vs[j]? = some (.str (S t)) ∧ Tx t := by
  obtain ⟨h1, h2, h3, h4⟩ := hr
  match j, h with
  | 0, _ => exact ⟨_, rfl, h1⟩
  | 1, _ => exact ⟨_, rfl, h2⟩
  | 2, _ => exact ⟨_, rfl, h3⟩
  | 3, _ => exact ⟨_, rfl, h4⟩
theorem rowsApp {H : Hp} {u : Addr} {xs : List (Addr × Row)} (h : H u = some (.lst (xs.map fun q => V.ref q.1))) (h2 : ∀ q ∈ xs, H q.1 = some (.tup q.2.vs) ∧ q.2.ok) : RowsAt H u xs := ⟨h, h2⟩
/-- what holds between the ifs of `_law_spoilt` -/
structure SpI (H0 : Hp) (b g u : Addr) (ps : List (Addr × Row)) (wr o : Addr) (ro : Row) (rw : Addr) (H : Hp) (r : Row) : Prop where
  hB : BoxB H b g
  k : Kp2 b g H0 H
  hR : RowsAt H u ps
  ho : H o = some (.tup ro.vs)
  hro : ro.ok
  hrw : H rw = some (.lst r.vs)
  hr : r.ok
  hwr : H wr = some (.lst wrongV)
  n1 : H0 rw = none
  n2 : wr ≠ rw
  nb : rw ≠ b ∧ rw ≠ g ∧ u ≠ rw
  wb : wr ≠ b ∧ wr ≠ g
  ub : u ≠ b ∧ u ≠ g
theorem SpI.asg {H0 : Hp} {b g u : Addr} {ps : List (Addr × Row)} {wr o : Addr} {ro : Row} {rw : Addr} {H : Hp} {r : Row} (h : SpI H0 b g u ps wr o ro rw H r) {j : Nat} {t : List Nat} (hj : j ≤ 3) (ht : Tx t) :
    SpI H0 b g u ps wr o ro rw (upd H rw (.lst (r.vs.set j (.str (S t))))) (r.put j t) := by
  have nt : ∀ {x : Addr} {xs : List V}, H x = some (.tup xs) → x ≠ rw := fun {x xs} hx z => by
    rw [z, h.hrw] at hx
    cases hx
  refine ⟨?_, ?_, ⟨?_, fun q hq => ?_⟩, ?_, h.hro, ?_, put_ok h.hr ht, ?_, h.n1, h.n2, h.nb, h.wb, h.ub⟩
  · obtain ⟨x, mm, sd, gs, h1, h2, h3⟩ := h.hB
    exact ⟨x, mm, sd, gs, by rw [upd_ne h.nb.1.symm]; exact h1, by rw [upd_ne h.nb.2.1.symm]; exact h2, h3⟩
  · intro c o2 h1 h2 h3
    have hne : c ≠ rw := ne_of_none h3 h.n1
    rw [upd_ne hne]
    exact h.k c o2 h1 h2 h3
  · rw [upd_ne h.nb.2.2]
    exact h.hR.1
  · obtain ⟨h1, h2⟩ := h.hR.2 q hq
    exact ⟨by rw [upd_ne (nt h1)]; exact h1, h2⟩
  · rw [upd_ne (nt h.ho)]
    exact h.ho
  · rw [upd_same, put_vs r t hj]
  · rw [upd_ne h.n2]
    exact h.hwr
theorem SpI.draw {H0 : Hp} {b g u : Addr} {ps : List (Addr × Row)} {wr o : Addr} {ro : Row} {rw : Addr} {H H' : Hp} {r : Row} (h : SpI H0 b g u ps wr o ro rw H r) (hB : BoxB H' b g) (k : Kp2 b g H H') : SpI H0 b g u ps wr o ro rw H' r := by
  obtain ⟨t1, t2⟩ := tup_box h.hB h.ho
  exact ⟨hB, h.k.trans k, h.hR.kp h.hB h.ub k, k _ _ t1 t2 h.ho, h.hro, k _ _ h.nb.1 h.nb.2.1 h.hrw, h.hr, k _ _ h.wb.1 h.wb.2 h.hwr, h.n1, h.n2, h.nb, h.wb, h.ub⟩
theorem ixN_w {k n : Nat} (h : k < n) : ixN n (k : Int) = some k := by
  unfold ixN
  simp
  omega
def stSp (b : Addr) (sg : List Nat) (u wr : Addr) (at' : Nat) (o rw : Addr) (way : Nat) : L2.St := [some (.ref b), some (.str (S sg)), some (.ref u), some (.ref wr), some (.int (at' : Int)), some (.ref o), some (.ref rw), some (.int (way : Int))]
def tSp : TS := fun D σ H => ∃ (H0 : Hp) (b g : Addr) (sg : List Nat) (u : Addr) (ps : List (Addr × Row)) (wr : Addr) (at' : Nat) (o : Addr) (ro : Row) (rw : Addr) (way : Nat) (r : Row), σ = stSp b sg u wr at' o rw way ∧ 1 ≤ sg.length ∧ sg.length ≤ 100 ∧ WideOk sg ∧ 32 ∉ sg ∧ SpI H0 b g u ps wr o ro rw H r ∧
  ∀ r' H', SpI H0 b g u ps wr o ro rw H' r' → D.nx σ H'
theorem az32 : 32 ∉ azL := by decide +kernel
theorem azw : WideOk azL := az_ok
section
variable {P : Program} {w : World} {K : PySem.W.Frag} {mg : Str → Option Value} {base : Heap} {a : Ad} {d : Fd}
end
end Vk
set_option Elab.async false
set_option linter.all false
set_option maxRecDepth 100000
set_option maxHeartbeats 4000000
namespace Vk
open PySem PySem.Spec PyProof.Rows L2
/-! a comprehension over a list that stands still -/
theorem lc_tupE {β : Type} {K : PySem.W.Frag} {a : Addr} {ys : List β} (f : β → V) {j : Nat} {tt : TT} {te : TE} {vs : List Nat} {σ : L2.St} {H1 : Hp} {D : Addr} {Qd : Hp → Prop} (p : β → Bool) (v : β → V) (hl : ys.length ≤ 4000) (ha : H1 a = some (.tup (ys.map f))) (hD : H1 D = none)
    (hw : ∀ x, wipe ((wipe σ vs).set j (some x)) vs = wipe σ vs)
    (ht : ∀ y ∈ ys, ∀ (H2 : Hp) (Q : Bool → Hp → Prop), (∀ b, b ≠ D → H2 b = H1 b) → Q (p y) H2 → tt ((wipe σ vs).set j (some (f y))) H2 Q)
    (he : ∀ y ∈ ys, p y = true → ∀ (H2 : Hp) (Q : VK), (∀ b, b ≠ D → H2 b = H1 b) → Q (v y) H2 → te ((wipe σ vs).set j (some (f y))) H2 Q)
    (hq : Qd (upd H1 D (.lst ((ys.filter p).map v)))) :
    ∃ W : Nat → Nat → Hp → Prop, (∃ m, W 0 m (upd H1 D (.lst []))) ∧ ∀ i m H, W i m H →
      ((Itt K a).stop i H ∧ Qd H) ∨ ((Itt K a).go i H ∧ ∃ Nx : Hp → Prop, (∀ H', Nx H' → ∃ m', m' < m ∧ W (i + 1) m' H') ∧ ∀ x H', (Itt K a).yld i H x H' → gName j x (wipe σ vs) H' fun σ2 H2 => wipe σ2 vs = wipe σ vs ∧ tt σ2 H2 fun b H3 =>
        if b = true then te σ2 H3 fun y H4 => ∃ acc, H4 D = some (.lst acc) ∧ acc.length < sizeLine ∧ Nx (upd H4 D (.lst (acc ++ [y]))) else Nx H3) := by
  have haD : a ≠ D := fun z => by
    rw [z, hD] at ha
    cases ha
  refine lc_tup (K := K) (a := a) (xs := ys.map f) (fun i H => H = upd H1 D (.lst (((ys.take i).filter p).map v))) rfl (fun i H _ e => SqT.of (by rw [e, upd_ne haD]; exact ha)) ?_ ?_
  · rintro i x H' hi hP
    subst hP
    obtain ⟨y, hy, rfl⟩ : ∃ y, ys[i]? = some y ∧ x = f y := by
      rw [List.getElem?_map] at hi
      cases e : ys[i]? with
      | none => rw [e] at hi; cases hi
      | some z => rw [e] at hi; exact ⟨z, rfl, (Option.some.inj hi).symm⟩
    have hm : y ∈ ys := List.mem_of_getElem? hy
    have off : ∀ b, b ≠ D → (upd H1 D (.lst (((ys.take i).filter p).map v))) b = H1 b := fun b hb => upd_ne hb
    have e1 : ys.take (i + 1) = ys.take i ++ [y] := by
      rw [List.take_add_one, hy]
      rfl
    refine ⟨hw _, ht y hm _ _ off ?_⟩
    by_cases hp : p y = true
    · rw [if_pos hp]
      refine he y hm hp _ _ off ⟨_, upd_same, ?_, ?_⟩
      · rw [List.length_map, sizeLine_eq]
        have h1 := List.length_filter_le p (ys.take i)
        rw [List.length_take] at h1
        omega
      · rw [upd_upd, e1, List.filter_append, List.filter_cons_of_pos hp, List.filter_nil, List.map_append]
        rfl
    · rw [if_neg hp, e1, List.filter_append, List.filter_cons_of_neg hp, List.filter_nil, List.append_nil]
  · rintro H rfl
    rw [List.length_map, List.take_length]
    exact hq
end Vk
set_option Elab.async false
set_option linter.all false
set_option maxRecDepth 100000
set_option maxHeartbeats 8000000
namespace Vk
open PySem PySem.Spec PyProof.Rows L2
theorem repr_tx {t : List Nat} (h : Tx t) : (reprText (S t)).length ≤ 1002 := by
  have h1 := PySem.StrLaws.reprText_len (S t) (fun c hc => by
    rw [S_cps] at hc
    have := h.2 c hc
    omega)
  rw [S_len] at h1
  have := h.1
  omega
theorem al2 (a b : Str) : (a ++ b).length = a.length + b.length := by
  show (a.cps ++ b.cps).size = _
  rw [Array.size_append]
  rfl
theorem sl4 {n : Nat} (h : n ≤ 4000) : n ≤ sizeLine := by rw [sizeLine_eq]; omega
theorem e0l : Str.empty.length = 0 := by decide +kernel
section
variable {P : Program} {w : World} {K : PySem.W.Frag} {mg : Str → Option Value} {base : Heap}
abbrev sBadName : Stmt := inClass (top 5) 0
def spEBadName (C : Addr) : Sp := fun vs H Q _ => ∃ (a : Addr) (t : List Nat), vs = [.ref a, .str (S t)] ∧ Tx t ∧ H a = some (exo a C none) ∧
  ∀ dx, H dx = none → dx ≠ a → Q .non (upd (upd H dx (exd dx [("name", .str (S t))])) a (exo a C (some dx)))
theorem scBadName : SScope ["self", "name"] (defScope sBadName) := ⟨rfl, rfl, rfl, by decide +kernel, by decide +kernel, by decide +kernel, fun x h => (show ∀ y ∈ (defScope sBadName).names, y.2 = .free → y.1 = "__class__" by decide +kernel) _ (PySem.mem_of_lookup h) rfl, by decide +kernel, by decide +kernel⟩
theorem ok_eBadName {f C cc cda : Addr} {dV kV doc pm ct oc : Value} {an od : Option Addr} {osl : Array (Option Value)} (T : SupC P K mg C cc cda) (hp : PySem.W.findIn K (.ref C) "name" = some none)
    (lk : K.lookup f = some ⟨oc, od, .func (PySem.W.ksFn "__init__" "BadName.__init__" (defArgs sBadName) (defBody sBadName) (defScope sBadName) dV kV doc pm an (.ref cda) ct cc), osl⟩) (hcd : PySem.W.codeIn K (.ref cda) "BadName.__init__" = true) :
    FnOk P w K mg base CX0 1 f (PySem.W.ksFn "__init__" "BadName.__init__" (defArgs sBadName) (defBody sBadName) (defScope sBadName) dV kV doc pm an (.ref cda) ct cc) ["self", "name"] (spEBadName C) := by
  refine fn_super (self := "self") (N' := ["name"]) T lk hcd scBadName rfl rfl rfl rfl (fun _ => rfl) (fun _ => rfl) (fun vs H Q E h => ?_) (fun A outer s H vs Q E hr h => ?_)
  · obtain ⟨a, z, rfl, _⟩ := h
    rfl
  · obtain ⟨a, z, rfl, hz, ha, k⟩ := h
    refine ⟨_, _, pe_joined (.cons pe_str (.cons (pe_fmtR (pv 1)) .nil)), pss_one (ps_ost (pv 0) (pv 1)), ⟨a, rfl, ha⟩, ?_⟩
    have e1 : (PySem.Str.ofString "not a name: ").length ≤ 100 := by decide +kernel
    have hz2 := repr_tx hz
    refine ⟨_, rfl, sl4 ?_, _, rfl, .inl ⟨S z, rfl, sl4 (by omega), _, rfl, sl4 ?_, ⟨a, rfl, ha⟩, ?_⟩⟩
    · rw [al2, e0l]
      omega
    · rw [al2, al2, e0l]
      omega
    · exact ⟨_, rfl, _, rfl, a, C, rfl, T.oex, hp, .inl ⟨ha, fun dx hd hn => k dx hd hn⟩⟩
abbrev sBadForm : Stmt := inClass (top 6) 0
def spEBadForm (C : Addr) : Sp := fun vs H Q _ => ∃ (a : Addr) (t : List Nat), vs = [.ref a, .str (S t)] ∧ Tx t ∧ H a = some (exo a C none) ∧
  ∀ dx, H dx = none → dx ≠ a → Q .non (upd (upd H dx (exd dx [("form", .str (S t))])) a (exo a C (some dx)))
theorem scBadForm : SScope ["self", "form"] (defScope sBadForm) := ⟨rfl, rfl, rfl, by decide +kernel, by decide +kernel, by decide +kernel, fun x h => (show ∀ y ∈ (defScope sBadForm).names, y.2 = .free → y.1 = "__class__" by decide +kernel) _ (PySem.mem_of_lookup h) rfl, by decide +kernel, by decide +kernel⟩
theorem ok_eBadForm {f C cc cda : Addr} {dV kV doc pm ct oc : Value} {an od : Option Addr} {osl : Array (Option Value)} (T : SupC P K mg C cc cda) (hp : PySem.W.findIn K (.ref C) "form" = some none)
    (lk : K.lookup f = some ⟨oc, od, .func (PySem.W.ksFn "__init__" "BadForm.__init__" (defArgs sBadForm) (defBody sBadForm) (defScope sBadForm) dV kV doc pm an (.ref cda) ct cc), osl⟩) (hcd : PySem.W.codeIn K (.ref cda) "BadForm.__init__" = true) :
    FnOk P w K mg base CX0 1 f (PySem.W.ksFn "__init__" "BadForm.__init__" (defArgs sBadForm) (defBody sBadForm) (defScope sBadForm) dV kV doc pm an (.ref cda) ct cc) ["self", "form"] (spEBadForm C) := by
  refine fn_super (self := "self") (N' := ["form"]) T lk hcd scBadForm rfl rfl rfl rfl (fun _ => rfl) (fun _ => rfl) (fun vs H Q E h => ?_) (fun A outer s H vs Q E hr h => ?_)
  · obtain ⟨a, z, rfl, _⟩ := h
    rfl
  · obtain ⟨a, z, rfl, hz, ha, k⟩ := h
    refine ⟨_, _, pe_joined (.cons pe_str (.cons (pe_fmtR (pv 1)) .nil)), pss_one (ps_ost (pv 0) (pv 1)), ⟨a, rfl, ha⟩, ?_⟩
    have e1 : (PySem.Str.ofString "not a form: ").length ≤ 100 := by decide +kernel
    have hz2 := repr_tx hz
    refine ⟨_, rfl, sl4 ?_, _, rfl, .inl ⟨S z, rfl, sl4 (by omega), _, rfl, sl4 ?_, ⟨a, rfl, ha⟩, ?_⟩⟩
    · rw [al2, e0l]
      omega
    · rw [al2, al2, e0l]
      omega
    · exact ⟨_, rfl, _, rfl, a, C, rfl, T.oex, hp, .inl ⟨ha, fun dx hd hn => k dx hd hn⟩⟩
abbrev sUnknownPlace : Stmt := inClass (top 7) 0
def spEUnknownPlace (C : Addr) : Sp := fun vs H Q _ => ∃ (a : Addr) (t : List Nat), vs = [.ref a, .str (S t)] ∧ Tx t ∧ H a = some (exo a C none) ∧
  ∀ dx, H dx = none → dx ≠ a → Q .non (upd (upd H dx (exd dx [("place", .str (S t))])) a (exo a C (some dx)))
theorem scUnknownPlace : SScope ["self", "place"] (defScope sUnknownPlace) := ⟨rfl, rfl, rfl, by decide +kernel, by decide +kernel, by decide +kernel, fun x h => (show ∀ y ∈ (defScope sUnknownPlace).names, y.2 = .free → y.1 = "__class__" by decide +kernel) _ (PySem.mem_of_lookup h) rfl, by decide +kernel, by decide +kernel⟩
theorem ok_eUnknownPlace {f C cc cda : Addr} {dV kV doc pm ct oc : Value} {an od : Option Addr} {osl : Array (Option Value)} (T : SupC P K mg C cc cda) (hp : PySem.W.findIn K (.ref C) "place" = some none)
    (lk : K.lookup f = some ⟨oc, od, .func (PySem.W.ksFn "__init__" "UnknownPlace.__init__" (defArgs sUnknownPlace) (defBody sUnknownPlace) (defScope sUnknownPlace) dV kV doc pm an (.ref cda) ct cc), osl⟩) (hcd : PySem.W.codeIn K (.ref cda) "UnknownPlace.__init__" = true) :
    FnOk P w K mg base CX0 1 f (PySem.W.ksFn "__init__" "UnknownPlace.__init__" (defArgs sUnknownPlace) (defBody sUnknownPlace) (defScope sUnknownPlace) dV kV doc pm an (.ref cda) ct cc) ["self", "place"] (spEUnknownPlace C) := by
  refine fn_super (self := "self") (N' := ["place"]) T lk hcd scUnknownPlace rfl rfl rfl rfl (fun _ => rfl) (fun _ => rfl) (fun vs H Q E h => ?_) (fun A outer s H vs Q E hr h => ?_)
  · obtain ⟨a, z, rfl, _⟩ := h
    rfl
  · obtain ⟨a, z, rfl, hz, ha, k⟩ := h
    refine ⟨_, _, pe_joined (.cons pe_str (.cons (pe_fmtR (pv 1)) .nil)), pss_one (ps_ost (pv 0) (pv 1)), ⟨a, rfl, ha⟩, ?_⟩
    have e1 : (PySem.Str.ofString "not a place for an entry: ").length ≤ 100 := by decide +kernel
    have hz2 := repr_tx hz
    refine ⟨_, rfl, sl4 ?_, _, rfl, .inl ⟨S z, rfl, sl4 (by omega), _, rfl, sl4 ?_, ⟨a, rfl, ha⟩, ?_⟩⟩
    · rw [al2, e0l]
      omega
    · rw [al2, al2, e0l]
      omega
    · exact ⟨_, rfl, _, rfl, a, C, rfl, T.oex, hp, .inl ⟨ha, fun dx hd hn => k dx hd hn⟩⟩
abbrev sDuplicateName : Stmt := inClass (top 8) 0
def spEDuplicateName (C : Addr) : Sp := fun vs H Q _ => ∃ (a : Addr) (t : List Nat), vs = [.ref a, .str (S t)] ∧ Tx t ∧ H a = some (exo a C none) ∧
  ∀ dx, H dx = none → dx ≠ a → Q .non (upd (upd H dx (exd dx [("name", .str (S t))])) a (exo a C (some dx)))
theorem scDuplicateName : SScope ["self", "name"] (defScope sDuplicateName) := ⟨rfl, rfl, rfl, by decide +kernel, by decide +kernel, by decide +kernel, fun x h => (show ∀ y ∈ (defScope sDuplicateName).names, y.2 = .free → y.1 = "__class__" by decide +kernel) _ (PySem.mem_of_lookup h) rfl, by decide +kernel, by decide +kernel⟩
theorem ok_eDuplicateName {f C cc cda : Addr} {dV kV doc pm ct oc : Value} {an od : Option Addr} {osl : Array (Option Value)} (T : SupC P K mg C cc cda) (hp : PySem.W.findIn K (.ref C) "name" = some none)
    (lk : K.lookup f = some ⟨oc, od, .func (PySem.W.ksFn "__init__" "DuplicateName.__init__" (defArgs sDuplicateName) (defBody sDuplicateName) (defScope sDuplicateName) dV kV doc pm an (.ref cda) ct cc), osl⟩) (hcd : PySem.W.codeIn K (.ref cda) "DuplicateName.__init__" = true) :
    FnOk P w K mg base CX0 1 f (PySem.W.ksFn "__init__" "DuplicateName.__init__" (defArgs sDuplicateName) (defBody sDuplicateName) (defScope sDuplicateName) dV kV doc pm an (.ref cda) ct cc) ["self", "name"] (spEDuplicateName C) := by
  refine fn_super (self := "self") (N' := ["name"]) T lk hcd scDuplicateName rfl rfl rfl rfl (fun _ => rfl) (fun _ => rfl) (fun vs H Q E h => ?_) (fun A outer s H vs Q E hr h => ?_)
  · obtain ⟨a, z, rfl, _⟩ := h
    rfl
  · obtain ⟨a, z, rfl, hz, ha, k⟩ := h
    refine ⟨_, _, pe_joined (.cons pe_str (.cons (pe_fmtR (pv 1)) .nil)), pss_one (ps_ost (pv 0) (pv 1)), ⟨a, rfl, ha⟩, ?_⟩
    have e1 : (PySem.Str.ofString "this name occurs twice: ").length ≤ 100 := by decide +kernel
    have hz2 := repr_tx hz
    refine ⟨_, rfl, sl4 ?_, _, rfl, .inl ⟨S z, rfl, sl4 (by omega), _, rfl, sl4 ?_, ⟨a, rfl, ha⟩, ?_⟩⟩
    · rw [al2, e0l]
      omega
    · rw [al2, al2, e0l]
      omega
    · exact ⟨_, rfl, _, rfl, a, C, rfl, T.oex, hp, .inl ⟨ha, fun dx hd hn => k dx hd hn⟩⟩
abbrev sTooMany : Stmt := inClass (top 4) 0
def spETooMany (C : Addr) : Sp := fun vs H Q _ => ∃ (a : Addr), vs = [.ref a, .int 8] ∧ H a = some (exo a C none) ∧
  ∀ dx, H dx = none → dx ≠ a → Q .non (upd (upd H dx (exd dx [("most", .int 8)])) a (exo a C (some dx)))
theorem scTooMany : SScope ["self", "most"] (defScope sTooMany) := ⟨rfl, rfl, rfl, by decide +kernel, by decide +kernel, by decide +kernel, fun x h => (show ∀ y ∈ (defScope sTooMany).names, y.2 = .free → y.1 = "__class__" by decide +kernel) _ (PySem.mem_of_lookup h) rfl, by decide +kernel, by decide +kernel⟩
theorem ok_eTooMany {f C cc cda : Addr} {dV kV doc pm ct oc : Value} {an od : Option Addr} {osl : Array (Option Value)} (T : SupC P K mg C cc cda) (hp : PySem.W.findIn K (.ref C) "most" = some none)
    (lk : K.lookup f = some ⟨oc, od, .func (PySem.W.ksFn "__init__" "TooMany.__init__" (defArgs sTooMany) (defBody sTooMany) (defScope sTooMany) dV kV doc pm an (.ref cda) ct cc), osl⟩) (hcd : PySem.W.codeIn K (.ref cda) "TooMany.__init__" = true) :
    FnOk P w K mg base CX0 1 f (PySem.W.ksFn "__init__" "TooMany.__init__" (defArgs sTooMany) (defBody sTooMany) (defScope sTooMany) dV kV doc pm an (.ref cda) ct cc) ["self", "most"] (spETooMany C) := by
  refine fn_super (self := "self") (N' := ["most"]) T lk hcd scTooMany rfl rfl rfl rfl (fun _ => rfl) (fun _ => rfl) (fun vs H Q E h => ?_) (fun A outer s H vs Q E hr h => ?_)
  · obtain ⟨a, rfl, _⟩ := h
    rfl
  · obtain ⟨a, rfl, ha, k⟩ := h
    refine ⟨_, _, pe_joined (.cons pe_str (.cons (pe_fmt (pv 1)) .nil)), pss_one (ps_ost (pv 0) (pv 1)), ⟨a, rfl, ha⟩, ?_⟩
    refine ⟨_, rfl, sl4 ?_, _, rfl, .inr ⟨8, rfl, by decide +kernel, _, rfl, sl4 ?_, ⟨a, rfl, ha⟩, ?_⟩⟩
    · decide +kernel
    · decide +kernel
    · exact ⟨_, rfl, _, rfl, a, C, rfl, T.oex, hp, .inl ⟨ha, fun dx hd hn => k dx hd hn⟩⟩
abbrev sConflict : Stmt := inClass (top 9) 0
def spEConflict (C : Addr) : Sp := fun vs H Q _ => ∃ (a : Addr) (t u : List Nat), vs = [.ref a, .str (S t), .str (S u)] ∧ Tx t ∧ Tx u ∧ H a = some (exo a C none) ∧
  ∀ dx, H dx = none → dx ≠ a → Q .non (upd (upd (upd H dx (exd dx [("name", .str (S t))])) a (exo a C (some dx))) dx (exd dx [("other", .str (S u)), ("name", .str (S t))]))
theorem scConflict : SScope ["self", "name", "other"] (defScope sConflict) := ⟨rfl, rfl, rfl, by decide +kernel, by decide +kernel, by decide +kernel, fun x h => (show ∀ y ∈ (defScope sConflict).names, y.2 = .free → y.1 = "__class__" by decide +kernel) _ (PySem.mem_of_lookup h) rfl, by decide +kernel, by decide +kernel⟩
theorem ok_eConflict {f C cc cda : Addr} {dV kV doc pm ct oc : Value} {an od : Option Addr} {osl : Array (Option Value)} (T : SupC P K mg C cc cda) (hp : PySem.W.findIn K (.ref C) "name" = some none) (ho : PySem.W.findIn K (.ref C) "other" = some none)
    (lk : K.lookup f = some ⟨oc, od, .func (PySem.W.ksFn "__init__" "Conflict.__init__" (defArgs sConflict) (defBody sConflict) (defScope sConflict) dV kV doc pm an (.ref cda) ct cc), osl⟩) (hcd : PySem.W.codeIn K (.ref cda) "Conflict.__init__" = true) :
    FnOk P w K mg base CX0 1 f (PySem.W.ksFn "__init__" "Conflict.__init__" (defArgs sConflict) (defBody sConflict) (defScope sConflict) dV kV doc pm an (.ref cda) ct cc) ["self", "name", "other"] (spEConflict C) := by
  refine fn_super (self := "self") (N' := ["name", "other"]) T lk hcd scConflict rfl rfl rfl rfl (fun _ => rfl) (fun _ => rfl) (fun vs H Q E h => ?_) (fun A outer s H vs Q E hr h => ?_)
  · obtain ⟨a, t, u, rfl, _⟩ := h
    rfl
  · obtain ⟨a, t, u, rfl, ht, hu, ha, k⟩ := h
    refine ⟨_, _, pe_joined (.cons pe_str (.cons (pe_fmtR (pv 1)) (.cons pe_str (.cons (pe_fmtR (pv 2)) .nil)))), pss_cons (ps_ost (pv 0) (pv 1)) (pss_one (ps_ost (pv 0) (pv 2))), ⟨a, rfl, ha⟩, ?_⟩
    have e1 : (PySem.Str.ofString "the entry ").length ≤ 100 := by decide +kernel
    have e2 : (PySem.Str.ofString " conflicts with ").length ≤ 100 := by decide +kernel
    have ht2 := repr_tx ht
    have hu2 := repr_tx hu
    refine ⟨_, rfl, sl4 ?_, _, rfl, .inl ⟨S t, rfl, sl4 (by omega), _, rfl, sl4 ?_, _, rfl, sl4 ?_, _, rfl, .inl ⟨S u, rfl, sl4 (by omega), _, rfl, sl4 ?_, ⟨a, rfl, ha⟩, ?_⟩⟩⟩
    · rw [al2, e0l]
      omega
    · rw [al2, al2, e0l]
      omega
    · rw [al2, al2, al2, e0l]
      omega
    · rw [al2, al2, al2, al2, e0l]
      omega
    · refine ⟨_, rfl, _, rfl, a, C, rfl, T.oex, hp, .inl ⟨ha, fun dx hd hn => ⟨_, rfl, _, rfl, a, C, rfl, T.oex, ho, .inr ⟨dx, _, upd_same, ?_, by show 1 ≤ 900; decide, k dx hd hn⟩⟩⟩⟩
      rw [upd_ne hn, upd_same]
end
end Vk
set_option Elab.async false
set_option linter.all false
set_option maxRecDepth 100000
set_option maxHeartbeats 4000000
namespace Vk
open PySem PySem.Spec PyProof.Rows L2
/-! sorted of a list of tuples of four texts -/
def shT : Nat → Bool := fun _ => true
def rowK (r : Row) : List (Int ⊕ List Nat) := [.inr r.n, .inr r.l, .inr r.s, .inr r.p]
def sortedR (qs : List (Addr × Row)) : Prop := qs.Pairwise fun x y => PyProof.Rows.lexLt itemOrd (rowK y.2) (rowK x.2) = false
theorem perm_unmap {α β : Type} (f : α → β) {l m : List β} (h : l.Perm m) : ∀ ps : List α, m = ps.map f → ∃ qs : List α, qs.Perm ps ∧ l = qs.map f := by
  induction h with
  | nil =>
    intro ps e
    cases ps with
    | nil => exact ⟨[], .refl _, rfl⟩
    | cons p r => cases e
  | cons x _ ih =>
    intro ps e
    cases ps with
    | nil => cases e
    | cons p r =>
      obtain ⟨e1, e2⟩ := List.cons.inj e
      obtain ⟨qs, h1, h2⟩ := ih r e2
      exact ⟨p :: qs, h1.cons p, by rw [List.map_cons, ← h2, e1]⟩
  | swap x y l =>
    intro ps e
    match ps, e with
    | a :: b :: r, e =>
      obtain ⟨e1, e2⟩ := List.cons.inj e
      obtain ⟨e3, e4⟩ := List.cons.inj e2
      exact ⟨b :: a :: r, .swap _ _ _, by rw [e1, e3, e4]; rfl⟩
  | trans _ _ ih1 ih2 =>
    intro ps e
    obtain ⟨q2, p2, e2⟩ := ih2 ps e
    obtain ⟨q1, p1, e1⟩ := ih1 q2 e2
    exact ⟨q1, p1.trans p2, e1⟩
/-- at x in the heap: a tuple of r's four texts -/
def T4 (h : Heap) (x : Addr) (r : Row) : Prop := ∃ o xs n, h.get? x = some o ∧ o.cls = .type "tuple" ∧ o.data = .seq xs n ∧ tupItems shT 0 xs.toList = some (rowK r) ∧ ∃ y t, xs[0]? = some (.str y t)
theorem T4.keep {h h' : Heap} {x : Addr} {r : Row} (t : T4 h x r) (k : ∀ b o, h.get? b = some o → h'.get? b = some o) : T4 h' x r := by
  obtain ⟨o, xs, n, ho, z⟩ := t
  exact ⟨o, xs, n, k _ _ ho, z⟩
theorem tup4 {P : Program} {w : World} {H : Hp} {h : Heap} {x : Addr} {r : Row} (ok : HOk P w H h) (e : H x = some (.tup r.vs)) : T4 h x r := by
  obtain ⟨_, its, rv, o, ho, hc, n, hd⟩ := ok _ _ e
  cases rv with
  | cons r1 rv =>
    cases rv with
    | cons r2 rv =>
      cases rv with
      | cons r3 rv =>
        cases rv with
        | cons r4 rv =>
          cases rv
          obtain ⟨t1, rfl⟩ := r1
          obtain ⟨t2, rfl⟩ := r2
          obtain ⟨t3, rfl⟩ := r3
          obtain ⟨t4, rfl⟩ := r4
          refine ⟨o, _, n, ho, hc, hd, ?_, _, _, rfl⟩
          show some [Sum.inr (S r.n).cps.toList, Sum.inr (S r.l).cps.toList, Sum.inr (S r.s).cps.toList, Sum.inr (S r.p).cps.toList] = _
          rw [S_cps, S_cps, S_cps, S_cps]
          rfl
theorem key4 {h : Heap} {x : Addr} {r : Row} (t4 : T4 h x r) : G.tupKeyC h shT (.ref x) = some (rowK r) := by
  obtain ⟨o, xs, n, ho, hc, hd, hi, _⟩ := t4
  unfold G.tupKeyC
  have e1 : G.isTupObj h (.ref x) = true := by simp [G.isTupObj, ho, hc]
  rw [if_pos e1]
  simp only [tupKey, ho, hd]
  exact hi
theorem tups4 {h : Heap} : ∀ ps : List (Addr × Row), (∀ q ∈ ps, T4 h q.1 q.2) → ∃ fs, TupsOf h shT (ps.map fun q => Value.ref q.1) fs
  | [], _ => ⟨[], .nil⟩
  | q :: r, hp => by
    obtain ⟨fs, hf⟩ := tups4 r fun x hx => hp x (List.mem_cons_of_mem _ hx)
    obtain ⟨o, xs, n, ho, hc, hd, _, y, t, h0⟩ := hp q List.mem_cons_self
    exact ⟨_ :: fs, .cons ⟨q.1, o, xs, n, rfl, ho, hc, hd, h0, fun z => (by cases z), fun _ => ⟨y, t, rfl⟩⟩ hf⟩
theorem sorted_out {h : Heap} {ps : List (Addr × Row)} (hp : ∀ q ∈ ps, T4 h q.1 q.2) {arr : Array Keyed}
    (h1 : arr.Perm (pairsOf (ps.map fun q => Value.ref q.1))) (h2 : SortedToK (G.tupKindC h shT) arr (pairsOf (ps.map fun q => Value.ref q.1)).size) :
    ∃ qs : List (Addr × Row), qs.Perm ps ∧ sortedR qs ∧ (arr.map (·.2)).toList = qs.map fun q => Value.ref q.1 := by
  have e := Array.perm_iff_toList_perm.mp h1
  have ez : (pairsOf (ps.map fun q => Value.ref q.1)).toList = ps.map fun q => ((Value.ref q.1, Value.ref q.1) : Keyed) := by
    rw [pairsOf_toList]
    clear hp h1 h2 e
    induction ps with
    | nil => rfl
    | cons q r ih => rw [List.map_cons, List.zip_cons_cons, ih, List.map_cons]
  rw [ez] at e
  obtain ⟨qs, p1, e1⟩ := perm_unmap _ e ps rfl
  refine ⟨qs, p1, ?_, ?_⟩
  · unfold sortedR
    rw [List.pairwise_iff_getElem]
    intro i j hi hj hij
    have hlen : (pairsOf (ps.map fun q => Value.ref q.1)).size = qs.length := by rw [pairsOf_size, List.length_map, p1.length_eq]
    have kk : ∀ (k : Nat) (hk : k < qs.length), KK (G.tupKindC h shT) arr k = rowK qs[k].2 := fun k hk => by
      have e2 : arr[k]? = some ((Value.ref qs[k].1, Value.ref qs[k].1) : Keyed) := by
        rw [← Array.getElem?_toList, e1, List.getElem?_map, List.getElem?_eq_getElem hk]
        rfl
      unfold KK
      rw [e2]
      show (G.tupKeyC h shT (.ref qs[k].1)).getD _ = _
      rw [key4 (hp _ (p1.mem_iff.mp (List.getElem_mem hk)))]
      rfl
    have := h2 i j (Nat.le_of_lt hij) (by rw [hlen]; exact hj)
    rw [kk i hi, kk j hj] at this
    exact this
  · rw [Array.toList_map, e1, List.map_map]
    rfl
section
variable {X : Cx}
def rSort4 (K : PySem.W.Frag) : List V → Hp → VK → Prop := fun vs H Q => ∃ (a : Addr) (ps : List (Addr × Row)), vs = [V.ref a] ∧ SqL K H a (ps.map fun q => V.ref q.1) ∧ (∀ q ∈ ps, H q.1 = some (.tup q.2.vs)) ∧
  ∀ (qs : List (Addr × Row)) p, qs.Perm ps → sortedR qs → H p = none → Q (.ref p) (upd H p (.lst (qs.map fun q => V.ref q.1)))
theorem cr_sort4 : CallR X (.builtin "sorted") (rSort4 X.K) := by
  intro pins s σ H vs us Q I r h
  obtain ⟨a, ps, rfl, hs, hx, q⟩ := h
  obtain ⟨its, rv, hl, hz⟩ := I.list hs
  obtain ⟨u, rfl, ru⟩ := vals1 r
  obtain rfl : u = Value.ref a := ru
  have rv2 : Vals ((ps.map (·.1)).map V.ref) its := by
    rw [List.map_map]
    exact rv
  have hits := nts_of rv2
  rw [List.map_map] at hits
  have hits2 : its = ps.map fun q => Value.ref q.1 := hits
  subst hits2
  have hx4 : ∀ q ∈ ps, T4 s.heap q.1 q.2 := fun q hq => tup4 I.hok (hx q hq)
  obtain ⟨fs, hf⟩ := tups4 ps hx4
  have hzl : ps.length ≤ sizeLine := by
    have := rv.length
    rw [List.length_map, List.length_map] at this
    rw [List.length_map] at hz
    exact hz
  refine G.sorted_tups hl.isList hf (fun v hv => ?_) (by rw [List.length_map]; exact hzl) fun st' a1 a2 a3 => ?_
  · obtain ⟨q, hq, rfl⟩ := List.mem_map.mp hv
    exact ⟨_, key4 (hx4 q hq)⟩
  · obtain ⟨qs, p1, p2, p3⟩ := sorted_out hx4 a1 a2
    have hd : s.heap.objs.size ≤ s.heap.objs.size + 1 := Nat.le_succ _
    obtain ⟨n, hn⟩ := sortedAll_at s.heap (ps.map fun q => Value.ref q.1) ((arrOf st').map (·.2))
    refine ⟨.ref (s.heap.objs.size + 1), upd H (s.heap.objs.size + 1) (.lst (qs.map fun q => V.ref q.1)), I.laid (t' := s.toks) (fun b o e => sortedAll_old e) hd ⟨?_, qs.map fun q => Value.ref q.1, n, ?_, ?_⟩, rfl, q qs _ p1 p2 (I.hok.fresh hd)⟩
    · rw [List.length_map, p1.length_eq]
      exact hzl
    · have := of_nts (qs.map (·.1))
      rw [List.map_map, List.map_map] at this
      exact this
    · rw [hn, ← p3, Array.toArray_toList]
end
end Vk
set_option Elab.async false
set_option linter.all false
set_option maxRecDepth 100000
set_option maxHeartbeats 4000000
namespace Vk
open PySem PySem.W PySem.Calls PySem.Spec PyProof.Rows L2
/-! sorted of a tuple of tuples of four texts -/
section
variable {prog : Program} {w : World} {A : Around} {E : Value → Shared → Prop} {s : Shared}
theorem collect_tupT {t : Addr} {vs : List Value} {Q : List Value → Shared → Prop} (ht : s.heap.IsTuple t vs.toArray) (hz : vs.length ≤ sizeLine)
    (h : Q vs { s with heap := (s.heap.push (seqObj "list" #[] 0)).update s.heap.objs.size (Obj.mapSeq (· ++ vs.toArray)) }) :
    wpAny (model prog w) A (collect (.ref t)) Q E s := by
  obtain ⟨o, ho, hc, n, hd⟩ := ht
  have keep : (s.heap.push (seqObj "list" #[] 0)).get? t = some o := Heap.get?_push_of_some _ ho
  have new : (s.heap.push (seqObj "list" #[] 0)).get? s.heap.objs.size = some (seqObj "list" #[] 0) := Heap.get?_push_size _ rfl
  unfold collect
  refine wpAny_bind (wpAny_runValue (codeAny_builtin entry_proto_collect' ?_))
  refine wpAny_bind (wpAny_newList (wpAny_pure ⟨Code.quiet_builtin _ (by decide +kernel), codeAny_builtin entry_list_iadd' ?_⟩))
  show wpAny _ _ (Builtin.List.listExtendWith (.ref s.heap.objs.size) (.ref t) (.ref s.heap.objs.size)) _ _ { s with heap := s.heap.push (seqObj "list" #[] 0) }
  unfold Builtin.List.listExtendWith
  refine wpAny_bind (wpAny_typeOf (T := "tuple") ⟨o, keep, hc⟩ ?_)
  rw [if_pos (by rw [show (Value.type "tuple" == Value.type "tuple") = true by rfl, Bool.or_true])]
  refine wpAny_bind (listItems_at keep hd ?_)
  refine wpAny_bind (listItems_at (xs := #[]) (n := 0) new rfl ?_)
  rw [if_neg (by simp)]
  refine wpAny_bind (listUpdate_at (xs := #[]) (n := 0) new rfl (wpAny_pure ?_) (Nat.zero_le _) (by show (#[] ++ vs.toArray).size ≤ sizeLine + 1; simp only [Array.size_append, List.size_toArray, List.length_nil]; omega))
  refine wpAny_bind (wpAny_load (get?_update_seq new _) ?_)
  have e : ((#[] : Array Value) ++ vs.toArray).toList = vs := by simp
  show wpAny _ _ (pure ((#[] : Array Value) ++ vs.toArray).toList) Q E _
  rw [e]
  exact wpAny_pure h
theorem sorted_tupT {t : Addr} {ps : List (Addr × Row)} {Q : Value → Shared → Prop} (ht : s.heap.IsTuple t (ps.map fun q => Value.ref q.1).toArray) (hz : ps.length ≤ sizeLine) (h4 : ∀ q ∈ ps, T4 s.heap q.1 q.2)
    (h : ∀ (qs : List (Addr × Row)) (out : Array Value), qs.Perm ps → sortedR qs → out.toList = (qs.map fun q => Value.ref q.1) → Q (.ref (s.heap.objs.size + 1)) { s with heap := sortedAll s.heap (ps.map fun q => Value.ref q.1) out }) :
    wpAny (model prog w) A (call (.builtin "sorted") [.ref t]) Q E s := by
  have hzl : (ps.map fun q => Value.ref q.1).length ≤ sizeLine := by rw [List.length_map]; exact hz
  generalize hvs : (ps.map fun q => Value.ref q.1) = vs at ht hzl h
  refine Calls.call_function_entry kind_sorted plain_sorted entry_sorted (args_sorted1 _) ?_
  unfold Builtin.«sorted»
  refine wpAny_bind (m := checkCount "sorted" 1 1 _) (wpAny_pure ?_)
  refine wpAny_bind (collect_tupT ht hzl ?_)
  refine wpAny_bind (wpAny_newList ?_ hzl)
  have new : (s.heap.push (seqObj "list" #[] 0)).get? s.heap.objs.size = some (seqObj "list" #[] 0) := Heap.get?_push_size _ rfl
  have hsz : ((s.heap.push (seqObj "list" #[] 0)).update s.heap.objs.size (Obj.mapSeq (· ++ vs.toArray))).objs.size = s.heap.objs.size + 1 := by
    rw [Heap.size_update, size_push']
  have hoL : (((s.heap.push (seqObj "list" #[] 0)).update s.heap.objs.size (Obj.mapSeq (· ++ vs.toArray))).push (seqObj "list" vs.toArray 0)).get? (s.heap.objs.size + 1) = some (seqObj "list" vs.toArray 0) := by
    rw [← hsz]
    exact Heap.get?_push_size _ rfl
  have keep : ∀ b o, s.heap.get? b = some o → (((s.heap.push (seqObj "list" #[] 0)).update s.heap.objs.size (Obj.mapSeq (· ++ vs.toArray))).push (seqObj "list" vs.toArray 0)).get? b = some o := fun b o q => by
    have hlt : b < s.heap.objs.size := Heap.lt_size q
    refine Heap.get?_push_of_some _ ?_
    rw [Heap.get?_update_ne _ _ _ _ (Nat.ne_of_lt hlt)]
    exact Heap.get?_push_of_some _ q
  show wpAny _ _ _ _ _ { s with heap := ((s.heap.push (seqObj "list" #[] 0)).update s.heap.objs.size (Obj.mapSeq (· ++ vs.toArray))).push (seqObj "list" vs.toArray 0) }
  rw [hsz]
  have h4' : ∀ q ∈ ps, T4 (((s.heap.push (seqObj "list" #[] 0)).update s.heap.objs.size (Obj.mapSeq (· ++ vs.toArray))).push (seqObj "list" vs.toArray 0)) q.1 q.2 := fun q hq => (h4 q hq).keep keep
  obtain ⟨fs, hf⟩ := tups4 ps h4'
  rw [hvs] at hf
  refine wpAny_bind (wpAny_holding (wpAny_call_entry slot_list_sort ⟨_, hoL, rfl⟩ entry_list_sort (G.list_sort_tups hoL hf (fun v hv => ?_) hzl fun st' a1 a2 a3 => ⟨_, rfl, ?_⟩) (args_list_sort _)))
  · rw [← hvs] at hv
    obtain ⟨q, hq, rfl⟩ := List.mem_map.mp hv
    exact ⟨_, key4 (h4' q hq)⟩
  · rw [← hvs] at a1 a2
    obtain ⟨qs, p1, p2, p3⟩ := sorted_out (by rw [hvs]; exact h4') a1 a2
    exact wpAny_pure ⟨_, rfl, h qs _ p1 p2 p3⟩
end
section
variable {X : Cx}
def rSort4T (K : PySem.W.Frag) : List V → Hp → VK → Prop := fun vs H Q => ∃ (a : Addr) (ps : List (Addr × Row)), vs = [V.ref a] ∧ SqT K H a (ps.map fun q => V.ref q.1) ∧ (∀ q ∈ ps, H q.1 = some (.tup q.2.vs)) ∧
  ∀ (qs : List (Addr × Row)) p, qs.Perm ps → sortedR qs → H p = none → Q (.ref p) (upd H p (.lst (qs.map fun q => V.ref q.1)))
theorem cr_sort4T : CallR X (.builtin "sorted") (rSort4T X.K) := by
  intro pins s σ H vs us Q I r h
  obtain ⟨a, ps, rfl, hs, hx, q⟩ := h
  obtain ⟨its, rv, hl, hz⟩ := I.tuple hs
  obtain ⟨u, rfl, ru⟩ := vals1 r
  obtain rfl : u = Value.ref a := ru
  have rv2 : Vals ((ps.map (·.1)).map V.ref) its := by
    rw [List.map_map]
    exact rv
  have hits := nts_of rv2
  rw [List.map_map] at hits
  have hits2 : its = ps.map fun q => Value.ref q.1 := hits
  subst hits2
  have hzl : ps.length ≤ sizeLine := by
    rw [List.length_map] at hz
    exact hz
  refine sorted_tupT hl hzl (fun q hq => tup4 I.hok (hx q hq)) fun qs out p1 p2 p3 => ?_
  have hd : s.heap.objs.size ≤ s.heap.objs.size + 1 := Nat.le_succ _
  obtain ⟨n, hn⟩ := sortedAll_at s.heap (ps.map fun q => Value.ref q.1) out
  refine ⟨.ref (s.heap.objs.size + 1), upd H (s.heap.objs.size + 1) (.lst (qs.map fun q => V.ref q.1)), I.laid (t' := s.toks) (fun b o e => sortedAll_old e) hd ⟨?_, qs.map fun q => Value.ref q.1, n, ?_, ?_⟩, rfl, q qs _ p1 p2 (I.hok.fresh hd)⟩
  · rw [List.length_map, p1.length_eq]
    exact hzl
  · have := of_nts (qs.map (·.1))
    rw [List.map_map, List.map_map] at this
    exact this
  · rw [hn, ← p3, Array.toArray_toList]
end
end Vk
set_option Elab.async false
set_option linter.all false
set_option maxRecDepth 100000
set_option maxHeartbeats 4000000
namespace Vk
open PySem PySem.Spec PyProof.Rows L2
/-! enumerate over a tuple -/
theorem meets_enum1 {v : Value} {o : Obj} {H : Heap → Prop} (B : Begins v o H) :
    Meets (Builtin.«enumerate.__new__» ⟨[.type "enumerate", v], []⟩) (fun _ R s => H s.heap ∧
      R (.ok (.ret (.ref (s.heap.push o).objs.size))) { s with heap := (s.heap.push o).push { cls := .type "enumerate", data := .fields #[.none, .bool false, .ref s.heap.objs.size, rawInt 0, .none, .none] } }) :=
  .of_wp fun prog w A R s h => by
    obtain ⟨hp, g, d, tk, os⟩ := s
    obtain ⟨h1, h⟩ := h
    have hsub := sub_enumerate
    have q1 : ∀ {A' : Around} {E : Value → Shared → Prop} {Q : Value → Shared → Prop}, Q (.ref hp.objs.size) ⟨hp.push o, g, d, tk, os⟩ → wpAny (model prog w) A' (pyIter v) Q E ⟨hp, g, d, tk, os⟩ :=
      fun q => B.iter prog w _ _ ⟨hp, g, d, tk, os⟩ _ h1 q
    wp_walk using q1
    refine wpAny_stack_any fun st => wpAny_pure ?_
    split
    · rename_i c _ _ _ _ _
      cases (c == Value.type "enumerate")
      · wp_walk using q1
        exact ⟨_, rfl, h⟩
      · wp_walk using q1
        exact ⟨_, rfl, h⟩
    · wp_walk using q1
      exact ⟨_, rfl, h⟩
section
variable {prog : Program} {w : World} {A : Around} {E : Value → Shared → Prop} {s : Shared}
theorem enum1 {v : Value} {o : Obj} {H : Heap → Prop} {Q : Value → Shared → Prop} (B : Begins v o H) (h1 : H s.heap)
    (h : ∀ h', IsEnum h' (s.heap.objs.size + 1) s.heap.objs.size 0 .none → h'.get? s.heap.objs.size = some o → (∀ b o, s.heap.get? b = some o → h'.get? b = some o) → Q (.ref (s.heap.objs.size + 1)) { s with heap := h' }) :
    wpAny (model prog w) A (call (.type "enumerate") [v]) Q E s := by
  refine callType_new F.called_enumerate (by decide) (F.typeCall_enumerate_1 _) (F.newCall_enumerate_1 _) (fun obj => F.args_object_init_2 obj _) F.entry_enumerate_new (meets_enum1 B) ⟨h1, ?_⟩
  have hz : (s.heap.push o).objs.size = s.heap.objs.size + 1 := Heap.size_push ..
  show _ ∧ _
  rw [hz]
  have he := Heap.get?_push_size (s.heap.push o) (o := { cls := .type "enumerate", data := .fields #[.none, .bool false, .ref s.heap.objs.size, rawInt 0, .none, .none] }) rfl
  rw [hz] at he
  exact ⟨⟨_, he, rfl⟩, h _ he (Heap.get?_push_of_some _ (Heap.get?_push_size _ B.free)) fun b o x => Heap.get?_push_of_some _ (Heap.get?_push_of_some _ x)⟩
end
/-- the tuple at a, each item in a new pair -/
def IteT (K : PySem.W.Frag) (a : Addr) : It :=
  ⟨fun i H => ∃ (xs : List V) (x : V), SqT K H a xs ∧ xs[i]? = some x, fun i H v H' => ∃ T x, v = .ref T ∧ H T = none ∧ H' = upd H T (.tup [.int (i : Nat), x]) ∧ ∀ xs, SqT K H a xs → xs[i]? = some x, fun i H => ∃ xs : List V, SqT K H a xs ∧ xs.length ≤ i⟩
theorem turn_enumT {P : Program} {w : World} {K : PySem.W.Frag} {elts : List Expr} {kk : Nat} {tpos : Pos} (a e it : Addr) (hei : e ≠ it) (hai : a ≠ it) (hea : e ≠ a) :
    Turn P w K (.Tuple elts kk tpos) (IteT K a) [e, it] e (fun i h => (∃ old, IsEnum h e it ((i : Nat) : Int) old) ∧ h.IsTupleIter it a i) where
  mem := by simp
  obj := fun i h st b hb => by
    obtain ⟨⟨old, he⟩, o, ho, hc, hd⟩ := st
    have e' : b = e ∨ b = it := by simpa using hb
    rcases e' with z | z
    · rw [z]
      exact ⟨_, he, fun v q => nomatch q⟩
    · rw [z]
      exact ⟨o, ho, fun v q => by rw [hd] at q; cases q⟩
  keep := fun i h h' st k => ⟨st.1.imp fun old he => k e (by simp) _ he, st.2.at fun o q => k it (by simp) o q⟩
  item := by
    intro X hP hw hK hc i pins s σ H E I hf st hg
    subst hP hw hK
    obtain ⟨⟨old, he⟩, hit⟩ := st
    obtain ⟨xs, x, hq, hx⟩ := hg
    obtain ⟨its, rv, p, hz⟩ := I.tuple hq
    obtain ⟨u, hu, ru⟩ := rv.get hx
    have hel : e < s.heap.objs.size := Heap.lt_size he
    have hil : it < s.heap.objs.size := by
      obtain ⟨_, q, _⟩ := hit
      exact Heap.lt_size q
    have pt : s.heap.IsTuple a its.toArray := p
    have hlt : i < its.toArray.size := by
      have := (List.getElem?_eq_some_iff.mp hu).1
      simpa using this
    refine wpAny_pyNext_enum_itemD (Draws.tuple (A := X.A.in1) (I.ok.hd hc) it a hai its.toArray) he ⟨hit, pt⟩ hlt hei (by simp [hei, hea]) fun y h' tk hy ho hst hT hsz hk => ?_
    have hyu : y = u := by
      have h1 : its.toArray[i]? = some u := by simpa using hu
      rw [h1] at hy
      exact (Option.some.inj hy).symm
    subst hyu
    refine ⟨_, rfl, wpAny_letOwnedTupleGo_enum (s := { s with heap := h', toks := tk + 1 }) ho fun h'' he' sb => ?_⟩
    have hT2 : h''.get? s.heap.objs.size = some { cls := .type "tuple", data := .seq #[.int i tk, y] } := (sb.2 _ (Nat.ne_of_gt hel)).trans hT
    have new : ObjOk X.prog X.w (upd H s.heap.objs.size (.tup [.int (i : Nat), x])) h'' s.heap.objs.size (.tup [.int (i : Nat), x]) :=
      ⟨by show 2 ≤ sizeLine; decide, [.int i tk, y], .cons ⟨_, rfl⟩ (.cons ru .nil), ⟨_, hT2, rfl, _, rfl⟩⟩
    have I1 : Inv X pins σ (upd H s.heap.objs.size (.tup [.int (i : Nat), x])) { s with heap := h'', toks := tk + 1 } :=
      I.turnedNew (ch := [e, it]) (fun b ob hb q => (sb.2 b (fun z => hb (by simp [z]))).trans (hk b ob (fun z => hb (by simp [z])) (fun z => hb (by simp [z])) q)) hf (Nat.le_refl _) new
    refine ⟨.ref s.heap.objs.size, _, I1, rfl, ⟨_, x, rfl, I.hok.fresh (Nat.le_refl _), rfl, fun ys hy => by rw [I.tuple_inj hy hq]; exact hx⟩, ⟨⟨y, ?_⟩, hst.1.at fun o q => (sb.2 it (Ne.symm hei)).trans q⟩, fun b hb => ?_⟩
    · have e1 : ((i + 1 : Nat) : Int) = (i : Int) + 1 := by omega
      rw [e1]
      exact he'
    · have hb' : b < s.heap.objs.size := by
        have e' : b = e ∨ b = it := by simpa using hb
        rcases e' with z | z
        · rw [z]
          exact hel
        · rw [z]
          exact hil
      rw [upd_ne (Nat.ne_of_lt hb')]
      exact (hf b hb).1
  done := by
    intro X hP hw hK hc i pins s σ H E I hf st hg
    subst hP hw hK
    obtain ⟨⟨old, he⟩, hit⟩ := st
    obtain ⟨xs, hq, hx⟩ := hg
    obtain ⟨its, rv, p, hz⟩ := I.tuple hq
    obtain ⟨f0, f1, f2, f3, f4, f5⟩ := hf it (by simp)
    have hl := rv.length
    have pt : s.heap.IsTuple a its.toArray := p
    have hT : s.TypeIs (.ref e) "enumerate" := ⟨_, he, rfl⟩
    unfold pyNext
    refine wpAny_bind (wpAny_attempt (wpAny_callSpecial?_slot (name := Str.ofString "__next__") hT F.slot_enumerate_next
      (wpAny_call_entry F.slot_enumerate_next hT F.entry_enumerate_next ?_ (F.args_enumerate_next_1 _))))
    show wpAny _ _ (field (.ref e) 2 >>= _) _ _ _
    refine wpAny_bind (wpAny_field he rfl (x := .ref it) rfl ?_)
    refine wpAny_bind (wpAny_nextOf_tuple_end (A := X.A.in1) (I.ok.hd hc) hit pt (by simp; omega) fun h' x he' hx' => ?_)
    obtain ⟨o, ho, hcl⟩ := hx'
    refine wpAny_bind (wpAny_isInstance (T := "StopIteration") (b := true) ⟨o, ho, hcl⟩ isSubtype_stop ?_)
    exact wpAny_pure ⟨rfl, I.turned (t' := s.toks) (fun b o hb q => he' b o hb q) f0 f1 f3 f4 f5⟩
  self := fun A i s Q E st h => let ⟨⟨_, he⟩, _⟩ := st; wpAny_pyIter_enum he h
def iEnumT (K : PySem.W.Frag) (ta : TA) : TI := fun σ H R => ta σ H fun vs H1 => ∃ a xs, vs = [.ref a] ∧ SqT K H1 a xs ∧ R (IteT K a) H1
theorem pi_enumT {X : Cx} {e : Expr} {ta : TA} {p pos tpos : Pos} {elts : List Expr} {kk : Nat} (hg : Gl X "enumerate") (hm : X.mg "enumerate" = none) (ha : PA X [e] ta) (hs : starEach [e] X.env = [(false, eval e X.env)] := by rfl) :
    PI X (.Tuple elts kk tpos) (.Call (.Name "enumerate" p) [e] [] pos) (iEnumT X.K ta) := by
  refine ⟨fun pins s σ H R I h => ?_⟩
  refine Call_ (ld_blt I hg hm boot_enumerate (PyProof.Rows.callWith_type1 (thn (ha.run pos pins s σ H _ I h) fun us s1 ⟨vs, H1, I1, r1, q1⟩ => ?_) hs rfl))
  obtain ⟨a, xs, ex, hq, q⟩ := q1
  subst ex
  cases r1 with
  | cons r rr =>
    cases rr
    cases r
    obtain ⟨its, rv, p', hz⟩ := I1.tuple hq
    have pt : s1.heap.IsTuple a its.toArray := p'
    have hal : a < s1.heap.objs.size := by
      obtain ⟨_, ho, _⟩ := pt
      exact Heap.lt_size ho
    refine enum1 (begins_tuple a its.toArray) pt fun h' he hit hk => wpAny_pyIter_enum he ?_
    have I2 : Inv X pins σ H1 { s1 with heap := h' } := I1.kept (t' := s1.toks) hk
    refine ⟨s1.heap.objs.size + 1, [s1.heap.objs.size + 1, s1.heap.objs.size], _, _, H1, rfl, I2, turn_enumT a (s1.heap.objs.size + 1) s1.heap.objs.size (Nat.succ_ne_self _) (Nat.ne_of_lt hal) (Nat.ne_of_gt (Nat.lt_succ_of_lt hal)), ⟨⟨.none, he⟩, ⟨_, hit, rfl, rfl⟩⟩, fun b hb => ?_, q⟩
    have e' : b = s1.heap.objs.size + 1 ∨ b = s1.heap.objs.size := by simpa using hb
    have hle : s1.heap.objs.size ≤ b := by
      rcases e' with z | z
      · rw [z]
        exact Nat.le_add_right _ _
      · rw [z]
        exact Nat.le_refl _
    exact I1.fpOk hle (I1.hok.fresh hle)
theorem walk_enumT {K : PySem.W.Frag} {a : Addr} {xs : List V} : Walk (IteT K a) xs.length (fun H => SqT K H a xs) (fun i H v H' => ∃ T x, v = .ref T ∧ H T = none ∧ H' = upd H T (.tup [.int (i : Nat), x]) ∧ xs[i]? = some x) :=
  ⟨fun i _ hi q => ⟨xs, xs[i], q, by simp [hi]⟩, fun _ q => ⟨xs, q, Nat.le_refl _⟩, fun _ _ _ _ _ q y => (by
    obtain ⟨T, x, e1, e2, e3, e4⟩ := y
    exact ⟨T, x, e1, e2, e3, e4 xs q⟩)⟩
end Vk
set_option Elab.async false
set_option linter.all false
set_option maxRecDepth 100000
set_option maxHeartbeats 8000000
namespace Vk
open PySem PySem.Spec PyProof.Rows L2
theorem az_iff {c : Nat} : c ∈ azL ↔ 97 ≤ c ∧ c ≤ 122 := by
  have e : azL = List.range' 97 26 := by decide +kernel
  rw [e, List.mem_range']
  constructor
  · rintro ⟨i, h, rfl⟩
    omega
  · rintro ⟨h1, h2⟩
    exact ⟨c - 97, by omega, by omega⟩
theorem lt1 {a b : Nat} : ([a] : List Nat) < [b] ↔ a < b := by
  constructor
  · intro h
    cases h with
    | rel h => exact h
    | cons h => cases h
  · intro h
    exact .rel h
/-- a field, K named: inside a comprehension -/
theorem pe_fldK {X : Cx} {K : PySem.W.Frag} {e : Expr} {f : Str} {pos : Pos} {ta : TE} (hK : X.K = K) (he : PE X e ta) (hb : attributeBase e f X.env (eval e X.env) = eval e X.env) : PE X (.Attribute e f pos) (tFld K ta f) := hK ▸ pe_fld he hb
abbrev sIsText : Stmt := inClass (top 22) 7
theorem scIsText : FnScope ["self", "text", "sign"] ["self", "text"] (defScope sIsText) := ⟨rfl, rfl, rfl, by decide +kernel, rfl, by decide +kernel, by decide +kernel⟩
def spIsText (C : Addr) : Sp := fun vs H Q _ => ∃ (al : Addr) (l v t : List Nat), vs = [.ref al, .str (S t)] ∧ IsAl C H al l v ∧ Tx t ∧ ∀ H', Same H H' → Q (.bl (decide (∀ c ∈ t, c ∈ 45 :: srtL l))) H'
/-- an error class and its own __init__ -/
structure EF (K : PySem.W.Frag) (mg : Str → Option Value) (N : Str) (B fB : Addr) (fd : FuncData) (ps : List Str) : Prop where
  ox : OexC K B
  iC : PySem.W.findIn K (.ref B) "__init__" = some (some (.ref fB))
  tI : PySem.W.typeIn K (.ref fB) = some (.type "function")
  gB : mg N = some (.ref B)
  bB : Binds K fd ps []
structure Er where
  tm : Addr
  tmF : Addr
  tmD : FuncData
  bn : Addr
  bnF : Addr
  bnD : FuncData
  bf : Addr
  bfF : Addr
  bfD : FuncData
  up : Addr
  upF : Addr
  upD : FuncData
  dn : Addr
  dnF : Addr
  dnD : FuncData
  cf : Addr
  cfF : Addr
  cfD : FuncData
  kinds : Addr
  es : Array DictEntry
  nn : Nat
  t6 : Tok
  t8 : Tok
structure Bk (K : PySem.W.Frag) (mg : Str → Option Value) (w : World) (c : Er) : Prop where
  TM : EF K mg "TooMany" c.tm c.tmF c.tmD ["self", "most"]
  BN : EF K mg "BadName" c.bn c.bnF c.bnD ["self", "name"]
  BF : EF K mg "BadForm" c.bf c.bfF c.bfD ["self", "form"]
  UP : EF K mg "UnknownPlace" c.up c.upF c.upD ["self", "place"]
  DN : EF K mg "DuplicateName" c.dn c.dnF c.dnD ["self", "name"]
  CF : EF K mg "Conflict" c.cf c.cfF c.cfD ["self", "name", "other"]
  gLF : mg "LONGEST_FORM" = some (.int 6 c.t6)
  gLN : mg "LONGEST_NAME" = some (.int 8 c.t8)
  gK : mg "KINDS" = some (.ref c.kinds)
  kd : KDict K w c.kinds c.es c.nn
  kI : ∀ t : List Nat, ∃ r, PySem.W.nsIn K c.kinds (S t) = some r ∧ r.isSome = decide (t ∈ kindsL)
/-- the error that a fault is told by -/
def Raised (c : Er) (fl : List (List Nat)) (B : Addr) (fs : List (Str × V)) : Prop :=
  (∃ t, fl = [Lt "BadName", t] ∧ B = c.bn ∧ fs = ([("name", V.str (S t))] : List (Str × V))) ∨ (∃ t, fl = [Lt "BadForm", t] ∧ B = c.bf ∧ fs = ([("form", V.str (S t))] : List (Str × V))) ∨
  (∃ t, fl = [Lt "UnknownPlace", t] ∧ B = c.up ∧ fs = ([("place", V.str (S t))] : List (Str × V))) ∨ (∃ t, fl = [Lt "DuplicateName", t] ∧ B = c.dn ∧ fs = ([("name", V.str (S t))] : List (Str × V))) ∨
  (∃ t u, fl = [Lt "Conflict", t, u] ∧ B = c.cf ∧ fs = ([("other", V.str (S u)), ("name", V.str (S t))] : List (Str × V)))
theorem Same.none {H H' : Hp} {d : Addr} (s : Same H H') (h : H' d = none) : H d = none := by
  cases e : H d with
  | none => rfl
  | some u =>
    have := s _ _ e
    rw [h] at this
    cases this
def PostE (B b : Addr) (E : XK) (H1 : Hp) : VK := fun v H2 => v = .non ∧ ∃ (d : Addr) (fs : List (Str × V)), H2 b = some (exo b B (some d)) ∧ H2 d = some (exd d fs) ∧ H1 d = none ∧ E (.ref B) (some d) (upd (del H2 b) d (.xd fs))
theorem raise1 {B b : Addr} {H0 H1 : Hp} {E : XK} {f : Str} {y : V} (hb : H1 b = none) (s : Same H0 H1) (k : ∀ d H', H0 d = none → H' d = some (.xd [(f, y)]) → Same H0 H' → E (.ref B) (some d) H') :
    ∀ dx, (upd H1 b (exo b B none)) dx = none → dx ≠ b → PostE B b E H1 .non (upd (upd (upd H1 b (exo b B none)) dx (exd dx [(f, y)])) b (exo b B (some dx))) := by
  intro d hd hn
  refine ⟨rfl, d, [(f, y)], upd_same, ?_, ?_, ?_⟩
  · rw [upd_ne hn, upd_same]
  · rw [upd_ne hn] at hd
    exact hd
  · have h1 : H1 d = none := by
      rw [upd_ne hn] at hd
      exact hd
    exact k d _ (Same.none s h1) upd_same (Same.trans s (kp_exc hb hd hn))
theorem raise2 {B b : Addr} {H0 H1 : Hp} {E : XK} {f g : Str} {y z : V} (hb : H1 b = none) (s : Same H0 H1) (k : ∀ d H', H0 d = none → H' d = some (.xd [(g, z), (f, y)]) → Same H0 H' → E (.ref B) (some d) H') :
    ∀ dx, (upd H1 b (exo b B none)) dx = none → dx ≠ b → PostE B b E H1 .non (upd (upd (upd (upd H1 b (exo b B none)) dx (exd dx [(f, y)])) b (exo b B (some dx))) dx (exd dx [(g, z), (f, y)])) := by
  intro d hd hn
  have h1 : H1 d = none := by
    rw [upd_ne hn] at hd
    exact hd
  refine ⟨rfl, d, [(g, z), (f, y)], ?_, upd_same, h1, ?_⟩
  · rw [upd_ne hn.symm, upd_same]
  · refine k d _ (Same.none s h1) upd_same (Same.trans s fun c u e => ?_)
    have n1 : c ≠ b := ne_of_none e hb
    have n2 : c ≠ d := ne_of_none e h1
    rw [upd_ne n2, del_ne n1, upd_ne n2, upd_ne n1, upd_ne n2, upd_ne n1]
    exact e
/-- entries held by a tuple at y -/
def TupRows (H : Hp) (y : Addr) (ps : List (Addr × Row)) : Prop := H y = some (.tup (ps.map fun q => V.ref q.1)) ∧ ∀ q ∈ ps, H q.1 = some (.tup q.2.vs) ∧ q.2.ok
theorem TupRows.same {H H' : Hp} {u : Addr} {ps : List (Addr × Row)} (h : TupRows H u ps) (s : Same H H') : TupRows H' u ps := ⟨s _ _ h.1, fun q hq => ⟨s _ _ (h.2 q hq).1, (h.2 q hq).2⟩⟩
section
variable {P : Program} {w : World} {K : PySem.W.Frag} {mg : Str → Option Value} {base : Heap} {a : Ad} {d : Fd} {c : Er} {C fT : Addr} {fdT : FuncData}
theorem ok_isText (F : Fun K "is_text" "Alphabet.is_text" sIsText fT fdT) (T : Fns K mg a d) (A : AlF K C) : FnOk P w K mg base CX0 1 fT fdT ["self", "text"] (spIsText C) := by
  refine F.ok scIsText (fun vs H Q E h => ?_) (fun cdv A0 outer s H vs Q E hr h => ?_)
  · obtain ⟨al, l, v, t, rfl, _⟩ := h
    rfl
  · obtain ⟨al, l, v, t, rfl, ⟨dx, hal⟩, ht, k⟩ := h
    refine ⟨_, (pss_one (ps_ret (pe_callB (cr_all rfl) (by rfl) T.z_all (by decide +kernel) (pa_cons (pe_lc (own := [("sign", 2)]) (g := gName 2) (by rfl) scIsText.nd (pi_str (pv 1)) (blkOk_by (own := [("sign", 2)]) (N := ["self", "text", "sign"]) (sc := defScope sIsText) (by decide +kernel)) (fun _ _ _ _ _ => pg_name (i := 2) scIsText.nd rfl (Or.inl rfl)) (fun _ _ _ _ _ => pts_nil) (fun _ _ _ _ _ => (pe_cmpR op_in_sign (pv 2) (pe_fldK (K := K) (by rfl) (pv 0) (by rfl)) rfl))) pa_nil)))), ?_⟩
    have hlen := ht.1
    refine ⟨_, rfl, _, rfl, fun D hD => lc_text (fun _ => true) (fun c => V.bl (decide (c ∈ 45 :: srtL l))) (by omega) (fun _ => rfl) (fun _ _ _ _ _ q => q) (fun c hc _ H2 Q2 off q => ⟨_, rfl, _, rfl, al, C, dx, _, _, rfl, (off al (ne_of_none hal hD)).trans hal, A.cl, A.nS, rfl, c, S (45 :: srtL l), rfl, rfl, by rw [S_cps]; exact q⟩) ?_⟩
    refine ⟨D, t.map (fun c => decide (c ∈ 45 :: srtL l)), rfl, ?_, ?_⟩
    · rw [List.map_map]
      refine SqL.of ?_
      rw [upd_same, List.filter_eq_self.mpr (fun _ _ => rfl)]
      rfl
    · have e3 : (t.map fun c => decide (c ∈ 45 :: srtL l)).all id = decide (∀ c ∈ t, c ∈ 45 :: srtL l) := by
        rw [Bool.eq_iff_iff]
        simp
      rw [e3]
      exact k _ (upd_laid hD)
theorem scIsForm : FnScope ["alphabet", "form"] ["alphabet", "form"] (defScope sIsForm) := ⟨rfl, rfl, rfl, by decide +kernel, rfl, by decide +kernel, by decide +kernel⟩
def spIsForm (C : Addr) : Sp := fun vs H Q _ => ∃ (al : Addr) (l v t : List Nat), vs = [.ref al, .str (S t)] ∧ IsAl C H al l v ∧ Tx t ∧ ∀ H', Same H H' → Q (.bl (isW (45 :: srtL l) 6 t)) H'
theorem ok_isForm (T : Fns K mg a d) (A : AlF K C) (V : Bk K mg w c) (mT : Meth K C "is_text" fT) (GT : FnOk P w K mg base CX0 1 fT fdT ["self", "text"] (spIsText C)) (bT : Binds K fdT ["self", "text"] []) : FnOk P w K mg base CX0 2 a.aIsForm d.dIsForm ["alphabet", "form"] (spIsForm C) := by
  refine T.FIsForm.ok scIsForm (fun vs H Q E h => ?_) (fun cdv A0 outer s H vs Q E hr h => ?_)
  · obtain ⟨al, l, v, t, rfl, _⟩ := h
    rfl
  · obtain ⟨al, l, v, t, rfl, hA, ht, k⟩ := h
    refine ⟨_, (pss_one (ps_ret (pe_and (pe_chain op_le op_le pe_int (pe_callB call_len_str (by rfl) T.z_len (by decide +kernel) (pa_cons (pv 1) pa_nil)) (pe_glob (v := .int 6) (by rfl) V.gLF ⟨_, rfl⟩)) (pe_one (pe_meth (pv 0) A.cl mT GT (hr.mono (by decide)) bT .nil pass0 (pa_cons (pv 1) pa_nil)))))), ?_⟩
    have hlen := ht.1
    have htl : (S t).length ≤ sizeLine := sz4 (by rw [S_len]; omega)
    unfold isW at k
    have kf : ¬ (1 ≤ t.length ∧ t.length ≤ 6) → Q (.bl false) H := fun hn => by
      have q := k H (Same.refl H)
      by_cases h1 : 1 ≤ t.length
      · by_cases h2 : t.length ≤ 6
        · exact absurd ⟨h1, h2⟩ hn
        · rw [decide_eq_false h2, Bool.false_and, Bool.and_false] at q
          exact q
      · rw [decide_eq_false h1, Bool.false_and] at q
        exact q
    refine ⟨_, rfl, _, rfl, htl, _, _, rfl, rfl, _, rfl, ite2 (fun h1 => ⟨_, _, rfl, rfl, _, rfl, ite2 (fun h2 => ?_) (fun h2 => ?_)⟩) (fun h1 => ⟨_, rfl, iteF (kf ?_)⟩)⟩
    · have g1 : 1 ≤ t.length := by
        have := of_decide_eq_true h1
        rw [S_len] at this
        omega
      have g2 : t.length ≤ 6 := by
        have := of_decide_eq_true h2
        rw [S_len] at this
        omega
      rw [decide_eq_true g1, decide_eq_true g2, Bool.true_and, Bool.true_and] at k
      obtain ⟨dx, hal⟩ := id hA
      exact ⟨_, rfl, al, dx, _, rfl, hal, rfl, _, rfl, al, l, v, t, rfl, hA, ht, k⟩
    · refine kf fun z => h2 (decide_eq_true ?_)
      have := z.2
      rw [S_len]
      omega
    · intro z
      refine h1 (decide_eq_true ?_)
      have := z.1
      rw [S_len]
      omega
end
end Vk
set_option Elab.async false
set_option linter.all false
set_option maxRecDepth 100000
set_option maxHeartbeats 8000000
namespace Vk
open PySem PySem.Spec PyProof.Rows L2
theorem lea (c : Nat) : (!decide ((S [c]).cps.toList < (PySem.Str.ofString "a").cps.toList)) = decide (97 ≤ c) := by
  have e : (PySem.Str.ofString "a").cps.toList = [97] := by decide +kernel
  rw [e, S_cps, decide_eq_decide.mpr (lt1 (a := c) (b := 97))]
  by_cases h : 97 ≤ c
  · rw [decide_eq_true h, decide_eq_false (by omega)]
    rfl
  · rw [decide_eq_false h, decide_eq_true (by omega)]
    rfl
theorem lez (c : Nat) : (!decide ((PySem.Str.ofString "z").cps.toList < (S [c]).cps.toList)) = decide (c ≤ 122) := by
  have e : (PySem.Str.ofString "z").cps.toList = [122] := by decide +kernel
  rw [e, S_cps, decide_eq_decide.mpr (lt1 (a := 122) (b := c))]
  by_cases h : c ≤ 122
  · rw [decide_eq_true h, decide_eq_false (by omega)]
    rfl
  · rw [decide_eq_false h, decide_eq_true (by omega)]
    rfl
section
variable {P : Program} {w : World} {K : PySem.W.Frag} {mg : Str → Option Value} {base : Heap} {a : Ad} {d : Fd} {c : Er} {C fT : Addr} {fdT : FuncData}
/-- what the errors' own __init__ keep -/
structure Gs (P : Program) (w : World) (K : PySem.W.Frag) (mg : Str → Option Value) (base : Heap) (c : Er) : Prop where
  TM : FnOk P w K mg base CX0 1 c.tmF c.tmD ["self", "most"] (spETooMany c.tm)
  BN : FnOk P w K mg base CX0 1 c.bnF c.bnD ["self", "name"] (spEBadName c.bn)
  BF : FnOk P w K mg base CX0 1 c.bfF c.bfD ["self", "form"] (spEBadForm c.bf)
  UP : FnOk P w K mg base CX0 1 c.upF c.upD ["self", "place"] (spEUnknownPlace c.up)
  DN : FnOk P w K mg base CX0 1 c.dnF c.dnD ["self", "name"] (spEDuplicateName c.dn)
  CF : FnOk P w K mg base CX0 1 c.cfF c.cfD ["self", "name", "other"] (spEConflict c.cf)
def spCheck (C : Addr) (c : Er) : Sp := fun vs H Q E => ∃ (al x y : Addr) (l v : List Nat) (e : Row) (ps : List (Addr × Row)), vs = [.ref al, .ref x, .ref y] ∧ IsAl C H al l v ∧ H x = some (.tup e.vs) ∧ e.ok ∧ TupRows H y ps ∧ ps.length ≤ 20 ∧
  (faultL (45 :: srtL l) e (ps.map (·.2)) = [] → ∀ H', Same H H' → Q .non H') ∧
  (∀ B dd fs H', Raised c (faultL (45 :: srtL l) e (ps.map (·.2))) B fs → H dd = none → H' dd = some (.xd fs) → Same H H' → E (.ref B) (some dd) H')
theorem scCheck : FnScope ["alphabet", "entry", "earlier", "name", "long", "short", "place", "letter", "form", "other"] ["alphabet", "entry", "earlier"] (defScope sCheck) := ⟨rfl, rfl, rfl, by decide +kernel, rfl, by decide +kernel, by decide +kernel⟩
theorem ok_check (T : Fns K mg a d) (A : AlF K C) (Wk : Bk K mg w c) (G : Gs P w K mg base c) (mT : Meth K C "is_text" fT) (GT : FnOk P w K mg base CX0 1 fT fdT ["self", "text"] (spIsText C)) (bT : Binds K fdT ["self", "text"] []) : FnOk P w K mg base (L2.CX P w) 3 a.aCheck d.dCheck ["alphabet", "entry", "earlier"] (spCheck C c) := by
  have GIsForm : FnOk P w K mg base CX0 2 a.aIsForm d.dIsForm ["alphabet", "form"] (spIsForm C) := ok_isForm T A Wk mT GT bT
  have GConf : FnOk P w K mg base CX0 2 a.aConf d.dConf ["entry", "other"] spConf := ok_conf T
  have GBN := G.BN
  have GBF := G.BF
  have GUP := G.UP
  have GDN := G.DN
  have GCF := G.CF
  refine T.FCheck.okX scCheck (fun vs H Q E h => ?_) (fun cdv A0 outer s H vs Q E hr h => ?_)
  · obtain ⟨al, x, y, l, v, e, ps, rfl, _⟩ := h
    rfl
  · obtain ⟨al, x, y, l, v, e, ps, rfl, hA, hx, heok, hY, hps, kq, ke⟩ := h
    refine ⟨_, (pss_cons (ps_asg (pv 1) (pg_tup rfl (pgs_cons (pg_name (i := 3) scCheck.nd rfl (Or.inr rfl)) (pgs_cons (pg_name (i := 4) scCheck.nd rfl (Or.inl rfl)) (pgs_cons (pg_name (i := 5) scCheck.nd rfl (Or.inl rfl)) (pgs_cons (pg_name (i := 6) scCheck.nd rfl (Or.inl rfl)) pgs_nil))))))
      (pss_cons (ps_if (PW.pt (pw_or (pt_not (pt_chain op_le op_le pe_int (pe_callB call_len_str (by rfl) T.z_len (by decide +kernel) (pa_cons (pv 3) pa_nil)) (pe_glob (v := .int 8) (by rfl) Wk.gLN ⟨_, rfl⟩))) (pw_or1 (pt_not (pt_val (pe_callB (cr_all rfl) (by rfl) T.z_all (by decide +kernel) (pa_cons (pe_lc (own := [("letter", 7)]) (g := gName 7) (by rfl) scCheck.nd (pi_str (pv 3)) (blkOk_by (own := [("letter", 7)]) (N := ["alphabet", "entry", "earlier", "name", "long", "short", "place", "letter", "form", "other"]) (sc := defScope sCheck) (by decide +kernel)) (fun _ _ _ _ _ => pg_name (i := 7) scCheck.nd rfl (Or.inl rfl)) (fun _ _ _ _ _ => pts_nil) (fun _ _ _ _ _ => (pe_chain op_le_str op_le_str pe_str (pv 7) pe_str))) pa_nil))))))) (pss_one (ps_raise rfl (takes_of rfl rfl rfl rfl) (pmk_oex Wk.BN.ox Wk.BN.iC Wk.BN.tI GBN (hr.mono (by decide)) Wk.BN.bB .nil pass0 (by rfl) Wk.BN.gB (pa_cons (pv 3) pa_nil)))) pss_nil)
      (pss_cons (ps_for (passes_of rfl) rfl (pi_list (pe_lst (pa_cons (pv 4) (pa_cons (pv 5) pa_nil)))) (pg_name (i := 8) scCheck.nd rfl (Or.inl rfl)) (pss_one (ps_if (pt_not (pt_val (pe_call GIsForm (hr.mono (by decide)) (by rfl) T.gIsForm T.FIsForm.kp T.bIsForm .nil pass0 (pa_cons (pv 0) (pa_cons (pv 8) pa_nil))))) (pss_one (ps_raise rfl (takes_of rfl rfl rfl rfl) (pmk_oex Wk.BF.ox Wk.BF.iC Wk.BF.tI GBF (hr.mono (by decide)) Wk.BF.bB .nil pass0 (by rfl) Wk.BF.gB (pa_cons (pv 8) pa_nil)))) pss_nil)))
      (pss_cons (ps_if (pt_cmpR (op_notIn_kd Wk.kd) (pv 6) (pe_glob (v := .ref c.kinds) (by rfl) Wk.gK rfl) rfl) (pss_one (ps_raise rfl (takes_of rfl rfl rfl rfl) (pmk_oex Wk.UP.ox Wk.UP.iC Wk.UP.tI GUP (hr.mono (by decide)) Wk.UP.bB .nil pass0 (by rfl) Wk.UP.gB (pa_cons (pv 6) pa_nil)))) pss_nil)
      (pss_cons (ps_if (pt_val (pe_callB (cr_any rfl) (by rfl) T.z_any (by decide +kernel) (pa_cons (pe_lc (own := [("other", 9)]) (g := gName 9) (by rfl) scCheck.nd (pi_tup (pv 2)) (blkOk_by (own := [("other", 9)]) (N := ["alphabet", "entry", "earlier", "name", "long", "short", "place", "letter", "form", "other"]) (sc := defScope sCheck) (by decide +kernel)) (fun _ _ _ _ _ => pg_name (i := 9) scCheck.nd rfl (Or.inl rfl)) (fun _ _ _ _ _ => pts_nil) (fun _ _ _ _ _ => (pe_cmpR op_eq (pv 3) (pe_ix (r := rIxT K) ix_tup (pv 9) pe_int (fun _ _ => rfl)) (nomark _)))) pa_nil))) (pss_one (ps_raise rfl (takes_of rfl rfl rfl rfl) (pmk_oex Wk.DN.ox Wk.DN.iC Wk.DN.tI GDN (hr.mono (by decide)) Wk.DN.bB .nil pass0 (by rfl) Wk.DN.gB (pa_cons (pv 3) pa_nil)))) pss_nil)
      (pss_one (ps_for (passes_of rfl) rfl (pi_tup (pv 2)) (pg_name (i := 9) scCheck.nd rfl (Or.inl rfl)) (pss_one (ps_if (pt_val (pe_call GConf (hr.mono (by decide)) (by rfl) T.gConf T.FConf.kp T.bConf .nil pass0 (pa_cons (pv 1) (pa_cons (pv 9) pa_nil)))) (pss_one (ps_raise rfl (takes_of rfl rfl rfl rfl) (pmk_oex Wk.CF.ox Wk.CF.iC Wk.CF.tI GCF (hr.mono (by decide)) Wk.CF.bB .nil pass0 (by rfl) Wk.CF.gB (pa_cons (pv 3) (pa_cons (pe_ix (r := rIxT K) ix_tup (pv 9) pe_int (fun _ _ => rfl)) pa_nil))))) pss_nil))))))))), ?_⟩
    generalize hsg : (45 :: srtL l) = sg at kq ke
    obtain ⟨on, ol, os, op⟩ := id heok
    have honl := on.1
    have hnl : (S e.n).length ≤ sizeLine := sz4 (by rw [S_len]; omega)
    have rN : faultL sg e (ps.map (·.2)) = [Lt "BadName", e.n] → ∀ H1, Same H H1 → ([V.str (S e.n)] : List V).length ≤ 1000 ∧ ∀ b, H1 b = none → spEBadName c.bn [.ref b, .str (S e.n)] (upd H1 b (exo b c.bn none)) (PostE c.bn b E H1) (fun _ _ _ => False) :=
      fun hf H1 s => ⟨by show 1 ≤ 1000; decide, fun b hb => ⟨b, e.n, rfl, on, upd_same, raise1 hb s fun dd H' h1 h2 h3 => ke c.bn dd _ H' (.inl ⟨_, hf, rfl, rfl⟩) h1 h2 h3⟩⟩
    have rF : ∀ t, Tx t → faultL sg e (ps.map (·.2)) = [Lt "BadForm", t] → ∀ H1, Same H H1 → ([V.str (S t)] : List V).length ≤ 1000 ∧ ∀ b, H1 b = none → spEBadForm c.bf [.ref b, .str (S t)] (upd H1 b (exo b c.bf none)) (PostE c.bf b E H1) (fun _ _ _ => False) :=
      fun t ht hf H1 s => ⟨by show 1 ≤ 1000; decide, fun b hb => ⟨b, t, rfl, ht, upd_same, raise1 hb s fun dd H' h1 h2 h3 => ke c.bf dd _ H' (.inr (.inl ⟨_, hf, rfl, rfl⟩)) h1 h2 h3⟩⟩
    have rP : faultL sg e (ps.map (·.2)) = [Lt "UnknownPlace", e.p] → ∀ H1, Same H H1 → ([V.str (S e.p)] : List V).length ≤ 1000 ∧ ∀ b, H1 b = none → spEUnknownPlace c.up [.ref b, .str (S e.p)] (upd H1 b (exo b c.up none)) (PostE c.up b E H1) (fun _ _ _ => False) :=
      fun hf H1 s => ⟨by show 1 ≤ 1000; decide, fun b hb => ⟨b, e.p, rfl, op, upd_same, raise1 hb s fun dd H' h1 h2 h3 => ke c.up dd _ H' (.inr (.inr (.inl ⟨_, hf, rfl, rfl⟩))) h1 h2 h3⟩⟩
    have rD : faultL sg e (ps.map (·.2)) = [Lt "DuplicateName", e.n] → ∀ H1, Same H H1 → ([V.str (S e.n)] : List V).length ≤ 1000 ∧ ∀ b, H1 b = none → spEDuplicateName c.dn [.ref b, .str (S e.n)] (upd H1 b (exo b c.dn none)) (PostE c.dn b E H1) (fun _ _ _ => False) :=
      fun hf H1 s => ⟨by show 1 ≤ 1000; decide, fun b hb => ⟨b, e.n, rfl, on, upd_same, raise1 hb s fun dd H' h1 h2 h3 => ke c.dn dd _ H' (.inr (.inr (.inr (.inl ⟨_, hf, rfl, rfl⟩)))) h1 h2 h3⟩⟩
    have rC : ∀ u, Tx u → faultL sg e (ps.map (·.2)) = [Lt "Conflict", e.n, u] → ∀ H1, Same H H1 → ([V.str (S e.n), V.str (S u)] : List V).length ≤ 1000 ∧ ∀ b, H1 b = none → spEConflict c.cf [.ref b, .str (S e.n), .str (S u)] (upd H1 b (exo b c.cf none)) (PostE c.cf b E H1) (fun _ _ _ => False) :=
      fun u hu hf H1 s => ⟨by show 2 ≤ 1000; decide, fun b hb => ⟨b, e.n, u, rfl, on, hu, upd_same, raise2 hb s fun dd H' h1 h2 h3 => ke c.cf dd _ H' (.inr (.inr (.inr (.inr ⟨_, _, hf, rfl, rfl⟩)))) h1 h2 h3⟩⟩
    have bad : isW azL 8 e.n = false → faultL sg e (ps.map (·.2)) = [Lt "BadName", e.n] := fun h2 => by
      unfold faultL
      rw [if_pos h2]
    refine ⟨_, rfl, x, _, rfl, SqT.of hx, rfl, _, _, rfl, _, _, rfl, _, _, rfl, _, _, rfl, rfl, ?_⟩
    refine ⟨_, rfl, _, rfl, hnl, _, _, rfl, rfl, _, rfl, ite2 (fun h1 => ⟨_, _, rfl, rfl, _, rfl, ?_⟩) (fun h1 => ⟨_, rfl, iteT (iteT ⟨_, rfl, rN (bad ?_) H (Same.refl H)⟩)⟩)⟩
    rotate_left
    · have hn : ¬ 1 ≤ e.n.length := fun z => h1 (decide_eq_true (by rw [S_len]; omega))
      unfold isW
      rw [decide_eq_false hn, Bool.false_and]
    have g1 : 1 ≤ e.n.length := by
      have := of_decide_eq_true h1
      rw [S_len] at this
      omega
    refine ite2 (fun h2 => iteT ⟨_, rfl, rN (bad ?_) H (Same.refl H)⟩) (fun h2 => ?_)
    · have hn : ¬ e.n.length ≤ 8 := fun z => by
        have h3 : decide (((S e.n).length : Int) ≤ 8) = true := decide_eq_true (by rw [S_len]; omega)
        have h4 : (!decide (((S e.n).length : Int) ≤ 8)) = true := h2
        rw [h3] at h4
        cases h4
      unfold isW
      rw [decide_eq_false hn, Bool.false_and, Bool.and_false]
    have g2 : e.n.length ≤ 8 := by
      have h3 : decide (((S e.n).length : Int) ≤ 8) = true := by
        cases ee : decide (((S e.n).length : Int) ≤ 8) with
        | true => rfl
        | false => exact absurd (show (!decide (((S e.n).length : Int) ≤ 8)) = true by rw [ee]; rfl) h2
      have := of_decide_eq_true h3
      rw [S_len] at this
      omega
    refine ⟨_, rfl, _, rfl, fun D hD => lc_text (fun _ => true) (fun c => V.bl (decide (c ∈ azL))) (by omega) (fun _ => rfl) (fun _ _ _ _ _ q => q) (fun c hc _ H2 Q2 off q => (by
      refine ⟨_, rfl, _, _, rfl, rfl, _, rfl, ?_⟩
      rw [lea]
      refine ite2 (fun h3 => ⟨_, _, rfl, rfl, ?_⟩) (fun h3 => ?_)
      · rw [lez]
        rw [decide_eq_decide.mpr (az_iff.trans ⟨fun z => z.2, fun z => ⟨of_decide_eq_true h3, z⟩⟩)] at q
        exact q
      · rw [decide_eq_false (fun z => h3 (decide_eq_true (az_iff.mp z).1))] at q
        exact q)) ?_⟩
    refine ⟨D, e.n.map (fun c => decide (c ∈ azL)), rfl, ?_, ?_⟩
    · rw [List.map_map]
      refine SqL.of ?_
      rw [upd_same, List.filter_eq_self.mpr (fun _ _ => rfl)]
      rfl
    have e3 : (e.n.map fun c => decide (c ∈ azL)).all id = decide (∀ c ∈ e.n, c ∈ azL) := by
      rw [Bool.eq_iff_iff]
      simp
    rw [e3]
    have s1 : Same H (upd H D (.lst ((e.n.filter fun _ => true).map fun c => V.bl (decide (c ∈ azL))))) := upd_laid hD
    generalize upd H D (.lst ((e.n.filter fun _ => true).map fun c => V.bl (decide (c ∈ azL)))) = H1 at s1
    have hw : isW azL 8 e.n = decide (∀ c ∈ e.n, c ∈ azL) := by
      unfold isW
      rw [decide_eq_true g1, decide_eq_true g2, Bool.true_and, Bool.true_and]
    rw [← hw]
    refine ⟨_, rfl, ite2 (fun h3 => ⟨_, rfl, rN (bad (by simpa using h3)) H1 s1⟩) (fun h3 => ?_)⟩
    have w1 : ¬ isW azL 8 e.n = false := by simpa using h3
    have hA1 := hA.same s1
    refine ⟨_, rfl, _, rfl, (by show 2 ≤ sizeLine; decide), fun p1 hp1 => ?_⟩
    have s2 := Same.trans s1 (upd_laid (o := .lst [.str (S e.l), .str (S e.s)]) hp1)
    have hp2 : (upd H1 p1 (.lst [.str (S e.l), .str (S e.s)])) p1 = some (.lst [.str (S e.l), .str (S e.s)]) := upd_same
    generalize upd H1 p1 (.lst [.str (S e.l), .str (S e.s)]) = H2 at s2 hp2
    refine ⟨p1, rfl, ⟨_, SqL.of hp2⟩, for_list (K := K) (a := p1) (xs := [.str (S e.l), .str (S e.s)]) (fun i σ H' => (∃ v8 : Option V, σ = [some (.ref al), some (.ref x), some (.ref y), some (.str (S e.n)), some (.str (S e.l)), some (.str (S e.s)), some (.str (S e.p)), none, v8, none]) ∧ Same H2 H' ∧ (1 ≤ i → isW sg 6 e.l = true) ∧ (2 ≤ i → isW sg 6 e.s = true))
      ⟨⟨none, rfl⟩, Same.refl _, by omega, by omega⟩ (fun i σ H' _ ⟨_, s, _⟩ => SqL.of (s _ _ hp2)) ?_ ?_⟩
    · rintro i z σ H3 hi ⟨⟨v8, rfl⟩, s3, c1, c2⟩
      have s23 := Same.trans s2 s3
      match i, hi with
      | 0, hi =>
        have hy : V.str (S e.l) = z := Option.some.inj hi
        subst hy
        refine ⟨_, rfl, _, rfl, al, l, v, e.l, rfl, hA.same s23, ol, fun H4 s4 => ?_⟩
        rw [hsg]
        refine ⟨_, rfl, ite2 (fun h2 => ?_) (fun h2 => ?_)⟩
        · have h3 : isW sg 6 e.l = false := by simpa using h2
          refine ⟨_, rfl, rF e.l ol ?_ H4 (Same.trans s23 s4)⟩
          unfold faultL
          rw [if_neg w1, if_pos h3]
        · have h3 : isW sg 6 e.l = true := by simpa using h2
          exact ⟨⟨_, rfl⟩, Same.trans s3 s4, fun _ => h3, by omega⟩
      | 1, hi =>
        have hy : V.str (S e.s) = z := Option.some.inj hi
        subst hy
        have d1 := c1 (Nat.le_refl _)
        refine ⟨_, rfl, _, rfl, al, l, v, e.s, rfl, hA.same s23, os, fun H4 s4 => ?_⟩
        rw [hsg]
        refine ⟨_, rfl, ite2 (fun h2 => ?_) (fun h2 => ?_)⟩
        · have h3 : isW sg 6 e.s = false := by simpa using h2
          refine ⟨_, rfl, rF e.s os ?_ H4 (Same.trans s23 s4)⟩
          unfold faultL
          rw [if_neg w1, if_neg (by rw [d1]; decide), if_pos h3]
        · have h3 : isW sg 6 e.s = true := by simpa using h2
          exact ⟨⟨_, rfl⟩, Same.trans s3 s4, fun _ => d1, fun _ => h3⟩
      | n + 2, hi => simp at hi
    · rintro σ H3 ⟨⟨v8, rfl⟩, s3, c1, c2⟩
      have d1 := c1 (by show 1 ≤ 2; decide)
      have d2 := c2 (by show 2 ≤ 2; decide)
      have s23 := Same.trans s2 s3
      obtain ⟨r, hr1, hr2⟩ := Wk.kI e.p
      refine ⟨_, rfl, S e.p, r, rfl, rfl, hr1, ?_⟩
      rw [hr2]
      refine ⟨_, rfl, ite2 (fun h2 => ?_) (fun h2 => ?_)⟩
      · have h3 : e.p ∉ kindsL := by simpa using h2
        refine ⟨_, rfl, rP ?_ H3 s23⟩
        unfold faultL
        rw [if_neg w1, if_neg (by rw [d1]; decide), if_neg (by rw [d2]; decide), if_pos h3]
      have h3 : ¬ e.p ∉ kindsL := by simpa using h2
      have hY3 := hY.same s23
      refine ⟨_, rfl, y, rfl, ⟨_, SqT.of hY3.1⟩, fun D2 hD2 => lc_tupE (fun q : Addr × Row => V.ref q.1) (fun _ => true) (fun q => V.bl (decide (e.n = q.2.n))) (by omega) hY3.1 hD2 (fun _ => rfl) (fun _ _ _ _ _ q => q) (fun q hq _ H4 Q4 off k3 => ⟨_, rfl, _, rfl, q.1, _, 0, _, rfl, rfl, SqT.of ((off q.1 (ne_of_none (hY3.2 q hq).1 hD2)).trans (hY3.2 q hq).1), rfl, rfl, by rw [S_eq_iff]; exact k3⟩) ?_⟩
      rw [col_map]
      have s5 := Same.trans s23 (upd_laid (o := .lst (ps.map fun q => V.bl (decide (e.n = q.2.n)))) hD2)
      have hD5 : (upd H3 D2 (.lst (ps.map fun q => V.bl (decide (e.n = q.2.n))))) D2 = some (.lst ((ps.map fun q => decide (e.n = q.2.n)).map V.bl)) := by
        rw [upd_same, List.map_map]
        rfl
      generalize upd H3 D2 (.lst (ps.map fun q => V.bl (decide (e.n = q.2.n)))) = H5 at s5 hD5
      have eany : (ps.map fun q => decide (e.n = q.2.n)).any id = decide (e.n ∈ (ps.map (·.2)).map (·.n)) := by
        rw [Bool.eq_iff_iff]
        constructor
        · intro h
          obtain ⟨b, hb, ht⟩ := List.any_eq_true.mp h
          obtain ⟨q, hq, rfl⟩ := List.mem_map.mp hb
          exact decide_eq_true (List.mem_map.mpr ⟨q.2, List.mem_map.mpr ⟨q, hq, rfl⟩, (of_decide_eq_true ht).symm⟩)
        · intro h
          obtain ⟨r, hr, he⟩ := List.mem_map.mp (of_decide_eq_true h)
          obtain ⟨q, hq, rfl⟩ := List.mem_map.mp hr
          exact List.any_eq_true.mpr ⟨_, List.mem_map.mpr ⟨q, hq, rfl⟩, decide_eq_true he.symm⟩
      refine ⟨D2, _, rfl, SqL.of hD5, ?_⟩
      rw [eany]
      refine ⟨_, rfl, ite2 (fun h4 => ?_) (fun h4 => ?_)⟩
      · refine ⟨_, rfl, rD ?_ H5 s5⟩
        unfold faultL
        rw [if_neg w1, if_neg (by rw [d1]; decide), if_neg (by rw [d2]; decide), if_neg h3, if_pos (of_decide_eq_true h4)]
      have h5 : ¬ e.n ∈ (ps.map (·.2)).map (·.n) := fun z => h4 (decide_eq_true z)
      have hY5 := hY.same s5
      refine ⟨_, rfl, y, rfl, ⟨_, SqT.of hY5.1⟩, for_tup (K := K) (a := y) (xs := ps.map fun q => V.ref q.1) (fun i σ H' => H' = H5 ∧ (∃ v8 v9 : Option V, σ = [some (.ref al), some (.ref x), some (.ref y), some (.str (S e.n)), some (.str (S e.l)), some (.str (S e.s)), some (.str (S e.p)), none, v8, v9]) ∧ ∀ r ∈ (ps.map (·.2)).take i, confB r e = false)
        ⟨rfl, ⟨_, _, rfl⟩, by simp⟩ (fun i σ H' _ ⟨e, _⟩ => SqT.of (by rw [e]; exact hY5.1)) ?_ ?_⟩
      · rintro i z σ H6 hi ⟨rfl, ⟨v8, v9, rfl⟩, hno⟩
        obtain ⟨q, hq, rfl⟩ : ∃ q, ps[i]? = some q ∧ z = V.ref q.1 := by
          rw [List.getElem?_map] at hi
          cases ee : ps[i]? with
          | none => rw [ee] at hi; cases hi
          | some z => rw [ee] at hi; exact ⟨z, rfl, (Option.some.inj hi).symm⟩
        have hqm := List.mem_of_getElem? hq
        obtain ⟨hqt, hqok⟩ := hY5.2 q hqm
        have hq2 : (ps.map (·.2))[i]? = some q.2 := by rw [List.getElem?_map, hq]; rfl
        refine ⟨_, rfl, _, rfl, x, q.1, e, q.2, rfl, s5 _ _ hx, hqt, _, rfl, ite2 (fun h6 => ?_) (fun h6 => ⟨rfl, ⟨_, _, rfl⟩, fun r hr => ?_⟩)⟩
        · refine ⟨_, rfl, _, rfl, q.1, _, 0, _, rfl, rfl, SqT.of hqt, rfl, rC q.2.n hqok.1 ?_ H6 s5⟩
          have hfind : (ps.map (·.2)).find? (fun r => confB r e) = some q.2 := by
            rw [List.find?_eq_some_iff_append]
            refine ⟨h6, (ps.map (·.2)).take i, (ps.map (·.2)).drop (i + 1), ?_, fun r hr => ?_⟩
            · have hil : i < (ps.map (·.2)).length := (List.getElem?_eq_some_iff.mp hq2).1
              have hg := (List.getElem?_eq_some_iff.mp hq2).2
              rw [← hg, ← List.drop_eq_getElem_cons hil, List.take_append_drop]
            · rw [hno r hr]
              rfl
          unfold faultL
          rw [if_neg w1, if_neg (by rw [d1]; decide), if_neg (by rw [d2]; decide), if_neg h3, if_neg h5, hfind]
        · rw [List.take_add_one, hq2] at hr
          rcases List.mem_append.mp hr with h | h
          · exact hno r h
          · have : r = q.2 := by simpa using h
            rw [this]
            exact Bool.eq_false_iff.mpr h6
      · rintro σ H6 ⟨rfl, ⟨v8, v9, rfl⟩, hno⟩
        refine kq ?_ H6 s5
        have hl : (ps.map fun q => V.ref q.1).length = (ps.map (·.2)).length := by rw [List.length_map, List.length_map]
        rw [hl, List.take_length] at hno
        have hfind : (ps.map (·.2)).find? (fun r => confB r e) = none := by
          rw [List.find?_eq_none]
          intro r hr
          rw [hno r hr]
          decide
        unfold faultL
        rw [if_neg w1, if_neg (by rw [d1]; decide), if_neg (by rw [d2]; decide), if_neg h3, if_neg h5, hfind]
end
end Vk
set_option Elab.async false
set_option linter.all false
set_option maxRecDepth 100000
set_option maxHeartbeats 8000000
namespace Vk
open PySem PySem.Spec PyProof.Rows L2
abbrev sBI : Stmt := inClass (top 15) 1
theorem scBI : FnScope ["self", "alphabet", "entries", "at", "entry"] ["self", "alphabet", "entries"] (defScope sBI) := ⟨rfl, rfl, rfl, by decide +kernel, rfl, by decide +kernel, by decide +kernel⟩
/-- a dict comprehension over a list that stands still -/
theorem dc_listE {K : PySem.W.Frag} {a : Addr} {xs : List V} {g : TG} {tt : TT} {tk tv : TE} {vs : List Nat} {σ : L2.St} {H1 : Hp} {D : Addr} {Qd : Hp → Prop} (Pv : Nat → Hp → Prop) (h0 : Pv 0 (upd H1 D (.dK []))) (hl : ∀ i H, i ≤ xs.length → Pv i H → SqL K H a xs)
    (hs : ∀ i x H, xs[i]? = some x → Pv i H → g x (wipe σ vs) H fun σ2 H2 => wipe σ2 vs = wipe σ vs ∧ tt σ2 H2 fun b H3 =>
      if b = true then tk σ2 H3 fun y H4 => tv σ2 H4 fun z H5 => ∃ kvs k, y = kV k ∧ H5 D = some (.dK kvs) ∧ kvs.length < sizeLine ∧ Pv (i + 1) (upd H5 D (.dK (putK kvs k z))) else Pv (i + 1) H3) (hd : ∀ H, Pv xs.length H → Qd H) :
    ∃ W : Nat → Nat → Hp → Prop, (∃ m, W 0 m (upd H1 D (.dK []))) ∧ ∀ i m H, W i m H →
      ((Itl K a).stop i H ∧ Qd H) ∨ ((Itl K a).go i H ∧ ∃ Nx : Hp → Prop, (∀ H', Nx H' → ∃ m', m' < m ∧ W (i + 1) m' H') ∧ ∀ x H', (Itl K a).yld i H x H' → g x (wipe σ vs) H' fun σ2 H2 => wipe σ2 vs = wipe σ vs ∧ tt σ2 H2 fun b H3 =>
        if b = true then tk σ2 H3 fun y H4 => tv σ2 H4 fun z H5 => ∃ kvs k, y = kV k ∧ H5 D = some (.dK kvs) ∧ kvs.length < sizeLine ∧ Nx (upd H5 D (.dK (putK kvs k z))) else Nx H3) := by
  refine ⟨fun i m H => m + i = xs.length ∧ Pv i H, ⟨xs.length, rfl, h0⟩, fun i m H h => ?_⟩
  obtain ⟨hm, hp⟩ := h
  have hq := hl i H (by omega) hp
  cases m with
  | zero =>
    have e : i = xs.length := by omega
    subst e
    exact .inl ⟨⟨xs, hq, Nat.le_refl _⟩, hd H hp⟩
  | succ m =>
    have hi : i < xs.length := by omega
    refine .inr ⟨⟨xs, xs[i], hq, List.getElem?_eq_getElem hi⟩, Pv (i + 1), fun H' h' => ⟨m, by omega, by omega, h'⟩, fun x H' hy => ?_⟩
    obtain ⟨rfl, hy⟩ := hy
    exact hs i x _ (hy xs hq) hp
theorem fault_nil {sg : List Nat} {e : Row} {rs : List Row} (h : faultL sg e rs = []) : e.n ∉ rs.map (·.n) := by
  unfold faultL at h
  intro hm
  split at h
  · cases h
  split at h
  · cases h
  split at h
  · cases h
  split at h
  · cases h
  first
    | (rw [if_pos hm] at h; cases h)
    | cases h
theorem firstF_names {sg : List Nat} : ∀ (rs es : List Row), firstF sg es rs = [] → (∀ r ∈ rs, r.n ∉ es.map (·.n)) ∧ (rs.map (·.n)).Nodup
  | [], _, _ => ⟨by simp, by simp⟩
  | r :: rest, es, h => by
    rw [firstF_cons] at h
    by_cases hf : faultL sg r es = []
    · rw [if_pos hf] at h
      obtain ⟨h1, h2⟩ := firstF_names rest (es ++ [r]) h
      refine ⟨fun x hx => ?_, ?_⟩
      · rcases List.mem_cons.mp hx with rfl | hx
        · exact fault_nil hf
        · intro hm
          refine h1 x hx ?_
          rw [List.map_append]
          exact List.mem_append_left _ hm
      · rw [List.map_cons, List.nodup_cons]
        refine ⟨fun hm => ?_, h2⟩
        obtain ⟨y, hy, he⟩ := List.mem_map.mp hm
        refine h1 y hy ?_
        rw [List.map_append, he]
        exact List.mem_append_right _ (by simp)
    · rw [if_neg hf] at h
      exact absurd h hf
theorem raised_ne {c : Er} {fl : List (List Nat)} {B : Addr} {fs : List (Str × V)} (h : Raised c fl B fs) : fl ≠ [] := by
  rcases h with ⟨_, rfl, _⟩ | ⟨_, rfl, _⟩ | ⟨_, rfl, _⟩ | ⟨_, rfl, _⟩ | ⟨_, _, rfl, _⟩ <;> exact List.cons_ne_nil _ _
def kvB (q : Addr × Row) : Key × V := (.inr (S q.2.n), .ref q.1)
theorem valV_kv {n : List Nat} : ∀ l : List (Addr × Row), (∀ q ∈ l, q.2.n ≠ n) → valV (l.map kvB) (.inr (S n)) = none
  | [], _ => valV_nil
  | q :: r, h => by
    rw [List.map_cons, valV_neg (fun e => h q List.mem_cons_self (S_inj.mp (Sum.inr.inj e)))]
    exact valV_kv r fun x hx => h x (List.mem_cons_of_mem _ hx)
/-- what stands of Book: its class value and its own fields -/
structure BkV (K : PySem.W.Frag) (mg : Str → Option Value) (CB : Addr) (mc : Value) (tm : Tok) : Prop where
  gB : mg "Book" = some (.ref CB)
  rd : ClX.CRead K CB mc
  most : ClX.CVal K CB mc "MOST" (.int 8) (.int 8 tm)
  cl : Cls K CB
  nA : NoAttr K CB "alphabet"
  nE : NoAttr K CB "_entries"
def IsBook (CB self al : Addr) (H : Hp) (qs : List (Addr × Row)) : Prop := ∃ dx D, H self = some (.ins CB dx [("alphabet", .ref al), ("_entries", .ref D)]) ∧ H D = some (.dK (qs.map kvB)) ∧ ∀ q ∈ qs, H q.1 = some (.tup q.2.vs) ∧ q.2.ok
section
variable {P : Program} {w : World} {K : PySem.W.Frag} {mg : Str → Option Value} {base : Heap} {a : Ad} {d : Fd} {c : Er} {C fT CB : Addr} {fdT : FuncData} {mcB : Value} {tmB : Tok}
def spBI (C CB : Addr) (c : Er) : Sp := fun vs H Q E => ∃ (self al y dx : Addr) (l v : List Nat) (ps : List (Addr × Row)), vs = [.ref self, .ref al, .ref y] ∧ H self = some (.ins CB dx []) ∧ IsAl C H al l v ∧ TupRows H y ps ∧ ps.length ≤ 20 ∧
  (ps.length ≤ 8 → firstF (45 :: srtL l) [] (ps.map (·.2)) = [] → ∀ qs H', qs.Perm ps → sortedR qs → (ps.map fun q => q.2.n).Nodup → IsBook CB self al H' qs → Kp self H H' → Q .non H') ∧
  (8 < ps.length → ∀ dd H', H dd = none → H' dd = some (.xd [("most", .int 8)]) → Same H H' → E (.ref c.tm) (some dd) H') ∧
  (ps.length ≤ 8 → ∀ B dd fs H', Raised c (firstF (45 :: srtL l) [] (ps.map (·.2))) B fs → H dd = none → H' dd = some (.xd fs) → Same H H' → E (.ref B) (some dd) H')
theorem ok_bookInit {f : Addr} {kV' doc pm cdv ct oc : Value} {an od : Option Addr} {osl : Array (Option Value)} (lk : K.lookup f = some ⟨oc, od, .func (PySem.W.fnOf "__init__" "Book.__init__" (defArgs sBI) (defBody sBI) (defScope sBI) .none kV' doc pm an cdv ct), osl⟩) (hcd : PySem.W.codeIn K cdv "Book.__init__" = true)
    (T : Fns K mg a d) (A : AlF K C) (Wk : Bk K mg w c) (G : Gs P w K mg base c) (BV : BkV K mg CB mcB tmB) (mT : Meth K C "is_text" fT) (GT : FnOk P w K mg base CX0 1 fT fdT ["self", "text"] (spIsText C)) (bT : Binds K fdT ["self", "text"] []) :
    FnR P w K mg base (L2.CX P w) 4 f (fun vs H Q E => ∃ ws rest, vs = ws ++ rest ∧ ws.length = (["self", "alphabet"] : List Str).length ∧ rest.length ≤ sizeLine ∧ ∀ p, H p = Option.none → spBI C CB c (ws ++ [V.ref p]) (upd H p (.tup rest)) Q E) := by
  have GTM := G.TM
  have GCheck : FnOk P w K mg base (L2.CX P w) 3 a.aCheck d.dCheck ["alphabet", "entry", "earlier"] (spCheck C c) := ok_check T A Wk G mT GT bT
  refine StX.fn_star (pv := "entries") (sp := spBI C CB c) lk hcd scBI StX.cxUp (fun us rest h => ?_) (fun A0 outer s H vs Q E hr h => ?_)
  · match us, rest, h with
    | [u1, u2], [], _ => rfl
    | [u1, u2], r :: t, _ => rfl
  · obtain ⟨self, al, y, dx, l, v, ps, rfl, hself, hA, hY, hps, kq, km, ke⟩ := h
    refine ⟨_, (pss_cons (ps_if (pt_cmpR op_gt (pe_callB call_len_seq (by rfl) T.z_len (by decide +kernel) (pa_cons (pv 2) pa_nil)) (ClX.pe_cval (pe_glob (v := .ref CB) (by rfl) BV.gB rfl)) (nomark _)) (pss_one (ps_raise rfl (takes_of rfl rfl rfl rfl) (pmk_oex Wk.TM.ox Wk.TM.iC Wk.TM.tI GTM (hr.mono (by decide)) Wk.TM.bB .nil pass0 (by rfl) Wk.TM.gB (pa_cons (ClX.pe_cval (pe_glob (v := .ref CB) (by rfl) BV.gB rfl)) pa_nil)))) pss_nil)
      (pss_cons (ps_for (passes_of rfl) rfl (pi_enumT (by rfl) T.z_enum (pa_cons (pv 2) pa_nil)) (pg_tup rfl (pgs_cons (pg_name (i := 3) scBI.nd rfl (Or.inl rfl)) (pgs_cons (pg_name (i := 4) scBI.nd rfl (Or.inl rfl)) pgs_nil))) (pss_one (ps_expr (pe_call GCheck (hr.mono (by decide)) (by rfl) T.gCheck T.FCheck.kp T.bCheck .nil (passes_call (E := E) (takes_of rfl rfl rfl rfl) (fun _ _ _ _ h => h)) (pa_cons (pv 1) (pa_cons (pv 4) (pa_cons (pe_slice sl_tup (pv 2) po_none (po_some (pv 3))) pa_nil)))))))
      (pss_cons (ps_fld (pv 0) (pv 1) rfl)
      (pss_one (ps_fld (pv 0) (pe_dc rfl scBI.nd (pi_list (pe_callB cr_sort4T (by rfl) T.z_sorted (by decide +kernel) (pa_cons (pv 2) pa_nil))) (blkOk_by (own := [("entry", 4)]) (N := ["self", "alphabet", "entries", "at", "entry"]) (sc := defScope sBI) (by decide +kernel)) (fun _ _ _ _ _ => pg_name (i := 4) scBI.nd rfl (Or.inl rfl)) (fun _ _ _ _ _ => pts_nil) (fun _ _ _ _ _ => (pe_ix (r := rIxT K) ix_tup (pv 4) pe_int (fun _ _ => rfl))) (fun _ _ _ _ _ => (pv 4))) rfl))))), ?_⟩
    generalize hsg : (45 :: srtL l) = sg at kq ke
    have hlen : (ps.map fun q => V.ref q.1).length = ps.length := List.length_map _
    have hl2 : (ps.map (·.2)).length = ps.length := List.length_map _
    refine ⟨_, rfl, y, _, rfl, .inr (SqT.of hY.1), CB, mcB, _, _, rfl, BV.rd, BV.most, _, _, rfl, rfl, _, rfl, ite2 (fun h1 => ?_) (fun h1 => ?_)⟩
    · have h8 : 8 < ps.length := by
        have := of_decide_eq_true h1
        omega
      exact ⟨CB, mcB, _, _, rfl, BV.rd, BV.most, by show 1 ≤ 1000; decide, fun b hb => ⟨b, rfl, upd_same, raise1 hb (Same.refl H) fun dd H' z1 z2 z3 => km h8 dd H' z1 z2 z3⟩⟩
    have h8 : ps.length ≤ 8 := by
      refine Nat.le_of_not_lt fun z => h1 (decide_eq_true ?_)
      omega
    refine ⟨_, rfl, y, _, rfl, SqT.of hY.1, for_it walk_enumT (fun i σ H' => (∃ v3 v4 : Option V, σ = [some (.ref self), some (.ref al), some (.ref y), v3, v4]) ∧ Same H H' ∧ firstF sg [] (ps.map (·.2)) = firstF sg ((ps.map (·.2)).take i) ((ps.map (·.2)).drop i))
      ⟨⟨_, _, rfl⟩, Same.refl _, by simp⟩ (fun i σ H' _ ⟨_, s1, _⟩ => SqT.of (s1 _ _ hY.1)) ?_ ?_⟩
    · rintro i x σ H1 H2 hi ⟨⟨v3, v4, rfl⟩, s1, hf⟩ ⟨Tp, z, rfl, hTp, rfl, hz⟩
      have hil : i < ps.length := by omega
      obtain ⟨q, hq⟩ : ∃ q, ps[i]? = some q := ⟨_, List.getElem?_eq_getElem hil⟩
      have hq2 : (ps.map (·.2))[i]? = some q.2 := by rw [List.getElem?_map, hq]; rfl
      have hzq : z = V.ref q.1 := by
        rw [List.getElem?_map, hq] at hz
        exact (Option.some.inj hz).symm
      subst hzq
      have s2 : Same H1 (upd H1 Tp (.tup [.int (i : Nat), .ref q.1])) := upd_laid hTp
      have hT2 : (upd H1 Tp (.tup [.int (i : Nat), .ref q.1])) Tp = some (.tup [.int (i : Nat), .ref q.1]) := upd_same
      have s12 := Same.trans s1 s2
      generalize upd H1 Tp (.tup [.int (i : Nat), .ref q.1]) = H3 at s2 hT2 s12
      have hqm := List.mem_of_getElem? hq
      have hY3 := hY.same s12
      refine ⟨Tp, _, rfl, SqT.of hT2, rfl, _, _, rfl, _, _, rfl, rfl, ?_⟩
      refine ⟨_, rfl, _, rfl, _, rfl, _, rfl, _, rfl, y, _, rfl, SqT.of hY3.1, ?_, fun p hp => ?_⟩
      · rw [HT.sIx_nat, hlen]
        omega
      rw [cut_to]
      have s3 : Same H3 (upd H3 p (.tup ((ps.map fun q => V.ref q.1).take i))) := upd_laid hp
      have hp3 : (upd H3 p (.tup ((ps.map fun q => V.ref q.1).take i))) p = some (.tup ((ps.take i).map fun q => V.ref q.1)) := by rw [upd_same, List.map_take]
      have s13 := Same.trans s12 s3
      generalize upd H3 p (.tup ((ps.map fun q => V.ref q.1).take i)) = H4 at s3 hp3 s13
      have hY4 := hY.same s13
      have hdrop : (ps.map (·.2)).drop i = q.2 :: (ps.map (·.2)).drop (i + 1) := by
        have h3 : i < (ps.map (·.2)).length := (List.getElem?_eq_some_iff.mp hq2).1
        rw [← (List.getElem?_eq_some_iff.mp hq2).2]
        exact List.drop_eq_getElem_cons h3
      have htake : (ps.map (·.2)).take (i + 1) = (ps.map (·.2)).take i ++ [q.2] := by
        rw [List.take_add_one, hq2]
        rfl
      rw [hdrop, firstF_cons] at hf
      refine ⟨al, q.1, p, l, v, q.2, ps.take i, rfl, hA.same s13, (hY4.2 q hqm).1, (hY4.2 q hqm).2, ⟨hp3, fun x hx => hY4.2 x (List.mem_of_mem_take hx)⟩, by rw [List.length_take]; omega, fun h0 H5 s5 => ?_, fun B dd fs H5 hr5 z1 z2 z3 => ?_⟩
      · rw [hsg, List.map_take] at h0
        rw [if_pos h0, ← htake] at hf
        exact ⟨⟨_, _, rfl⟩, Same.trans s13 s5, hf⟩
      · rw [hsg, List.map_take] at hr5
        rw [if_neg (raised_ne hr5)] at hf
        rw [← hf] at hr5
        exact ke h8 B dd fs H5 hr5 (Same.none s13 z1) z2 (Same.trans s13 z3)
    · rintro σ H1 ⟨⟨v3, v4, rfl⟩, s1, hf⟩
      rw [hlen, ← hl2, List.drop_length, firstF_nil] at hf
      obtain ⟨_, hnd⟩ := firstF_names _ _ hf
      rw [List.map_map] at hnd
      have hnd : (ps.map fun q => q.2.n).Nodup := hnd
      have hself1 := s1 _ _ hself
      refine ⟨_, rfl, _, rfl, self, CB, dx, [], rfl, hself1, BV.cl, BV.nA, (by show 0 < 1000; decide), ?_⟩
      have hA2 : (upd H1 self (.ins CB dx (putF "alphabet" (.ref al) []))) self = some (.ins CB dx [("alphabet", .ref al)]) := upd_same
      have hY2 : TupRows (upd H1 self (.ins CB dx (putF "alphabet" (.ref al) []))) y ps := by
        have ns : ∀ {x : Addr} {xs : List V}, H1 x = some (.tup xs) → x ≠ self := fun {x xs} hx z => by
          rw [z, hself1] at hx
          cases hx
        have hY1 := hY.same s1
        exact ⟨by rw [upd_ne (ns hY1.1)]; exact hY1.1, fun q hq => ⟨by rw [upd_ne (ns (hY1.2 q hq).1)]; exact (hY1.2 q hq).1, (hY1.2 q hq).2⟩⟩
      have k2 : Kp self H (upd H1 self (.ins CB dx (putF "alphabet" (.ref al) []))) := (Same.kp s1 self).trans (Kp.upd self H1 _)
      generalize upd H1 self (.ins CB dx (putF "alphabet" (.ref al) [])) = H2 at hA2 hY2 k2
      refine ⟨_, rfl, y, ps, rfl, SqT.of hY2.1, fun q hq => (hY2.2 q hq).1, fun qs p hperm hsort hp => ?_⟩
      have s3 : Same H2 (upd H2 p (.lst (qs.map fun q => V.ref q.1))) := upd_laid hp
      have hp3 : (upd H2 p (.lst (qs.map fun q => V.ref q.1))) p = some (.lst (qs.map fun q => V.ref q.1)) := upd_same
      generalize upd H2 p (.lst (qs.map fun q => V.ref q.1)) = H3 at s3 hp3
      have hq3 : ∀ q ∈ qs, H3 q.1 = some (.tup q.2.vs) ∧ q.2.ok := fun q hq => by
        obtain ⟨h1, h2⟩ := hY2.2 q (hperm.mem_iff.mp hq)
        exact ⟨s3 _ _ h1, h2⟩
      have hndq : (qs.map fun q => q.2.n).Nodup := (hperm.map fun q : Addr × Row => q.2.n).nodup_iff.mpr hnd
      have hql : qs.length ≤ 8 := by rw [hperm.length_eq]; exact h8
      refine ⟨p, rfl, ⟨_, SqL.of hp3⟩, fun D hD => dc_listE (K := K) (xs := qs.map fun q => V.ref q.1) (fun i H' => H' = upd H3 D (.dK ((qs.take i).map kvB))) rfl (fun i H' _ e => SqL.of (by rw [e, upd_ne (ne_of_none hp3 hD)]; exact hp3)) ?_ ?_⟩
      · rintro i x H' hx rfl
        obtain ⟨q, hq, rfl⟩ : ∃ q, qs[i]? = some q ∧ x = V.ref q.1 := by
          rw [List.getElem?_map] at hx
          cases ee : qs[i]? with
          | none => rw [ee] at hx; cases hx
          | some z => rw [ee] at hx; exact ⟨z, rfl, (Option.some.inj hx).symm⟩
        have hqt := (hq3 q (List.mem_of_getElem? hq)).1
        refine ⟨rfl, _, rfl, q.1, _, 0, _, rfl, rfl, SqT.of (by rw [upd_ne (ne_of_none hqt hD)]; exact hqt), rfl, _, rfl, _, .inr (S q.2.n), rfl, upd_same, ?_, ?_⟩
        · rw [List.length_map, List.length_take, sizeLine_eq]
          omega
        · have hnew : valV ((qs.take i).map kvB) (.inr (S q.2.n)) = none := valV_kv _ fun x hx he => by
            obtain ⟨j, hj, rfl⟩ := List.mem_iff_getElem.mp hx
            have hji : j < i := by
              rw [List.length_take] at hj
              omega
            have hjl : j < qs.length := by
              rw [List.length_take] at hj
              omega
            have hil : i < qs.length := (List.getElem?_eq_some_iff.mp hq).1
            have hqe := (List.getElem?_eq_some_iff.mp hq).2
            rw [List.getElem_take] at he
            have := (List.pairwise_iff_getElem.mp hndq) j i (by rw [List.length_map]; exact hjl) (by rw [List.length_map]; exact hil) hji
            rw [List.getElem_map, List.getElem_map, hqe] at this
            exact this he
          rw [upd_upd, putK_new _ hnew, List.take_add_one, hq, List.map_append]
          rfl
      · rintro H' rfl
        rw [List.length_map, List.take_length]
        have hself3 := s3 _ _ hA2
        refine ⟨_, rfl, self, CB, dx, _, rfl, (by rw [upd_ne (ne_of_none hself3 hD)]; exact hself3), BV.cl, BV.nE, (by show 1 < 1000; decide), ?_⟩
        have hDs : D ≠ self := (ne_of_none hself3 hD).symm
        have eF : putF "_entries" (.ref D) [("alphabet", .ref al)] = ([("alphabet", .ref al), ("_entries", .ref D)] : List (Str × V)) := by
          show (if ("alphabet" : Str) = "_entries" then _ else (("alphabet" : Str), V.ref al) :: putF "_entries" (.ref D) []) = _
          rw [if_neg (by decide +kernel)]
          rfl
        refine kq h8 hf qs _ hperm hsort hnd ⟨dx, D, ?_, ?_, fun q hq => ⟨?_, (hq3 q hq).2⟩⟩ ?_
        · rw [upd_same, eF]
        · rw [upd_ne hDs, upd_same]
        · have hqt := (hq3 q hq).1
          rw [upd_ne (fun z => by rw [z, hself3] at hqt; cases hqt), upd_ne (ne_of_none hqt hD)]
          exact hqt
        · exact k2.trans ((Same.kp s3 self).trans ((Same.kp (upd_laid hD) self).trans (Kp.upd self _ _)))
end
end Vk
set_option Elab.async false
set_option linter.all false
set_option maxRecDepth 100000
set_option maxHeartbeats 8000000
namespace Vk
open PySem PySem.Spec PyProof.Rows L2
theorem scBookL : FnScope ["_law_alphabet", "_law_rows_here"] ["_law_alphabet", "_law_rows_here"] (defScope sBookL) := ⟨rfl, rfl, rfl, by decide +kernel, rfl, by decide +kernel, by decide +kernel⟩
section
variable {P : Program} {w : World} {K : PySem.W.Frag} {mg : Str → Option Value} {base : Heap} {a : Ad} {d : Fd} {c : Er} {C fT CB fI : Addr} {fdT : FuncData} {mcB : Value} {tmB : Tok}
/-- what Book's own __init__ keeps, star and all -/
def spBIr (C CB : Addr) (c : Er) : Sp := fun vs H Q E => ∃ ws rest, vs = ws ++ rest ∧ ws.length = (["self", "alphabet"] : List Str).length ∧ rest.length ≤ sizeLine ∧ ∀ p, H p = Option.none → spBI C CB c (ws ++ [V.ref p]) (upd H p (.tup rest)) Q E
def spBookL (C CB : Addr) (c : Er) : Sp := fun vs H Q E => ∃ (al u : Addr) (l v : List Nat) (ps : List (Addr × Row)), vs = [.ref al, .ref u] ∧ IsAl C H al l v ∧ RowsAt H u ps ∧ ps.length ≤ 8 ∧
  (ps.length ≤ 8 → firstF (45 :: srtL l) [] (ps.map (·.2)) = [] → ∀ bk qs H', H bk = none → qs.Perm ps → sortedR qs → (ps.map fun q => q.2.n).Nodup → IsBook CB bk al H' qs → Same H H' → Q (.ref bk) H') ∧
  (8 < ps.length → ∀ dd H', H dd = none → H' dd = some (.xd [("most", .int 8)]) → Same H H' → E (.ref c.tm) (some dd) H') ∧
  (ps.length ≤ 8 → ∀ B dd fs H', Raised c (firstF (45 :: srtL l) [] (ps.map (·.2))) B fs → H dd = none → H' dd = some (.xd fs) → Same H H' → E (.ref B) (some dd) H')
theorem ok_bookL (T : Fns K mg a d) (BV : BkV K mg CB mcB tmB) (M : Mk K CB fI) (F : FnR P w K mg base (L2.CX P w) 4 fI (spBIr C CB c)) : FnOk P w K mg base (L2.CX P w) 6 a.aBookL d.dBookL ["_law_alphabet", "_law_rows_here"] (spBookL C CB c) := by
  refine T.FBookL.okX scBookL (fun vs H Q E h => ?_) (fun cdv A0 outer s H vs Q E hr h => ?_)
  · obtain ⟨al, u, l, v, ps, rfl, _⟩ := h
    rfl
  · obtain ⟨al, u, l, v, ps, rfl, hA, hR, hps, kq, km, ke⟩ := h
    refine ⟨_, (pss_cons (ps_if (pt_cmpR op_eq (pe_callB call_len_seq (by rfl) T.z_len (by decide +kernel) (pa_cons (pv 1) pa_nil)) pe_int (nomark _)) (pss_one (ps_ret (StX.pe_makeR M F hr (by rfl) BV.gB (passes_call (E := E) (takes_of rfl rfl rfl rfl) (fun _ _ _ _ h => h)) (pa_cons (pv 0) pa_nil)))) pss_nil)
      (pss_cons (ps_if (pt_cmpR op_eq (pe_callB call_len_seq (by rfl) T.z_len (by decide +kernel) (pa_cons (pv 1) pa_nil)) pe_int (nomark _)) (pss_one (ps_ret (StX.pe_makeR M F hr (by rfl) BV.gB (passes_call (E := E) (takes_of rfl rfl rfl rfl) (fun _ _ _ _ h => h)) (pa_cons (pv 0) (pa_cons (pe_ix (r := rIxL K) ix_list (pv 1) pe_int (fun _ _ => rfl)) pa_nil))))) pss_nil)
      (pss_cons (ps_if (pt_cmpR op_eq (pe_callB call_len_seq (by rfl) T.z_len (by decide +kernel) (pa_cons (pv 1) pa_nil)) pe_int (nomark _)) (pss_one (ps_ret (StX.pe_makeR M F hr (by rfl) BV.gB (passes_call (E := E) (takes_of rfl rfl rfl rfl) (fun _ _ _ _ h => h)) (pa_cons (pv 0) (pa_cons (pe_ix (r := rIxL K) ix_list (pv 1) pe_int (fun _ _ => rfl)) (pa_cons (pe_ix (r := rIxL K) ix_list (pv 1) pe_int (fun _ _ => rfl)) pa_nil)))))) pss_nil)
      (pss_cons (ps_if (pt_cmpR op_eq (pe_callB call_len_seq (by rfl) T.z_len (by decide +kernel) (pa_cons (pv 1) pa_nil)) pe_int (nomark _)) (pss_one (ps_ret (StX.pe_makeR M F hr (by rfl) BV.gB (passes_call (E := E) (takes_of rfl rfl rfl rfl) (fun _ _ _ _ h => h)) (pa_cons (pv 0) (pa_cons (pe_ix (r := rIxL K) ix_list (pv 1) pe_int (fun _ _ => rfl)) (pa_cons (pe_ix (r := rIxL K) ix_list (pv 1) pe_int (fun _ _ => rfl)) (pa_cons (pe_ix (r := rIxL K) ix_list (pv 1) pe_int (fun _ _ => rfl)) pa_nil))))))) pss_nil)
      (pss_cons (ps_if (pt_cmpR op_eq (pe_callB call_len_seq (by rfl) T.z_len (by decide +kernel) (pa_cons (pv 1) pa_nil)) pe_int (nomark _)) (pss_one (ps_ret (StX.pe_makeR M F hr (by rfl) BV.gB (passes_call (E := E) (takes_of rfl rfl rfl rfl) (fun _ _ _ _ h => h)) (pa_cons (pv 0) (pa_cons (pe_ix (r := rIxL K) ix_list (pv 1) pe_int (fun _ _ => rfl)) (pa_cons (pe_ix (r := rIxL K) ix_list (pv 1) pe_int (fun _ _ => rfl)) (pa_cons (pe_ix (r := rIxL K) ix_list (pv 1) pe_int (fun _ _ => rfl)) (pa_cons (pe_ix (r := rIxL K) ix_list (pv 1) pe_int (fun _ _ => rfl)) pa_nil)))))))) pss_nil)
      (pss_cons (ps_if (pt_cmpR op_eq (pe_callB call_len_seq (by rfl) T.z_len (by decide +kernel) (pa_cons (pv 1) pa_nil)) pe_int (nomark _)) (pss_one (ps_ret (StX.pe_makeR M F hr (by rfl) BV.gB (passes_call (E := E) (takes_of rfl rfl rfl rfl) (fun _ _ _ _ h => h)) (pa_cons (pv 0) (pa_cons (pe_ix (r := rIxL K) ix_list (pv 1) pe_int (fun _ _ => rfl)) (pa_cons (pe_ix (r := rIxL K) ix_list (pv 1) pe_int (fun _ _ => rfl)) (pa_cons (pe_ix (r := rIxL K) ix_list (pv 1) pe_int (fun _ _ => rfl)) (pa_cons (pe_ix (r := rIxL K) ix_list (pv 1) pe_int (fun _ _ => rfl)) (pa_cons (pe_ix (r := rIxL K) ix_list (pv 1) pe_int (fun _ _ => rfl)) pa_nil))))))))) pss_nil)
      (pss_cons (ps_if (pt_cmpR op_eq (pe_callB call_len_seq (by rfl) T.z_len (by decide +kernel) (pa_cons (pv 1) pa_nil)) pe_int (nomark _)) (pss_one (ps_ret (StX.pe_makeR M F hr (by rfl) BV.gB (passes_call (E := E) (takes_of rfl rfl rfl rfl) (fun _ _ _ _ h => h)) (pa_cons (pv 0) (pa_cons (pe_ix (r := rIxL K) ix_list (pv 1) pe_int (fun _ _ => rfl)) (pa_cons (pe_ix (r := rIxL K) ix_list (pv 1) pe_int (fun _ _ => rfl)) (pa_cons (pe_ix (r := rIxL K) ix_list (pv 1) pe_int (fun _ _ => rfl)) (pa_cons (pe_ix (r := rIxL K) ix_list (pv 1) pe_int (fun _ _ => rfl)) (pa_cons (pe_ix (r := rIxL K) ix_list (pv 1) pe_int (fun _ _ => rfl)) (pa_cons (pe_ix (r := rIxL K) ix_list (pv 1) pe_int (fun _ _ => rfl)) pa_nil)))))))))) pss_nil)
      (pss_cons (ps_if (pt_cmpR op_eq (pe_callB call_len_seq (by rfl) T.z_len (by decide +kernel) (pa_cons (pv 1) pa_nil)) pe_int (nomark _)) (pss_one (ps_ret (StX.pe_makeR M F hr (by rfl) BV.gB (passes_call (E := E) (takes_of rfl rfl rfl rfl) (fun _ _ _ _ h => h)) (pa_cons (pv 0) (pa_cons (pe_ix (r := rIxL K) ix_list (pv 1) pe_int (fun _ _ => rfl)) (pa_cons (pe_ix (r := rIxL K) ix_list (pv 1) pe_int (fun _ _ => rfl)) (pa_cons (pe_ix (r := rIxL K) ix_list (pv 1) pe_int (fun _ _ => rfl)) (pa_cons (pe_ix (r := rIxL K) ix_list (pv 1) pe_int (fun _ _ => rfl)) (pa_cons (pe_ix (r := rIxL K) ix_list (pv 1) pe_int (fun _ _ => rfl)) (pa_cons (pe_ix (r := rIxL K) ix_list (pv 1) pe_int (fun _ _ => rfl)) (pa_cons (pe_ix (r := rIxL K) ix_list (pv 1) pe_int (fun _ _ => rfl)) pa_nil))))))))))) pss_nil)
      (pss_one (ps_ret (StX.pe_makeR M F hr (by rfl) BV.gB (passes_call (E := E) (takes_of rfl rfl rfl rfl) (fun _ _ _ _ h => h)) (pa_cons (pv 0) (pa_cons (pe_ix (r := rIxL K) ix_list (pv 1) pe_int (fun _ _ => rfl)) (pa_cons (pe_ix (r := rIxL K) ix_list (pv 1) pe_int (fun _ _ => rfl)) (pa_cons (pe_ix (r := rIxL K) ix_list (pv 1) pe_int (fun _ _ => rfl)) (pa_cons (pe_ix (r := rIxL K) ix_list (pv 1) pe_int (fun _ _ => rfl)) (pa_cons (pe_ix (r := rIxL K) ix_list (pv 1) pe_int (fun _ _ => rfl)) (pa_cons (pe_ix (r := rIxL K) ix_list (pv 1) pe_int (fun _ _ => rfl)) (pa_cons (pe_ix (r := rIxL K) ix_list (pv 1) pe_int (fun _ _ => rfl)) (pa_cons (pe_ix (r := rIxL K) ix_list (pv 1) pe_int (fun _ _ => rfl)) pa_nil)))))))))))))))))))), ?_⟩
    have fin : ∀ x dx, H x = none → H dx = none → dx ≠ x → spBIr C CB c (V.ref x :: (V.ref al :: ps.map fun q => V.ref q.1)) (upd (upd H dx (.own x)) x (.ins CB dx [])) (fun v H2 => v = .non ∧ Q (.ref x) H2) E := by
      intro x dx hx hdx hne
      refine ⟨[V.ref x, V.ref al], ps.map fun q => V.ref q.1, rfl, rfl, by rw [List.length_map, sizeLine_eq]; omega, fun p hp => ?_⟩
      have s1 : Same H (upd (upd H dx (.own x)) x (.ins CB dx [])) := Same.trans (upd_laid hdx) (upd_laid (by rw [upd_ne hne.symm]; exact hx))
      have hx1 : (upd (upd H dx (.own x)) x (.ins CB dx [])) x = some (.ins CB dx []) := upd_same
      generalize upd (upd H dx (.own x)) x (.ins CB dx []) = H1 at s1 hx1 hp
      have s2 : Same H1 (upd H1 p (.tup (ps.map fun q => V.ref q.1))) := upd_laid hp
      have hp2 : (upd H1 p (.tup (ps.map fun q => V.ref q.1))) p = some (.tup (ps.map fun q => V.ref q.1)) := upd_same
      have s12 := Same.trans s1 s2
      have hx2 := s2 _ _ hx1
      generalize upd H1 p (.tup (ps.map fun q => V.ref q.1)) = H2 at s2 hp2 s12 hx2
      refine ⟨x, al, p, dx, l, v, ps, rfl, hx2, hA.same s12, ⟨hp2, fun q hq => (hR.same s12).2 q hq⟩, by omega, fun h8 hf qs H' hperm hsort hnd hB hk => ⟨rfl, kq h8 hf x qs H' hx hperm hsort hnd hB fun b o hb => hk b o (ne_of_none hb hx) (s12 b o hb)⟩, fun h8 dd H' z1 z2 z3 => km h8 dd H' (Same.none s12 z1) z2 (Same.trans s12 z3), fun h8 B dd fs H' hr5 z1 z2 z3 => ke h8 B dd fs H' hr5 (Same.none s12 z1) z2 (Same.trans s12 z3)⟩
    clear kq km ke
    match ps, hps, hR, fin with
    | [], _, hR, fin => exact ⟨_, rfl, u, _, rfl, .inl (SqL.of hR.1), rfl, _, rfl, ite2 (fun _ => ⟨_, rfl, fin⟩) (fun h => absurd (decide_eq_true rfl) h)⟩
    | [q0], _, hR, fin => exact ⟨_, rfl, u, _, rfl, .inl (SqL.of hR.1), rfl, _, rfl, ite2 (fun h => (by have h2 := of_decide_eq_true h; injection h2 with h2; exact absurd h2 (show ¬ ((1 : Nat) : Int) = 0 by decide))) (fun _ => ⟨_, rfl, u, _, rfl, .inl (SqL.of hR.1), rfl, _, rfl, ite2 (fun _ => ⟨_, rfl, _, rfl, u, _, 0, _, rfl, rfl, SqL.of hR.1, rfl, fin⟩) (fun h => absurd (decide_eq_true rfl) h)⟩)⟩
    | [q0, q1], _, hR, fin => exact ⟨_, rfl, u, _, rfl, .inl (SqL.of hR.1), rfl, _, rfl, ite2 (fun h => (by have h2 := of_decide_eq_true h; injection h2 with h2; exact absurd h2 (show ¬ ((2 : Nat) : Int) = 0 by decide))) (fun _ => ⟨_, rfl, u, _, rfl, .inl (SqL.of hR.1), rfl, _, rfl, ite2 (fun h => (by have h2 := of_decide_eq_true h; injection h2 with h2; exact absurd h2 (show ¬ ((2 : Nat) : Int) = 1 by decide))) (fun _ => ⟨_, rfl, u, _, rfl, .inl (SqL.of hR.1), rfl, _, rfl, ite2 (fun _ => ⟨_, rfl, _, rfl, u, _, 0, _, rfl, rfl, SqL.of hR.1, rfl, _, rfl, u, _, 1, _, rfl, rfl, SqL.of hR.1, rfl, fin⟩) (fun h => absurd (decide_eq_true rfl) h)⟩)⟩)⟩
    | [q0, q1, q2], _, hR, fin => exact ⟨_, rfl, u, _, rfl, .inl (SqL.of hR.1), rfl, _, rfl, ite2 (fun h => (by have h2 := of_decide_eq_true h; injection h2 with h2; exact absurd h2 (show ¬ ((3 : Nat) : Int) = 0 by decide))) (fun _ => ⟨_, rfl, u, _, rfl, .inl (SqL.of hR.1), rfl, _, rfl, ite2 (fun h => (by have h2 := of_decide_eq_true h; injection h2 with h2; exact absurd h2 (show ¬ ((3 : Nat) : Int) = 1 by decide))) (fun _ => ⟨_, rfl, u, _, rfl, .inl (SqL.of hR.1), rfl, _, rfl, ite2 (fun h => (by have h2 := of_decide_eq_true h; injection h2 with h2; exact absurd h2 (show ¬ ((3 : Nat) : Int) = 2 by decide))) (fun _ => ⟨_, rfl, u, _, rfl, .inl (SqL.of hR.1), rfl, _, rfl, ite2 (fun _ => ⟨_, rfl, _, rfl, u, _, 0, _, rfl, rfl, SqL.of hR.1, rfl, _, rfl, u, _, 1, _, rfl, rfl, SqL.of hR.1, rfl, _, rfl, u, _, 2, _, rfl, rfl, SqL.of hR.1, rfl, fin⟩) (fun h => absurd (decide_eq_true rfl) h)⟩)⟩)⟩)⟩
    | [q0, q1, q2, q3], _, hR, fin => exact ⟨_, rfl, u, _, rfl, .inl (SqL.of hR.1), rfl, _, rfl, ite2 (fun h => (by have h2 := of_decide_eq_true h; injection h2 with h2; exact absurd h2 (show ¬ ((4 : Nat) : Int) = 0 by decide))) (fun _ => ⟨_, rfl, u, _, rfl, .inl (SqL.of hR.1), rfl, _, rfl, ite2 (fun h => (by have h2 := of_decide_eq_true h; injection h2 with h2; exact absurd h2 (show ¬ ((4 : Nat) : Int) = 1 by decide))) (fun _ => ⟨_, rfl, u, _, rfl, .inl (SqL.of hR.1), rfl, _, rfl, ite2 (fun h => (by have h2 := of_decide_eq_true h; injection h2 with h2; exact absurd h2 (show ¬ ((4 : Nat) : Int) = 2 by decide))) (fun _ => ⟨_, rfl, u, _, rfl, .inl (SqL.of hR.1), rfl, _, rfl, ite2 (fun h => (by have h2 := of_decide_eq_true h; injection h2 with h2; exact absurd h2 (show ¬ ((4 : Nat) : Int) = 3 by decide))) (fun _ => ⟨_, rfl, u, _, rfl, .inl (SqL.of hR.1), rfl, _, rfl, ite2 (fun _ => ⟨_, rfl, _, rfl, u, _, 0, _, rfl, rfl, SqL.of hR.1, rfl, _, rfl, u, _, 1, _, rfl, rfl, SqL.of hR.1, rfl, _, rfl, u, _, 2, _, rfl, rfl, SqL.of hR.1, rfl, _, rfl, u, _, 3, _, rfl, rfl, SqL.of hR.1, rfl, fin⟩) (fun h => absurd (decide_eq_true rfl) h)⟩)⟩)⟩)⟩)⟩
    | [q0, q1, q2, q3, q4], _, hR, fin => exact ⟨_, rfl, u, _, rfl, .inl (SqL.of hR.1), rfl, _, rfl, ite2 (fun h => (by have h2 := of_decide_eq_true h; injection h2 with h2; exact absurd h2 (show ¬ ((5 : Nat) : Int) = 0 by decide))) (fun _ => ⟨_, rfl, u, _, rfl, .inl (SqL.of hR.1), rfl, _, rfl, ite2 (fun h => (by have h2 := of_decide_eq_true h; injection h2 with h2; exact absurd h2 (show ¬ ((5 : Nat) : Int) = 1 by decide))) (fun _ => ⟨_, rfl, u, _, rfl, .inl (SqL.of hR.1), rfl, _, rfl, ite2 (fun h => (by have h2 := of_decide_eq_true h; injection h2 with h2; exact absurd h2 (show ¬ ((5 : Nat) : Int) = 2 by decide))) (fun _ => ⟨_, rfl, u, _, rfl, .inl (SqL.of hR.1), rfl, _, rfl, ite2 (fun h => (by have h2 := of_decide_eq_true h; injection h2 with h2; exact absurd h2 (show ¬ ((5 : Nat) : Int) = 3 by decide))) (fun _ => ⟨_, rfl, u, _, rfl, .inl (SqL.of hR.1), rfl, _, rfl, ite2 (fun h => (by have h2 := of_decide_eq_true h; injection h2 with h2; exact absurd h2 (show ¬ ((5 : Nat) : Int) = 4 by decide))) (fun _ => ⟨_, rfl, u, _, rfl, .inl (SqL.of hR.1), rfl, _, rfl, ite2 (fun _ => ⟨_, rfl, _, rfl, u, _, 0, _, rfl, rfl, SqL.of hR.1, rfl, _, rfl, u, _, 1, _, rfl, rfl, SqL.of hR.1, rfl, _, rfl, u, _, 2, _, rfl, rfl, SqL.of hR.1, rfl, _, rfl, u, _, 3, _, rfl, rfl, SqL.of hR.1, rfl, _, rfl, u, _, 4, _, rfl, rfl, SqL.of hR.1, rfl, fin⟩) (fun h => absurd (decide_eq_true rfl) h)⟩)⟩)⟩)⟩)⟩)⟩
    | [q0, q1, q2, q3, q4, q5], _, hR, fin => exact ⟨_, rfl, u, _, rfl, .inl (SqL.of hR.1), rfl, _, rfl, ite2 (fun h => (by have h2 := of_decide_eq_true h; injection h2 with h2; exact absurd h2 (show ¬ ((6 : Nat) : Int) = 0 by decide))) (fun _ => ⟨_, rfl, u, _, rfl, .inl (SqL.of hR.1), rfl, _, rfl, ite2 (fun h => (by have h2 := of_decide_eq_true h; injection h2 with h2; exact absurd h2 (show ¬ ((6 : Nat) : Int) = 1 by decide))) (fun _ => ⟨_, rfl, u, _, rfl, .inl (SqL.of hR.1), rfl, _, rfl, ite2 (fun h => (by have h2 := of_decide_eq_true h; injection h2 with h2; exact absurd h2 (show ¬ ((6 : Nat) : Int) = 2 by decide))) (fun _ => ⟨_, rfl, u, _, rfl, .inl (SqL.of hR.1), rfl, _, rfl, ite2 (fun h => (by have h2 := of_decide_eq_true h; injection h2 with h2; exact absurd h2 (show ¬ ((6 : Nat) : Int) = 3 by decide))) (fun _ => ⟨_, rfl, u, _, rfl, .inl (SqL.of hR.1), rfl, _, rfl, ite2 (fun h => (by have h2 := of_decide_eq_true h; injection h2 with h2; exact absurd h2 (show ¬ ((6 : Nat) : Int) = 4 by decide))) (fun _ => ⟨_, rfl, u, _, rfl, .inl (SqL.of hR.1), rfl, _, rfl, ite2 (fun h => (by have h2 := of_decide_eq_true h; injection h2 with h2; exact absurd h2 (show ¬ ((6 : Nat) : Int) = 5 by decide))) (fun _ => ⟨_, rfl, u, _, rfl, .inl (SqL.of hR.1), rfl, _, rfl, ite2 (fun _ => ⟨_, rfl, _, rfl, u, _, 0, _, rfl, rfl, SqL.of hR.1, rfl, _, rfl, u, _, 1, _, rfl, rfl, SqL.of hR.1, rfl, _, rfl, u, _, 2, _, rfl, rfl, SqL.of hR.1, rfl, _, rfl, u, _, 3, _, rfl, rfl, SqL.of hR.1, rfl, _, rfl, u, _, 4, _, rfl, rfl, SqL.of hR.1, rfl, _, rfl, u, _, 5, _, rfl, rfl, SqL.of hR.1, rfl, fin⟩) (fun h => absurd (decide_eq_true rfl) h)⟩)⟩)⟩)⟩)⟩)⟩)⟩
    | [q0, q1, q2, q3, q4, q5, q6], _, hR, fin => exact ⟨_, rfl, u, _, rfl, .inl (SqL.of hR.1), rfl, _, rfl, ite2 (fun h => (by have h2 := of_decide_eq_true h; injection h2 with h2; exact absurd h2 (show ¬ ((7 : Nat) : Int) = 0 by decide))) (fun _ => ⟨_, rfl, u, _, rfl, .inl (SqL.of hR.1), rfl, _, rfl, ite2 (fun h => (by have h2 := of_decide_eq_true h; injection h2 with h2; exact absurd h2 (show ¬ ((7 : Nat) : Int) = 1 by decide))) (fun _ => ⟨_, rfl, u, _, rfl, .inl (SqL.of hR.1), rfl, _, rfl, ite2 (fun h => (by have h2 := of_decide_eq_true h; injection h2 with h2; exact absurd h2 (show ¬ ((7 : Nat) : Int) = 2 by decide))) (fun _ => ⟨_, rfl, u, _, rfl, .inl (SqL.of hR.1), rfl, _, rfl, ite2 (fun h => (by have h2 := of_decide_eq_true h; injection h2 with h2; exact absurd h2 (show ¬ ((7 : Nat) : Int) = 3 by decide))) (fun _ => ⟨_, rfl, u, _, rfl, .inl (SqL.of hR.1), rfl, _, rfl, ite2 (fun h => (by have h2 := of_decide_eq_true h; injection h2 with h2; exact absurd h2 (show ¬ ((7 : Nat) : Int) = 4 by decide))) (fun _ => ⟨_, rfl, u, _, rfl, .inl (SqL.of hR.1), rfl, _, rfl, ite2 (fun h => (by have h2 := of_decide_eq_true h; injection h2 with h2; exact absurd h2 (show ¬ ((7 : Nat) : Int) = 5 by decide))) (fun _ => ⟨_, rfl, u, _, rfl, .inl (SqL.of hR.1), rfl, _, rfl, ite2 (fun h => (by have h2 := of_decide_eq_true h; injection h2 with h2; exact absurd h2 (show ¬ ((7 : Nat) : Int) = 6 by decide))) (fun _ => ⟨_, rfl, u, _, rfl, .inl (SqL.of hR.1), rfl, _, rfl, ite2 (fun _ => ⟨_, rfl, _, rfl, u, _, 0, _, rfl, rfl, SqL.of hR.1, rfl, _, rfl, u, _, 1, _, rfl, rfl, SqL.of hR.1, rfl, _, rfl, u, _, 2, _, rfl, rfl, SqL.of hR.1, rfl, _, rfl, u, _, 3, _, rfl, rfl, SqL.of hR.1, rfl, _, rfl, u, _, 4, _, rfl, rfl, SqL.of hR.1, rfl, _, rfl, u, _, 5, _, rfl, rfl, SqL.of hR.1, rfl, _, rfl, u, _, 6, _, rfl, rfl, SqL.of hR.1, rfl, fin⟩) (fun h => absurd (decide_eq_true rfl) h)⟩)⟩)⟩)⟩)⟩)⟩)⟩)⟩
    | [q0, q1, q2, q3, q4, q5, q6, q7], _, hR, fin => exact ⟨_, rfl, u, _, rfl, .inl (SqL.of hR.1), rfl, _, rfl, ite2 (fun h => (by have h2 := of_decide_eq_true h; injection h2 with h2; exact absurd h2 (show ¬ ((8 : Nat) : Int) = 0 by decide))) (fun _ => ⟨_, rfl, u, _, rfl, .inl (SqL.of hR.1), rfl, _, rfl, ite2 (fun h => (by have h2 := of_decide_eq_true h; injection h2 with h2; exact absurd h2 (show ¬ ((8 : Nat) : Int) = 1 by decide))) (fun _ => ⟨_, rfl, u, _, rfl, .inl (SqL.of hR.1), rfl, _, rfl, ite2 (fun h => (by have h2 := of_decide_eq_true h; injection h2 with h2; exact absurd h2 (show ¬ ((8 : Nat) : Int) = 2 by decide))) (fun _ => ⟨_, rfl, u, _, rfl, .inl (SqL.of hR.1), rfl, _, rfl, ite2 (fun h => (by have h2 := of_decide_eq_true h; injection h2 with h2; exact absurd h2 (show ¬ ((8 : Nat) : Int) = 3 by decide))) (fun _ => ⟨_, rfl, u, _, rfl, .inl (SqL.of hR.1), rfl, _, rfl, ite2 (fun h => (by have h2 := of_decide_eq_true h; injection h2 with h2; exact absurd h2 (show ¬ ((8 : Nat) : Int) = 4 by decide))) (fun _ => ⟨_, rfl, u, _, rfl, .inl (SqL.of hR.1), rfl, _, rfl, ite2 (fun h => (by have h2 := of_decide_eq_true h; injection h2 with h2; exact absurd h2 (show ¬ ((8 : Nat) : Int) = 5 by decide))) (fun _ => ⟨_, rfl, u, _, rfl, .inl (SqL.of hR.1), rfl, _, rfl, ite2 (fun h => (by have h2 := of_decide_eq_true h; injection h2 with h2; exact absurd h2 (show ¬ ((8 : Nat) : Int) = 6 by decide))) (fun _ => ⟨_, rfl, u, _, rfl, .inl (SqL.of hR.1), rfl, _, rfl, ite2 (fun h => (by have h2 := of_decide_eq_true h; injection h2 with h2; exact absurd h2 (show ¬ ((8 : Nat) : Int) = 7 by decide))) (fun _ => ⟨_, rfl, _, rfl, u, _, 0, _, rfl, rfl, SqL.of hR.1, rfl, _, rfl, u, _, 1, _, rfl, rfl, SqL.of hR.1, rfl, _, rfl, u, _, 2, _, rfl, rfl, SqL.of hR.1, rfl, _, rfl, u, _, 3, _, rfl, rfl, SqL.of hR.1, rfl, _, rfl, u, _, 4, _, rfl, rfl, SqL.of hR.1, rfl, _, rfl, u, _, 5, _, rfl, rfl, SqL.of hR.1, rfl, _, rfl, u, _, 6, _, rfl, rfl, SqL.of hR.1, rfl, _, rfl, u, _, 7, _, rfl, rfl, SqL.of hR.1, rfl, fin⟩)⟩)⟩)⟩)⟩)⟩)⟩)⟩)⟩
    | _ :: _ :: _ :: _ :: _ :: _ :: _ :: _ :: _ :: _, hps, _, _ => exact absurd hps (by simp only [List.length_cons]; omega)
end
end Vk
set_option Elab.async false
set_option linter.all false
set_option maxRecDepth 100000
set_option maxHeartbeats 4000000
namespace Vk
open PySem PySem.Spec PyProof.Rows L2
/-! several except clauses, each with a name: one step for each clause -/
/-- D, the clause's name gone behind its suite -/
def goneD (D : Ends) (i : Nat) : Ends := { nx := fun σ' H' => D.nx (σ'.set i none) H', rt := D.rt, bk := fun σ' H' => D.bk (σ'.set i none) H', ct := fun σ' H' => D.ct (σ'.set i none) H' }
/-- a clause: its class, its name's slot, its suite's reading -/
structure Cl where
  c : Value
  i : Nat
  ts : Addr → Value → Option Addr → TS
def wAsN (K : PySem.W.Frag) (Wout : WX) (D : Ends) : List Cl → WX
  | [] => Wout
  | q :: r => fun cls d σ H => ∃ b, PySem.W.exmOne K cls q.c = some b ∧ (b = true → ∀ a, H a = none → q.ts a cls d (goneD D q.i) (σ.set q.i (some (.ref a))) H) ∧ (b = false → wAsN K Wout D r cls d σ H)
inductive AsOk (X : Cx) : List ExceptHandler → List Cl → Prop
  | nil : AsOk X [] []
  | cons {x n : Str} {q : Cl} {b₀ : Stmt} {suite : List Stmt} {np pos' : Pos} {hds : List ExceptHandler} {l : List Cl} (hi : X.N[q.i]? = some n) (hln : X.env.kindOf n = some .local) (hc : Names X x q.c)
      (hsu : ∀ (a : Addr) (oe : Obj) (cls : Value) (d : Option Addr) (pn : List (Addr × Obj)), Zc cls d oe → (∃ vs, oe.data = .fields vs) → PSs (X.suite a ((a, oe) :: pn)) (b₀ :: suite) (q.ts a cls d)) (r : AsOk X hds l) :
      AsOk X (.ExceptHandler (some (.Name x np)) (some n) (b₀ :: suite) pos' :: hds) (q :: l)
section
variable {X : Cx} {body : List Stmt} {h₀ : ExceptHandler} {hds : List ExceptHandler} {l : List Cl} {pos : Pos} {tb : WX → TS} {Wout : WX}
theorem ps_try_asN (hs : X.stack = X.env :: X.outer) (hf : X.env.frame = some X.env.locals) (hN : X.N.Nodup) (tk : Takes X Wout)
    (hb : ∀ (W : WX) (pn : List (Addr × Obj)) (xe : Value → Shared → Prop), Takes (X.tr pn xe) W → PassesOwn (model X.prog X.w) X.A X.env xe → PSs (X.tr pn xe) body (tb W))
    (hh : AsOk X (h₀ :: hds) l) : PS X (.Try body (h₀ :: hds) [] [] pos) (fun D σ H => tb (wAsN X.K Wout D l) D σ H) := by
  refine ⟨fun pins s σ H D I h => ?_⟩
  have ok := I.ok
  have hfr : X.A.frames = some (X.env :: X.outer) := by rw [ok.frames, hs]
  refine wpAny_Try_except (wpAny_mono ((hb (wAsN X.K Wout D l) (X.pn ++ pins) (fun e s₁ => wpAny (model X.prog X.w) X.A (noteFrame e X.env) (fun _ s₂ => wpAny (model X.prog X.w) X.A (setFlight e none) (fun _ s₃ =>
    wpAny (model X.prog X.w) X.A (handleBy e X.env (h₀ :: hds)) (SP X pins D) X.xe s₃) X.xe s₂) X.xe s₁) (fun u s' hx => ?_) PassesOwn.looking).run [] s σ H D (I.toTry _) h) (fun f s1 hsp => ?_) fun e s1 he => he)
  · obtain ⟨a, B, sI, pn', σ1, H1, cls, d, rfl, J0, nb, up, sky, na, os, ag, wish⟩ := hx
    have J : Inv X pins σ1 H1 sI := J0.ofTry ok
    rw [hs] at sky
    show wpAny (model X.prog X.w) X.A (noteFrame (.ref a) X.env) _ _ _
    refine Sky.land Zc.steady hfr hf sky fun h3 fl up3 => ?_
    have J3 : Inv X pins σ1 H1 { s' with heap := h3 } := J.landed nb fl.1 (up.trans up3) os ag
    obtain ⟨o3, vs3, e3, z3, d3⟩ := fl.there
    have nfr : a ∉ frs (X.env :: X.outer) := fun hm => by
      obtain ⟨_, o', e', hnf⟩ := fl.2.2.1.mem hm
      rw [e3] at e'
      cases e'
      exact hnf _ d3
    have nL : a ≠ X.env.locals := fun z => nfr (List.mem_filterMap.mpr ⟨X.env, List.mem_cons_self, by rw [hf, z]⟩)
    have nF : a ∉ X.fs := fun hm => by
      obtain ⟨e, he, q⟩ := List.mem_filterMap.mp hm
      exact nfr (List.mem_filterMap.mpr ⟨e, List.mem_cons_of_mem _ he, q⟩)
    have S3 := J3.suite e3 d3 na nL nF
    have LT : PySem.W.Looks (model X.prog X.w) h3 (typeOf (.ref a)) cls := fun A Q E s k q => wpAny_typeOf_ref (k _ _ e3) (by rw [z3.1]; exact q)
    suffices all : ∀ {hds' : List ExceptHandler} {l' : List Cl}, AsOk X hds' l' → wAsN X.K Wout D l' cls d σ1 H1 → wpAny (model X.prog X.w) X.A (handleBy (.ref a) X.env hds') (SP X pins D) X.xe { s' with heap := h3 } from all hh wish
    clear wish hh
    intro hds' l' hk
    induction hk with
    | nil =>
      intro wo
      obtain ⟨_, _, _, oe, vs, T, oT, ts', he, hz, hd, h1, hr⟩ := id fl
      have out : wpAny (model X.prog X.w) X.A (setFlight (.ref a) X.env.frame) (fun _ s4 => wpAny (model X.prog X.w) X.A (throw (.ref a) : Sem Flow) (SP X pins D) X.xe s4) X.xe { s' with heap := h3 } := by
        rw [hf]
        exact HandSPX.setFlight_upZ fl fun h4 hh4 up4 => wpAny_throw (tk _ _ ⟨a, B, sI, pins, σ1, H1, cls, d, rfl, J, nb, (up.trans up3).trans up4, .inr (.inr (by rw [hs]; exact hh4)), na, os, ag, wo⟩)
      refine wpAny_handleBy_nil ?_
      unfold PySem.passOn
      refine wpAny_bind (wpAny_field he hd h1 ?_)
      rw [if_neg (show ¬ ((Value.ref T == Value.none) = true) from by simp)]
      first
        | exact wpAny_bind (wpAny_pure (wpAny_bind out))
        | exact wpAny_bind out
    | @cons x n q b₀ suite np pos' hds2 l2 hi hln hc hsu r ih =>
      intro wo
      obtain ⟨b, hb1, hyes, hno⟩ := wo
      have LM := PySem.W.exm_one (M := model X.prog X.w) J3.kIn LT hb1
      refine wpAny_handleBy_cons (codeAny_handlers_test ?_) (by intro z; cases z)
      have name : ∀ {Q : Value → Shared → Prop} {E : Value → Shared → Prop}, Q q.c { s' with heap := h3 } → wpAny (model X.prog X.w) (X.A.mark (some (.ref a))) (eval (.Name x np) X.env) Q E { s' with heap := h3 } := fun {Q E} hQ => by
        obtain ⟨hg, hdbg, hm | ⟨hm, hv, hnn⟩⟩ := hc
        · exact ld_glob (X := X.suite a ((a, o3) :: (X.pn ++ pins))) S3 hg hm hQ hdbg
        · exact ld_blt (X := X.suite a ((a, o3) :: (X.pn ++ pins))) S3 hg hm hv hQ hnn hdbg
      refine name (LM.here ?_)
      cases b with
      | false =>
        show wpAny _ X.A (handleBy (.ref a) X.env hds2) _ _ _
        exact ih (hno rfl)
      | true =>
        refine codeAny_handlers_suite_as (HandSPX.lands_againZ fl fun h4 fl4 up4 => ?_)
        have J4 : Inv X pins σ1 H1 { s' with heap := h4 } := J.landed nb fl4.1 ((up.trans up3).trans up4) os ag
        obtain ⟨o4, vs4, e4, z4, d4⟩ := fl4.there
        refine store_ok (X := X.suite a ((a, o4) :: (X.pn ++ pins))) (v := .ref a) (J4.suite e4 d4 na nL nF) hN hi (.inl hln) rfl (fun s5 S5 => ?_) (.inr hln)
        refine wpAny_mono ((hsu a o4 cls d (X.pn ++ pins) z4 ⟨_, d4⟩).run [] s5 _ H1 _ S5 (hyes rfl a na)) (fun f s6 hsp => ?_) fun _ _ z => z.elim
        cases f with
        | next =>
          obtain ⟨σ6, H6, S6, q6⟩ := hsp
          exact gone_ok (S6.unsuite ok) hN hi hln fun s7 J7 => ⟨_, _, J7, q6⟩
        | brk =>
          obtain ⟨σ6, H6, S6, q6⟩ := hsp
          exact gone_ok (S6.unsuite ok) hN hi hln fun s7 J7 => ⟨_, _, J7, q6⟩
        | cont =>
          obtain ⟨σ6, H6, S6, q6⟩ := hsp
          exact gone_ok (S6.unsuite ok) hN hi hln fun s7 J7 => ⟨_, _, J7, q6⟩
        | ret u =>
          obtain ⟨v6, σ6, H6, S6, r6, q6⟩ := hsp
          exact gone_ok (S6.unsuite ok) hN hi hln fun s7 J7 => ⟨_, _, _, J7, r6, q6⟩
  · cases f with
    | next =>
      obtain ⟨σ', H', J', q⟩ := hsp
      exact wpAny_execs_nil ⟨σ', H', J'.ofTry ok, q⟩
    | brk =>
      obtain ⟨σ', H', J', q⟩ := hsp
      exact ⟨σ', H', J'.ofTry ok, q⟩
    | cont =>
      obtain ⟨σ', H', J', q⟩ := hsp
      exact ⟨σ', H', J'.ofTry ok, q⟩
    | ret u =>
      obtain ⟨v, σ', H', J', r, q⟩ := hsp
      exact ⟨v, σ', H', J'.ofTry ok, r, q⟩
end
end Vk
set_option Elab.async false
set_option linter.all false
set_option maxRecDepth 100000
set_option maxHeartbeats 4000000
namespace Vk
open PySem PySem.Spec PyProof.Rows L2
/-! len of an instance with its own `__len__` -/
def rLenI (C : Addr) (sp : Sp) (E : XK) : List V → Hp → VK → Prop := fun xs H Q => ∃ (a dx : Addr) (fs : List (Str × V)), xs = [V.ref a] ∧ H a = some (.ins C dx fs) ∧ sp [.ref a] H (fun z H' => ∃ n : Nat, z = .int (n : Int) ∧ n < 2 ^ 63 ∧ Q z H') E
theorem call_lenI {X : Cx} {CX : CXT} {C g : Addr} {n : Nat} {sp : Sp} {E : XK} (hs : PySem.W.findIn X.K (.ref C) "__len__" = some (some (.ref g))) (hf : PySem.W.isFn X.K (.ref g) = true) (F : FnR X.prog X.w X.K X.mg X.base CX n g sp) (hr : Room (n + 1) X.A) (hx : Passes CX X E) :
    CallR X (.builtin "len") (rLenI C sp E) := by
  intro pins s σ H xs us Q I r h
  obtain ⟨a, dx, fs, rfl, ha, q⟩ := h
  obtain ⟨u, rfl, ru⟩ := vals1 r
  cases (show u = Value.ref a from ru)
  obtain ⟨mA, O, _⟩ := ins_get I.hok ha
  obtain ⟨od, J, _⟩ := O.look
  obtain ⟨m, hF⟩ := I.fr
  have hr1 : Room n X.A.in1 := Room.in1 hr
  refine PySem.W.len_K hF I.ok.mod.kin J hs hf (wpAny_mono (wpAny_call (SlX.run_at (us := [.ref a]) (ws := [.ref a]) F hr1 I.env0.in1 hx I (.cons rfl .nil) q)) (fun w s' z => ?_) fun _ _ x => x)
  obtain ⟨z', H', I', rz, k, ei, hk, qz⟩ := z
  subst ei
  obtain ⟨t, e⟩ := (show ∃ t, w = Value.int (k : Int) t from rz)
  cases e
  exact ⟨⟨by omega, by omega⟩, .int (k : Int), H', I'.tok _, ⟨_, rfl⟩, qz⟩
end Vk
set_option Elab.async false
set_option linter.all false
set_option maxRecDepth 100000
set_option maxHeartbeats 8000000
namespace Vk
open PySem PySem.Spec PyProof.Rows L2
theorem scAlikeL : FnScope ["_law_told", "_law_due_here", "_law_k"] ["_law_told", "_law_due_here"] (defScope sAlikeL) := ⟨rfl, rfl, rfl, by decide +kernel, rfl, by decide +kernel, by decide +kernel⟩
section
variable {P : Program} {w : World} {K : PySem.W.Frag} {mg : Str → Option Value} {base : Heap} {a : Ad} {d : Fd}
/-- told as due: the same texts and ints -/
def spAlikeL : Sp := fun vs H Q _ => ∃ (p q : Addr) (xs : List V), vs = [.ref p, .ref q] ∧ H p = some (.lst xs) ∧ H q = some (.lst xs) ∧ xs.length ≤ 10 ∧ (∀ x ∈ xs, (∃ t, x = .str t) ∨ ∃ i, x = .int i) ∧ Q (.bl true) H
theorem ok_alikeL (T : Fns K mg a d) : FnOk P w K mg base CX0 1 a.aAlikeL d.dAlikeL ["_law_told", "_law_due_here"] spAlikeL := by
  refine T.FAlikeL.ok scAlikeL (fun vs H Q E h => ?_) (fun cdv A0 outer s H vs Q E hr h => ?_)
  · obtain ⟨p, q, xs, rfl, _⟩ := h
    rfl
  · obtain ⟨p, q, xs, rfl, hp, hq, hl, hx, k⟩ := h
    refine ⟨_, (pss_cons (ps_if (pt_cmpR op_ne (pe_callB call_len_seq (by rfl) T.z_len (by decide +kernel) (pa_cons (pv 0) pa_nil)) (pe_callB call_len_seq (by rfl) T.z_len (by decide +kernel) (pa_cons (pv 1) pa_nil)) (nomark _)) (pss_one (ps_ret pe_bl)) pss_nil)
      (pss_cons (ps_for PassesOwn.never rfl (pi_range1 (by rfl) T.z_range (pa_cons (pe_callB call_len_seq (by rfl) T.z_len (by decide +kernel) (pa_cons (pv 1) pa_nil)) pa_nil)) (pg_name (i := 2) scAlikeL.nd rfl (Or.inl rfl)) (pss_cons (ps_if (pt_val (pe_callB call_isi (by rfl) T.z_isinstance (by decide +kernel) (pa_cons (pe_ix (r := rIxL K) ix_list (pv 1) (pv 2) (fun _ _ => rfl)) (pa_cons (pe_bltn (v := .ty "int") (by rfl) T.z_int (by decide +kernel) rfl) pa_nil)))) (pss_one (ps_if (PW.pt (pw_or (pt_not (pt_val (pe_callB call_isi (by rfl) T.z_isinstance (by decide +kernel) (pa_cons (pe_ix (r := rIxL K) ix_list (pv 0) (pv 2) (fun _ _ => rfl)) (pa_cons (pe_bltn (v := .ty "int") (by rfl) T.z_int (by decide +kernel) rfl) pa_nil))))) (pw_or1 (pt_val (pe_callB call_isi (by rfl) T.z_isinstance (by decide +kernel) (pa_cons (pe_ix (r := rIxL K) ix_list (pv 0) (pv 2) (fun _ _ => rfl)) (pa_cons (pe_bltn (v := .ty "bool") (by rfl) T.z_bool (by decide +kernel) rfl) pa_nil))))))) (pss_one (ps_ret pe_bl)) pss_nil)) (pss_one (ps_if (pt_not (pt_val (pe_callB call_isi (by rfl) T.z_isinstance (by decide +kernel) (pa_cons (pe_ix (r := rIxL K) ix_list (pv 0) (pv 2) (fun _ _ => rfl)) (pa_cons (pe_bltn (v := .ty "str") (by rfl) T.z_str (by decide +kernel) rfl) pa_nil))))) (pss_one (ps_ret pe_bl)) pss_nil)))
      (pss_one (ps_if (pt_cmpR op_ne (pe_ix (r := rIxL K) ix_list (pv 0) (pv 2) (fun _ _ => rfl)) (pe_ix (r := rIxL K) ix_list (pv 1) (pv 2) (fun _ _ => rfl)) (nomark _)) (pss_one (ps_ret pe_bl)) pss_nil))))
      (pss_one (ps_ret pe_bl)))), ?_⟩
    refine ⟨_, rfl, p, _, rfl, .inl (SqL.of hp), _, rfl, q, _, rfl, .inl (SqL.of hq), rfl, _, rfl, ite2 (fun h1 => (by
      have h2 : decide (V.int (xs.length : Int) = V.int (xs.length : Int)) = true := decide_eq_true rfl
      have h3 : (!decide (V.int (xs.length : Int) = V.int (xs.length : Int))) = true := h1
      rw [h2] at h3
      cases h3)) (fun _ => ?_)⟩
    refine ⟨_, rfl, q, _, rfl, .inl (SqL.of hq), _, rfl, by omega, by omega, for_range (lo := 0) (n := xs.length) (fun i σ H' => H' = H ∧ ∃ v2 : Option V, σ = [some (.ref p), some (.ref q), v2])
      ⟨rfl, _, rfl⟩ ?_ ?_⟩
    · rintro i σ H1 hi ⟨rfl, v2, rfl⟩
      obtain ⟨x, hxi⟩ : ∃ x, xs[i]? = some x := ⟨_, List.getElem?_eq_getElem hi⟩
      have hat : atI xs (0 + (i : Int)) = some x := by rw [Int.zero_add]; exact atI_nat hxi
      have same : ∀ y : V, (!decide (y = y)) = false := fun y => by rw [decide_eq_true rfl]; rfl
      rcases hx x (List.mem_of_getElem? hxi) with ⟨t, rfl⟩ | ⟨j, rfl⟩
      · refine ⟨_, rfl, _, rfl, q, _, _, _, rfl, rfl, SqL.of hq, hat, _, _, _, _, false, rfl, .ty "int", .base (.str t), rfl, _, rfl, iteF ?_⟩
        refine ⟨_, rfl, _, rfl, p, _, _, _, rfl, rfl, SqL.of hp, hat, _, _, _, _, true, rfl, .ty "str", .base (.str t), rfl, _, rfl, iteF ?_⟩
        refine ⟨_, rfl, _, rfl, p, _, _, _, rfl, rfl, SqL.of hp, hat, _, rfl, _, rfl, q, _, _, _, rfl, rfl, SqL.of hq, hat, rfl, _, rfl, ite2 (fun h => (by
          have h3 := same (.str t)
          have h4 : (!decide (V.str t = V.str t)) = true := h
          rw [h3] at h4
          cases h4)) (fun _ => ⟨rfl, _, rfl⟩)⟩
      · refine ⟨_, rfl, _, rfl, q, _, _, _, rfl, rfl, SqL.of hq, hat, _, _, _, _, true, rfl, .ty "int", .base (.int j), rfl, _, rfl, iteT ?_⟩
        refine ⟨_, rfl, _, rfl, p, _, _, _, rfl, rfl, SqL.of hp, hat, _, _, _, _, true, rfl, .ty "int", .base (.int j), rfl, _, rfl, iteF ⟨_, rfl, _, rfl, p, _, _, _, rfl, rfl, SqL.of hp, hat, _, _, _, _, false, rfl, .ty "bool", .base (.int j), rfl, _, rfl, iteF ?_⟩⟩
        refine ⟨_, rfl, _, rfl, p, _, _, _, rfl, rfl, SqL.of hp, hat, _, rfl, _, rfl, q, _, _, _, rfl, rfl, SqL.of hq, hat, rfl, _, rfl, ite2 (fun h => (by
          have h3 := same (.int j)
          have h4 : (!decide (V.int j = V.int j)) = true := h
          rw [h3] at h4
          cases h4)) (fun _ => ⟨rfl, _, rfl⟩)⟩
    · rintro σ H1 ⟨rfl, v2, rfl⟩
      exact k
end
end Vk
set_option Elab.async false
set_option linter.all false
set_option maxRecDepth 100000
set_option maxHeartbeats 8000000
namespace Vk
open PySem PySem.Spec PyProof.Rows L2
abbrev sNames : Stmt := inClass (top 15) 9
abbrev sEntries : Stmt := inClass (top 15) 10
theorem scNames : FnScope ["self"] ["self"] (defScope sNames) := ⟨rfl, rfl, rfl, by decide +kernel, rfl, by decide +kernel, by decide +kernel⟩
theorem scEntries : FnScope ["self", "name"] ["self"] (defScope sEntries) := ⟨rfl, rfl, rfl, by decide +kernel, rfl, by decide +kernel, by decide +kernel⟩
theorem valV_at {qs : List (Addr × Row)} (hnd : (qs.map fun q => q.2.n).Nodup) : ∀ {q : Addr × Row}, q ∈ qs → valV (qs.map kvB) (.inr (S q.2.n)) = some (.ref q.1) := by
  induction qs with
  | nil => intro q h; cases h
  | cons x r ih =>
    intro q h
    rw [List.map_cons, List.nodup_cons] at hnd
    rw [List.map_cons]
    rcases List.mem_cons.mp h with rfl | h
    · exact valV_pos rfl
    · rw [valV_neg (fun e => hnd.1 (List.mem_map.mpr ⟨q, h, (S_inj.mp (Sum.inr.inj e)).symm⟩))]
      exact ih hnd.2 h
section
variable {P : Program} {w : World} {K : PySem.W.Frag} {mg : Str → Option Value} {base : Heap} {a : Ad} {d : Fd} {CB : Addr} {mcB : Value} {tmB : Tok} {f : Addr} {fd : FuncData}
def spNames (CB : Addr) : Sp := fun vs H Q _ => ∃ (bk al : Addr) (qs : List (Addr × Row)), vs = [.ref bk] ∧ IsBook CB bk al H qs ∧ ∀ p, H p = none → Q (.ref p) (upd H p (.lst (qs.map fun q => V.str (S q.2.n))))
theorem ok_names (F : Fun K "names" "Book.names" sNames f fd) (T : Fns K mg a d) (BV : BkV K mg CB mcB tmB) : FnOk P w K mg base CX0 1 f fd ["self"] (spNames CB) := by
  refine F.ok scNames (fun vs H Q E h => ?_) (fun cdv A0 outer s H vs Q E hr h => ?_)
  · obtain ⟨bk, al, qs, rfl, _⟩ := h
    rfl
  · obtain ⟨bk, al, qs, rfl, ⟨dx, D, hb, hD, hq⟩, k⟩ := h
    refine ⟨_, pss_one (ps_ret (pe_callTy (call_listD rfl) (by rfl) T.z_list (by decide +kernel) (pa_cons (pe_fld (pv 0) rfl) pa_nil))), ?_⟩
    refine ⟨_, rfl, bk, CB, dx, _, _, rfl, hb, BV.cl, BV.nE, rfl, D, _, rfl, .inl hD, fun p hp => ?_⟩
    rw [List.map_map]
    exact k p hp
def spEntries (CB : Addr) : Sp := fun vs H Q _ => ∃ (bk al : Addr) (qs : List (Addr × Row)), vs = [.ref bk] ∧ IsBook CB bk al H qs ∧ (qs.map fun q => q.2.n).Nodup ∧ qs.length ≤ 20 ∧ ∀ p H', H p = none → H' p = some (.lst (qs.map fun q => V.ref q.1)) → Same H H' → Q (.ref p) H'
theorem ok_entries (F : Fun K "entries" "Book.entries" sEntries f fd) (T : Fns K mg a d) (BV : BkV K mg CB mcB tmB) : FnOk P w K mg base CX0 1 f fd ["self"] (spEntries CB) := by
  refine F.ok scEntries (fun vs H Q E h => ?_) (fun cdv A0 outer s H vs Q E hr h => ?_)
  · obtain ⟨bk, al, qs, rfl, _⟩ := h
    rfl
  · obtain ⟨bk, al, qs, rfl, ⟨dx, D, hb, hD, hq⟩, hnd, hl, k⟩ := h
    have hu := hr.units
    refine ⟨_, pss_one (ps_ret (pe_lock (pe_lc (own := [("name", 1)]) (g := gName 1) (by rfl) scEntries.nd (pi_keys (pe_fld (pv 0) rfl)) (blkOk_by (own := [("name", 1)]) (N := ["self", "name"]) (sc := defScope sEntries) (by decide +kernel)) (fun _ _ _ _ _ => pg_name (i := 1) scEntries.nd rfl (Or.inl rfl)) (fun _ _ _ _ _ => pts_nil) (fun _ _ _ _ _ => pe_dget (Nat.lt_of_le_of_lt (Nat.add_le_add_left (by decide : 1 ≤ 64) _) hu) (pe_fldK (K := K) (by rfl) (pv 0) (by rfl)) (pv 1) (fun _ _ => rfl))))), ?_⟩
    refine ⟨D, _, hD, trivial, fun od => ?_⟩
    have hDb : bk ≠ D := fun z => by
      rw [z, hD] at hb
      cases hb
    have hb2 : (upd H D (.frz od (.dK (qs.map kvB)))) bk = some (.ins CB dx [("alphabet", .ref al), ("_entries", .ref D)]) := by rw [upd_ne hDb]; exact hb
    have hD2 : (upd H D (.frz od (.dK (qs.map kvB)))) D = some (.frz od (.dK (qs.map kvB))) := upd_same
    generalize hH2 : upd H D (.frz od (.dK (qs.map kvB))) = H2 at hb2 hD2
    refine ⟨_, rfl, bk, CB, dx, _, _, rfl, hb2, BV.cl, BV.nE, rfl, D, od, rfl, .inl ⟨_, hD2, fun p hp => lc_it walk_keys (fun i H' => H' = upd H2 p (.lst ((qs.take i).map fun q => V.ref q.1))) rfl (fun i H' _ e => by rw [e, upd_ne (ne_of_none hD2 hp)]; exact hD2) ?_ ?_⟩⟩
    · rintro i x H1 H' hi rfl ⟨rfl, kk, vv, hk, rfl⟩
      obtain ⟨q, hqi, hqe⟩ : ∃ q, qs[i]? = some q ∧ kvB q = (kk, vv) := by
        rw [List.getElem?_map] at hk
        cases ee : qs[i]? with
        | none => rw [ee] at hk; cases hk
        | some z => rw [ee] at hk; exact ⟨z, rfl, Option.some.inj hk⟩
      obtain ⟨rfl, rfl⟩ := Prod.mk.inj hqe
      have hqm := List.mem_of_getElem? hqi
      refine ⟨rfl, _, rfl, bk, CB, dx, _, _, rfl, (by rw [upd_ne (ne_of_none hb2 hp)]; exact hb2), BV.cl, BV.nE, rfl, _, rfl, D, .ref q.1, rfl, .inl ⟨_, .inr (S q.2.n), .inr ⟨od, by rw [upd_ne (ne_of_none hD2 hp)]; exact hD2⟩, rfl, (valV_at hnd hqm).symm⟩, _, upd_same, ?_, ?_⟩
      · rw [List.length_map, List.length_take, sizeLine_eq]
        omega
      · rw [upd_upd, List.take_add_one, hqi, List.map_append]
        rfl
    · rintro H1 rfl
      have hpD : D ≠ p := ne_of_none hD2 hp
      refine ⟨by rw [upd_ne hpD]; exact hD2, ?_⟩
      rw [List.length_map, List.take_length]
      have hp0 : H p = none := by
        rw [← hH2, upd_ne hpD.symm] at hp
        exact hp
      refine k p _ hp0 ?_ fun b o hbo => ?_
      · rw [upd_ne hpD.symm, upd_same]
      · by_cases hbD : b = D
        · subst hbD
          rw [upd_same]
          rw [hD] at hbo
          exact hbo
        · rw [upd_ne hbD, upd_ne (ne_of_none hbo hp0), ← hH2, upd_ne hbD]
          exact hbo
end
end Vk
set_option Elab.async false
set_option linter.all false
set_option maxRecDepth 100000
set_option maxHeartbeats 8000000
namespace Vk
open PySem PySem.Spec PyProof.Rows L2
abbrev sLenB : Stmt := inClass (top 15) 2
theorem scLenB : FnScope ["self"] ["self"] (defScope sLenB) := ⟨rfl, rfl, rfl, by decide +kernel, rfl, by decide +kernel, by decide +kernel⟩
section
variable {P : Program} {w : World} {K : PySem.W.Frag} {mg : Str → Option Value} {base : Heap} {a : Ad} {d : Fd} {CB : Addr} {mcB : Value} {tmB : Tok} {f : Addr} {fd : FuncData}
def spLenB (CB : Addr) : Sp := fun vs H Q _ => ∃ (bk al : Addr) (qs : List (Addr × Row)), vs = [.ref bk] ∧ IsBook CB bk al H qs ∧ Q (.int (qs.length : Int)) H
theorem ok_lenB (F : Fun K "__len__" "Book.__len__" sLenB f fd) (T : Fns K mg a d) (BV : BkV K mg CB mcB tmB) : FnOk P w K mg base CX0 1 f fd ["self"] (spLenB CB) := by
  refine F.ok scLenB (fun vs H Q E h => ?_) (fun cdv A0 outer s H vs Q E hr h => ?_)
  · obtain ⟨bk, al, qs, rfl, _⟩ := h
    rfl
  · obtain ⟨bk, al, qs, rfl, ⟨dx, D, hb, hD, hq⟩, k⟩ := h
    refine ⟨_, pss_one (ps_ret (pe_callB call_lenD (by rfl) T.z_len (by decide +kernel) (pa_cons (pe_fld (pv 0) rfl) pa_nil))), ?_⟩
    refine ⟨_, rfl, bk, CB, dx, _, _, rfl, hb, BV.cl, BV.nE, rfl, D, _, rfl, hD, ?_⟩
    rw [List.length_map]
    exact k
/-- len(book), as the law asks for it -/
theorem call_lenBook {X : Cx} {g : Addr} {fd : FuncData} (hs : PySem.W.findIn X.K (.ref CB) "__len__" = some (some (.ref g))) (hf : PySem.W.isFn X.K (.ref g) = true) (F : FnOk X.prog X.w X.K X.mg X.base CX0 1 g fd ["self"] (spLenB CB)) (hb : Binds X.K fd ["self"] []) (hr : Room 2 X.A) :
    CallR X (.builtin "len") (rLenI CB (fun vs H Q E => spLenB CB (vs ++ []) H Q E) E0) := call_lenI hs hf (F.raw hb .nil) hr pass0
end
end Vk
set_option Elab.async false
set_option linter.all false
set_option maxRecDepth 100000
set_option maxHeartbeats 4000000
namespace Vk
open PySem PySem.Spec PyProof.Rows L2
/-- what a class says of its own operator, the right hand side a builtin T -/
structure BinF (K : PySem.W.Frag) (C g : Addr) (op : Operator) (T : String) : Prop where
  sf : PySem.W.selfFirst K C = true
  own : PySem.W.findIn K (.ref C) (PySem.dunder op.info.2) = some (some (.ref g))
  fn : PySem.W.isFn K (.ref g) = true
  nr : PySem.W.findIn K (.ref C) (dunderR op.info.2) = some none
  t1 : ∃ fo, PySem.W.findIn K (.type T) (PySem.dunder op.info.2) = some fo
  t2 : ∃ ro, PySem.W.findIn K (.type T) (dunderR op.info.2) = some ro
  sub : PySem.W.subIn K (.type T) (.ref C) = some false
section
variable {prog : Program} {w : World} {A : Around} {E : Value → Shared → Prop} {s : Shared} {K : PySem.W.Frag} {x C L g : Addr} {h0 : Heap} {m : Str → Option Value} {ox : Obj} {od : Option Obj} {T : String}
theorem bin_any {op : Operator} {b : Value} {Q : Value → Shared → Prop} (F : PyProof.Rows.Fr h0 L s.heap m) (X0 : K.In h0) (I : PySem.W.InstAt s.heap x ox C od) (lb : PySem.W.Looks (model prog w) s.heap (typeOf b) (.type T)) (B : BinF K C g op T)
    (go : wpAny (model prog w) A (call (.ref g) [.ref x, b]) (PySem.W.CmpBack Q) E s) : wpAny (model prog w) A (binaryOp op (.ref x) b) Q E s := by
  have Xs := X0.keeps F.keep
  obtain ⟨B1, B2, B3, B4, ⟨fo, B5⟩, ⟨ro, B6⟩, B7⟩ := B
  obtain ⟨cd, rest, hcd, hm⟩ := PySem.W.ksp_first B1
  obtain ⟨sym, n2, hi⟩ : ∃ sym n2, op.info = (sym, n2) := ⟨_, _, rfl⟩
  simp only [hi] at B2 B4 B5 B6
  have run := PySem.W.ksp_try Xs I B2 B3 go
  have l1 := I.type (M := model prog w)
  have l3 := PySem.W.fills_K (M := model prog w) Xs hcd hm B2
  have l4 := PySem.W.ksp_fillsT (M := model prog w) Xs B5 B6
  have l5 := PySem.W.looks_subIn (M := model prog w) Xs B7
  have l6 := PySem.W.ksp_inPy (M := model prog w) Xs B2 B4 (.inl rfl)
  have l7 : PySem.W.Looks (model prog w) s.heap (numberSlotInPython (.type T) n2) false := .of_pure rfl
  have l8 := PySem.W.looks_findIn (M := model prog w) Xs B6
  generalize ((fo.isSome && !isSeqSlot fo) || (ro.isSome && !isSeqSlot ro)) = rgt at l4
  have ne : (Value.ref C == Value.type T) = false := rfl
  cases s
  simp only [binaryOp, hi]
  refine wpAny_holding (wpAny_bind ?_)
  unfold binaryOp1
  refine wpAny_bind (l1.at (wpAny_bind (lb.at (wpAny_bind (l3.at ?_)))))
  simp only [ne, Bool.false_eq_true, if_false]
  cases rgt <;>
  · ksp_lk
    refine wpAny_mono run (fun r s' z => ?_) fun _ _ e => e
    obtain ⟨v, rfl, q⟩ := z
    ksp_lk
    exact q
end
theorem looks_tuple {M : Model} {h : Heap} {p : Addr} {o : Obj} (e : h.get? p = some o) (c : o.cls = .type "tuple") : PySem.W.Looks M h (typeOf (.ref p)) (.type "tuple") :=
  fun _ _ _ _ k q => wpAny_typeOf ⟨o, k _ _ e, c⟩ q
/-! x op y by an own method, y a text or a tuple; what it raises is wished for at the slots -/
def tBinI (K : PySem.W.Frag) (C : Addr) (sp : Sp) (E : L2.St → XK) (ta tb : TE) : TE := fun σ H Q => ta σ H fun x H1 => tb σ H1 fun y H2 => ∃ a dx fs, x = .ref a ∧ H2 a = some (.ins C dx fs) ∧ ((∃ z, y = .str z) ∨ ∃ p xs, y = .ref p ∧ SqT K H2 p xs) ∧ sp [x, y] H2 Q (E σ)
section
variable {X : Cx} {CX : CXT} {k : Nat} {g C : Addr} {fd : FuncData} {ps : List Str} {sp : Sp} {E : L2.St → XK} {pos : Pos} {e f : Expr} {ta tb : TE} {op : Operator}
theorem pe_binI (B1 : BinF X.K C g op "str") (B2 : BinF X.K C g op "tuple") (F : FnOk X.prog X.w X.K X.mg X.base CX k g fd ps sp) (hr : Room k X.A) (hb : Binds X.K fd ps []) (hx : ∀ σ, PassesAt CX X σ (E σ)) (he : PE X e ta) (hf : PE X f tb) :
    PE X (.BinOp e op f pos) (tBinI X.K C sp E ta tb) := by
  refine ⟨fun pins s σ H Q I h => ?_⟩
  refine wpAny_BinOp (binT he hf (R := fun x y H2 => ∃ a dx fs, x = .ref a ∧ H2 a = some (.ins C dx fs) ∧ ((∃ z, y = .str z) ∨ ∃ p xs, y = .ref p ∧ SqT X.K H2 p xs) ∧ sp [x, y] H2 Q (E σ)) I h fun v u s2 x y H2 I2 rx ry q => ?_)
  obtain ⟨a, dx, fs, rfl, ha, hy, q⟩ := q
  cases (show v = Value.ref a from rx)
  obtain ⟨mA, O, _⟩ := ins_get I2.hok ha
  obtain ⟨od, J, _⟩ := O.look
  obtain ⟨m, hF⟩ := I2.fr
  have run : wpAny (model X.prog X.w) X.A (call (.ref g) [.ref a, u]) (PySem.W.CmpBack (EP X pins σ Q)) X.xe s2 := by
    refine wpAny_mono (run_fnS (us := [.ref a, u]) (vs := [.ref a, y]) F hr hb (hx σ) I2 (.cons rfl (.cons ry .nil)) q) (fun w s1 z => ?_) fun _ _ z => z
    obtain ⟨z1, H1, I1, rz, qz⟩ := z
    exact SlX.cmpback rz ⟨z1, H1, I1, rz, qz⟩
  rcases hy with ⟨z, rfl⟩ | ⟨p, xs, rfl, hp⟩
  · obtain ⟨t, rfl⟩ := ry
    exact bin_any hF I2.ok.mod.kin J (.of_pure rfl) B1 run
  · cases (show u = Value.ref p from ry)
    obtain ⟨its, _, ⟨o, ho, hc, _⟩, _⟩ := I2.tuple hp
    exact bin_any hF I2.ok.mod.kin J (looks_tuple ho hc) B2 run
/-! y in x by an own __contains__ that never raises -/
def rInI (C : Addr) (sp : Sp) (E : XK) : R2 := fun y x H Q => ∃ a dx fs, x = .ref a ∧ H a = some (.ins C dx fs) ∧ sp [x, y] H (fun z H' => ∃ b, z = .bl b ∧ Q (.bl b) H') E
theorem op_inI {E : XK} (hs : PySem.W.findIn X.K (.ref C) "__contains__" = some (some (.ref g))) (hf : PySem.W.isFn X.K (.ref g) = true) (F : FnOk X.prog X.w X.K X.mg X.base CX k g fd ps sp) (hr : Room k X.A) (hb : Binds X.K fd ps []) (hx : Passes CX X E) :
    OpR X (compareOp .In) (rInI C sp E) := by
  intro pins s σ H y x u v Q I ry rx h
  obtain ⟨a, dx, fs, rfl, ha, q⟩ := h
  cases (show v = Value.ref a from rx)
  obtain ⟨mA, O, _⟩ := ins_get I.hok ha
  obtain ⟨od, J, _⟩ := O.look
  obtain ⟨m, hF⟩ := I.fr
  refine PySem.W.in_K hF I.ok.mod.kin J hs hf ?_
  refine wpAny_mono (run_fn (us := [.ref a, u]) (vs := [.ref a, y]) F hr hb .nil hx I (.cons rfl (.cons ry .nil)) (by rw [List.append_nil]; exact q)) (fun w s1 z => ?_) fun _ _ z => z
  obtain ⟨z1, H1, I1, rz, b, rfl, qz⟩ := z
  cases (show w = Value.bool b from rz)
  exact wpAny_truthy_bool ⟨.bl b, H1, I1, rfl, qz⟩
/-! x[y] by an own __getitem__ that may raise, in a try -/
def tIxI (C : Addr) (sp : Sp) (E : L2.St → XK) (ta tb : TE) : TE := fun σ H Q => ta σ H fun x H1 => tb σ H1 fun y H2 => ∃ a dx fs, x = .ref a ∧ H2 a = some (.ins C dx fs) ∧ sp [x, y] H2 Q (E σ)
theorem pe_ixI (hs : PySem.W.findIn X.K (.ref C) "__getitem__" = some (some (.ref g))) (hn : PySem.W.fnIn X.K g = true) (hi : PySem.W.isFn X.K (.ref g) = true) (F : FnR X.prog X.w X.K X.mg X.base CX k g sp) (hr : Room (k + 1) X.A) (hx : ∀ σ, PassesAt CX X σ (E σ)) (he : PE X e ta) (hf : PE X f tb)
    (hsl : ∀ o i, subscripted f true o i = runValue (.builtin "lifetime.subscript" ⟨[o, i], []⟩)) : PE X (.Subscript e f pos) (tIxI C sp E ta tb) := by
  refine ⟨fun pins s σ H Q I h => ?_⟩
  refine Subscript_ (binT he hf (R := fun x y H2 => ∃ a dx fs, x = .ref a ∧ H2 a = some (.ins C dx fs) ∧ sp [x, y] H2 Q (E σ)) I h fun v u s2 x y H2 I2 rx ry q => ?_)
  obtain ⟨a, dx, fs, rfl, ha, q⟩ := q
  cases (show v = Value.ref a from rx)
  obtain ⟨mA, O, _⟩ := ins_get I2.hok ha
  obtain ⟨od, J, _⟩ := O.look
  obtain ⟨m, hF⟩ := I2.fr
  have hr1 : Room k X.A.in1 := Room.in1 hr
  refine PySem.W.sub_K hF I2.ok.mod.kin J hs hn hi (wpAny_call (codeAny_mono (F X.A.in1 X.stack s2 H2 [.ref a, u] [.ref a, y] Q (E σ) hr1 I2.env0.in1 (.cons rfl (.cons ry .nil)) q) fun r s' z => ?_)) (hsl _ _)
  match r, z with
  | .error e, z => exact hx σ pins H2 s2 e s' I2 z
  | .ok (.ret u), z => exact I2.after z
  | .ok .next, z => exact z.elim
  | .ok .brk, z => exact z.elim
  | .ok .cont, z => exact z.elim
end
end Vk
set_option Elab.async false
set_option linter.all false
set_option maxRecDepth 100000
set_option maxHeartbeats 8000000
namespace Vk
open PySem PySem.Spec PyProof.Rows L2
section
variable {P : Program} {w : World} {K : PySem.W.Frag} {mg : Str → Option Value} {base : Heap}
abbrev sUnknownName : Stmt := inClass (top 10) 0
def spEUnknownName (C : Addr) : Sp := fun vs H Q _ => ∃ (a : Addr) (t : List Nat), vs = [.ref a, .str (S t)] ∧ Tx t ∧ H a = some (exo a C none) ∧
  ∀ dx, H dx = none → dx ≠ a → Q .non (upd (upd H dx (exd dx [("name", .str (S t))])) a (exo a C (some dx)))
theorem scUnknownName : SScope ["self", "name"] (defScope sUnknownName) := ⟨rfl, rfl, rfl, by decide +kernel, by decide +kernel, by decide +kernel, fun x h => (show ∀ y ∈ (defScope sUnknownName).names, y.2 = .free → y.1 = "__class__" by decide +kernel) _ (PySem.mem_of_lookup h) rfl, by decide +kernel, by decide +kernel⟩
theorem ok_eUnknownName {f C cc cda : Addr} {dV kV doc pm ct oc : Value} {an od : Option Addr} {osl : Array (Option Value)} (T : SupC P K mg C cc cda) (hp : PySem.W.findIn K (.ref C) "name" = some none)
    (lk : K.lookup f = some ⟨oc, od, .func (PySem.W.ksFn "__init__" "UnknownName.__init__" (defArgs sUnknownName) (defBody sUnknownName) (defScope sUnknownName) dV kV doc pm an (.ref cda) ct cc), osl⟩) (hcd : PySem.W.codeIn K (.ref cda) "UnknownName.__init__" = true) :
    FnOk P w K mg base CX0 1 f (PySem.W.ksFn "__init__" "UnknownName.__init__" (defArgs sUnknownName) (defBody sUnknownName) (defScope sUnknownName) dV kV doc pm an (.ref cda) ct cc) ["self", "name"] (spEUnknownName C) := by
  refine fn_super (self := "self") (N' := ["name"]) T lk hcd scUnknownName rfl rfl rfl rfl (fun _ => rfl) (fun _ => rfl) (fun vs H Q E h => ?_) (fun A outer s H vs Q E hr h => ?_)
  · obtain ⟨a, z, rfl, _⟩ := h
    rfl
  · obtain ⟨a, z, rfl, hz, ha, k⟩ := h
    refine ⟨_, _, pe_joined (.cons pe_str (.cons (pe_fmtR (pv 1)) .nil)), pss_one (ps_ost (pv 0) (pv 1)), ⟨a, rfl, ha⟩, ?_⟩
    have e1 : (PySem.Str.ofString "no entry has the name ").length ≤ 100 := by decide +kernel
    have hz2 := repr_tx hz
    refine ⟨_, rfl, sl4 ?_, _, rfl, .inl ⟨S z, rfl, sl4 (by omega), _, rfl, sl4 ?_, ⟨a, rfl, ha⟩, ?_⟩⟩
    · rw [al2, e0l]
      omega
    · rw [al2, al2, e0l]
      omega
    · exact ⟨_, rfl, _, rfl, a, C, rfl, T.oex, hp, .inl ⟨ha, fun dx hd hn => k dx hd hn⟩⟩
end
theorem valV_has {qs : List (Addr × Row)} (t : List Nat) : (valV (qs.map kvB) (.inr (S t))).isSome = decide (t ∈ qs.map fun q => q.2.n) := by
  induction qs with
  | nil => rw [List.map_nil, valV_nil]; rfl
  | cons x r ih =>
    by_cases e : x.2.n = t
    · subst e
      rw [List.map_cons, show valV (kvB x :: r.map kvB) (.inr (S x.2.n)) = some (.ref x.1) from valV_pos rfl, List.map_cons, decide_eq_true List.mem_cons_self]
      rfl
    · rw [List.map_cons, show valV (kvB x :: r.map kvB) (.inr (S t)) = valV (r.map kvB) (.inr (S t)) from valV_neg (fun h => e (S_inj.mp (Sum.inr.inj h))), ih, List.map_cons, Bool.eq_iff_iff, decide_eq_true_iff, decide_eq_true_iff, List.mem_cons]
      exact ⟨.inr, fun h => h.resolve_left fun z => e z.symm⟩
abbrev sHas : Stmt := inClass (top 15) 3
abbrev sItem0 : Stmt := inClass (top 15) 4
theorem scHas : FnScope ["self", "name"] ["self", "name"] (defScope sHas) := ⟨rfl, rfl, rfl, by decide +kernel, rfl, by decide +kernel, by decide +kernel⟩
theorem scItem0 : FnScope ["self", "name"] ["self", "name"] (defScope sItem0) := ⟨rfl, rfl, rfl, by decide +kernel, rfl, by decide +kernel, by decide +kernel⟩
section
variable {P : Program} {w : World} {K : PySem.W.Frag} {mg : Str → Option Value} {base : Heap} {a : Ad} {d : Fd} {CB : Addr} {mcB : Value} {tmB : Tok} {f un unF : Addr} {fd unD : FuncData}
def spHas (CB : Addr) : Sp := fun vs H Q _ => ∃ (bk al : Addr) (qs : List (Addr × Row)) (t : List Nat), vs = [.ref bk, .str (S t)] ∧ IsBook CB bk al H qs ∧ Q (.bl (decide (t ∈ qs.map fun q => q.2.n))) H
theorem ok_has (F : Fun K "__contains__" "Book.__contains__" sHas f fd) (T : Fns K mg a d) (BV : BkV K mg CB mcB tmB) : FnOk P w K mg base CX0 1 f fd ["self", "name"] (spHas CB) := by
  refine F.ok scHas (fun vs H Q E h => ?_) (fun cdv A0 outer s H vs Q E hr h => ?_)
  · obtain ⟨bk, al, qs, t, rfl, _⟩ := h
    rfl
  · obtain ⟨bk, al, qs, t, rfl, ⟨dx, D, hb, hD, hq⟩, k⟩ := h
    have hu := hr.units
    refine ⟨_, pss_one (ps_ret (pe_cmp (pc_din (Nat.lt_of_le_of_lt (Nat.add_le_add_left (by decide : 1 ≤ 64) _) hu) (pv 1) (pe_fld (pv 0) rfl)) rfl)), ?_⟩
    refine ⟨_, rfl, _, rfl, bk, CB, dx, _, _, rfl, hb, BV.cl, BV.nE, rfl, D, _, rfl, DGet.k (k := .inr (S t)) hD, ?_⟩
    rw [valV_has]
    exact k
def spItem0 (CB un : Addr) : Sp := fun vs H Q E => ∃ (bk al : Addr) (qs : List (Addr × Row)) (t : List Nat), vs = [.ref bk, .str (S t)] ∧ IsBook CB bk al H qs ∧ Tx t ∧ (qs.map fun q => q.2.n).Nodup ∧
  (∀ q ∈ qs, q.2.n = t → Q (.ref q.1) H) ∧ (t ∉ (qs.map fun q => q.2.n) → ∀ dd H', H dd = none → H' dd = some (.xd [("name", .str (S t))]) → Same H H' → E (.ref un) (some dd) H')
theorem ok_item0 (F : Fun K "__getitem__" "Book.__getitem__" sItem0 f fd) (T : Fns K mg a d) (BV : BkV K mg CB mcB tmB) (U : EF K mg "UnknownName" un unF unD ["self", "name"]) (GUN : FnOk P w K mg base CX0 1 unF unD ["self", "name"] (spEUnknownName un)) :
    FnOk P w K mg base (L2.CX P w) 3 f fd ["self", "name"] (spItem0 CB un) := by
  refine F.okX scItem0 (fun vs H Q E h => ?_) (fun cdv A0 outer s H vs Q E hr h => ?_)
  · obtain ⟨bk, al, qs, t, rfl, _⟩ := h
    rfl
  · obtain ⟨bk, al, qs, t, rfl, ⟨dx, D, hb, hD, hq⟩, ht, hnd, ky, kn⟩ := h
    have hu := hr.units
    refine ⟨_, pss_cons (ps_if (pt_cmp (pc_dnotin (Nat.lt_of_le_of_lt (Nat.add_le_add_left (by decide : 1 ≤ 64) _) hu) (pv 1) (pe_fld (pv 0) rfl)) rfl) (pss_one (ps_raise rfl (takes_of rfl rfl rfl rfl) (pmk_oex U.ox U.iC U.tI GUN (hr.mono (by decide)) U.bB .nil pass0 (by rfl) U.gB (pa_cons (pv 1) pa_nil)))) pss_nil)
      (pss_one (ps_ret (pe_dget (Nat.lt_of_le_of_lt (Nat.add_le_add_left (by decide : 1 ≤ 64) _) hu) (pe_fld (pv 0) rfl) (pv 1) (fun _ _ => rfl)))), ?_⟩
    refine ⟨_, rfl, _, rfl, bk, CB, dx, _, _, rfl, hb, BV.cl, BV.nE, rfl, D, _, rfl, DGet.k (k := .inr (S t)) hD, ?_⟩
    rw [valV_has]
    refine ⟨_, rfl, ite2 (fun h => ?_) (fun h => ?_)⟩
    · have hn : t ∉ (qs.map fun q => q.2.n) := fun z => by
        rw [decide_eq_true z] at h
        cases h
      exact ⟨_, rfl, by show 1 ≤ 1000; decide, fun b hb => ⟨b, t, rfl, ht, upd_same, raise1 hb (Same.refl H) fun dd H' z1 z2 z3 => kn hn dd H' z1 z2 z3⟩⟩
    · have hm : t ∈ (qs.map fun q => q.2.n) := by
        by_cases z : t ∈ (qs.map fun q => q.2.n)
        · exact z
        · rw [decide_eq_false z] at h
          exact absurd rfl h
      obtain ⟨q, hqm, e⟩ := List.mem_map.mp hm
      refine ⟨_, rfl, bk, CB, dx, _, _, rfl, hb, BV.cl, BV.nE, rfl, _, rfl, D, .ref q.1, rfl, ?_, ky q hqm e⟩
      have := valV_at hnd hqm
      rw [e] at this
      exact .inl ⟨_, .inr (S t), .inl hD, rfl, this.symm⟩
end
end Vk
set_option Elab.async false
set_option linter.all false
set_option maxRecDepth 100000
set_option maxHeartbeats 4000000
namespace Vk
open PySem PySem.Spec PyProof.Rows L2
/-! C(e, .., *y) -/
section
variable {X : Cx} {CX : CXT} {k : Nat} {f C : Addr} {sp : Sp} {E : XK} {x : Str} {e : Expr} {es : List Expr} {t : TA} {p pos : Pos}
theorem pe_makeRS (M : Mk X.K C f) (F : FnR X.prog X.w X.K X.mg X.base CX k f sp) (hr : Room (k + 1) X.A) (hg : Gl X x) (hm : X.mg x = some (.ref C)) (hx : Passes CX X E) (ha : PA X (e :: es) t) (hst : (backTo pos (starEach es X.env)).any (·.1) = true)
    (hdb : (x == ("__debug__" : Str)) = false := by decide) (he : starEach (e :: es) X.env = (false, eval e X.env) :: starEach es X.env := by rfl) : PE X (.Call (.Name x p) (e :: es) [] pos) (StX.tMakeR C sp E t) :=
  ⟨fun pins s σ H Q I h => wpAny_Call_Name_kw (ld_glob I hg hm (PySem.W.callWith_S2 (h₀ := X.base) I.ok.mod.kin M.kp (thn (ha.run pos pins s σ H _ I h) fun us s1 z => by
    obtain ⟨vs, H1, I1, r, q⟩ := z
    exact ⟨I1.kIn, StX.run_makeR M F hr hx I1 r q⟩) he hst) hdb)⟩
end
end Vk
set_option Elab.async false
set_option linter.all false
set_option maxRecDepth 100000
set_option maxHeartbeats 8000000
namespace Vk
open PySem PySem.Spec PyProof.Rows L2
abbrev sBAdd : Stmt := inClass (top 15) 6
abbrev sBSub : Stmt := inClass (top 15) 7
theorem scBAdd : FnScope ["self", "entry", "entries"] ["self", "entry"] (defScope sBAdd) := ⟨rfl, rfl, rfl, by decide +kernel, rfl, by decide +kernel, by decide +kernel⟩
theorem scBSub : FnScope ["self", "name", "entries", "entry"] ["self", "name"] (defScope sBSub) := ⟨rfl, rfl, rfl, by decide +kernel, rfl, by decide +kernel, by decide +kernel⟩
/-- what a call of Book tells of the rows ps -/
def Told (C CB : Addr) (c : Er) (al : Addr) (sg : List Nat) (ps : List (Addr × Row)) (H : Hp) (Q : VK) (E : XK) : Prop :=
  (ps.length ≤ 8 → firstF sg [] (ps.map (·.2)) = [] → ∀ bk qs H', H bk = none → qs.Perm ps → sortedR qs → (ps.map fun q => q.2.n).Nodup → IsBook CB bk al H' qs → Same H H' → Q (.ref bk) H') ∧
  (8 < ps.length → ∀ dd H', H dd = none → H' dd = some (.xd [("most", .int 8)]) → Same H H' → E (.ref c.tm) (some dd) H') ∧
  (ps.length ≤ 8 → ∀ B dd fs H', Raised c (firstF sg [] (ps.map (·.2))) B fs → H dd = none → H' dd = some (.xd fs) → Same H H' → E (.ref B) (some dd) H')
theorem Told.same {C CB : Addr} {c : Er} {al : Addr} {sg : List Nat} {ps : List (Addr × Row)} {H H1 : Hp} {Q : VK} {E : XK} (t : Told C CB c al sg ps H Q E) (s : Same H H1) : Told C CB c al sg ps H1 Q E :=
  ⟨fun h8 hf bk qs H' z1 z2 z3 z4 z5 z6 => t.1 h8 hf bk qs H' (Same.none s z1) z2 z3 z4 z5 (Same.trans s z6), fun h8 dd H' z1 z2 z3 => t.2.1 h8 dd H' (Same.none s z1) z2 (Same.trans s z3), fun h8 B dd fs H' r z1 z2 z3 => t.2.2 h8 B dd fs H' r (Same.none s z1) z2 (Same.trans s z3)⟩
theorem told_fin {C CB : Addr} {c : Er} {al : Addr} {l v : List Nat} {ps : List (Addr × Row)} {H : Hp} {Q : VK} {E : XK} (hA : IsAl C H al l v) (hR : ∀ q ∈ ps, H q.1 = some (.tup q.2.vs) ∧ q.2.ok) (hps : ps.length ≤ 20) (t : Told C CB c al (45 :: srtL l) ps H Q E) :
    ∀ x dx, H x = none → H dx = none → dx ≠ x → spBIr C CB c (V.ref x :: (V.ref al :: ps.map fun q => V.ref q.1)) (upd (upd H dx (.own x)) x (.ins CB dx [])) (fun v H2 => v = .non ∧ Q (.ref x) H2) E := by
  intro x dx hx hdx hne
  refine ⟨[V.ref x, V.ref al], ps.map fun q => V.ref q.1, rfl, rfl, by rw [List.length_map, sizeLine_eq]; omega, fun p hp => ?_⟩
  have s1 : Same H (upd (upd H dx (.own x)) x (.ins CB dx [])) := Same.trans (upd_laid hdx) (upd_laid (by rw [upd_ne hne.symm]; exact hx))
  have hx1 : (upd (upd H dx (.own x)) x (.ins CB dx [])) x = some (.ins CB dx []) := upd_same
  generalize upd (upd H dx (.own x)) x (.ins CB dx []) = H1 at s1 hx1 hp
  have s2 : Same H1 (upd H1 p (.tup (ps.map fun q => V.ref q.1))) := upd_laid hp
  have hp2 : (upd H1 p (.tup (ps.map fun q => V.ref q.1))) p = some (.tup (ps.map fun q => V.ref q.1)) := upd_same
  have s12 := Same.trans s1 s2
  have hx2 := s2 _ _ hx1
  generalize upd H1 p (.tup (ps.map fun q => V.ref q.1)) = H2 at s2 hp2 s12 hx2
  obtain ⟨kq, km, ke⟩ := t
  exact ⟨x, al, p, dx, l, v, ps, rfl, hx2, hA.same s12, ⟨hp2, fun q hq => ⟨s12 _ _ (hR q hq).1, (hR q hq).2⟩⟩, by omega, fun h8 hf qs H' hperm hsort hnd hB hk => ⟨rfl, kq h8 hf x qs H' hx hperm hsort hnd hB fun b o hb => hk b o (ne_of_none hb hx) (s12 b o hb)⟩, fun h8 dd H' z1 z2 z3 => km h8 dd H' (Same.none s12 z1) z2 (Same.trans s12 z3), fun h8 B dd fs H' hr5 z1 z2 z3 => ke h8 B dd fs H' hr5 (Same.none s12 z1) z2 (Same.trans s12 z3)⟩
section
variable {P : Program} {w : World} {K : PySem.W.Frag} {mg : Str → Option Value} {base : Heap} {a : Ad} {d : Fd} {c : Er} {C CB : Addr} {mcB : Value} {tmB : Tok} {f fI fE un unF : Addr} {fd fdE unD : FuncData}
def spBAdd (C CB : Addr) (c : Er) : Sp := fun vs H Q E => ∃ (bk al x : Addr) (l v : List Nat) (qs : List (Addr × Row)) (e : Row), vs = [.ref bk, .ref x] ∧ IsBook CB bk al H qs ∧ IsAl C H al l v ∧ H x = some (.tup e.vs) ∧ e.ok ∧ (qs.map fun q => q.2.n).Nodup ∧ qs.length ≤ 8 ∧
  Told C CB c al (45 :: srtL l) (qs ++ [(x, e)]) H Q E
theorem ok_bAdd (Fn : Fun K "__add__" "Book.__add__" sBAdd f fd) (T : Fns K mg a d) (BV : BkV K mg CB mcB tmB) (M : Mk K CB fI) (F : FnR P w K mg base (L2.CX P w) 4 fI (spBIr C CB c)) (mE : Meth K CB "entries" fE) (GE : FnOk P w K mg base CX0 1 fE fdE ["self"] (spEntries CB)) (bE : Binds K fdE ["self"] []) :
    FnOk P w K mg base (L2.CX P w) 6 f fd ["self", "entry"] (spBAdd C CB c) := by
  refine Fn.okX scBAdd (fun vs H Q E h => ?_) (fun cdv A0 outer s H vs Q E hr h => ?_)
  · obtain ⟨bk, al, x, l, v, qs, e, rfl, _⟩ := h
    rfl
  · obtain ⟨bk, al, x, l, v, qs, e, rfl, hB, hA, hx, he, hnd, hl, k⟩ := h
    have hB0 := hB
    obtain ⟨dx, D, hb, hD, hq⟩ := hB
    refine ⟨_, pss_cons (ps_set (i := 2) scBAdd.nd rfl (Or.inl rfl) (pe_op op_cat (pe_meth0 (pv 0) BV.cl mE GE (hr.mono (by decide)) bE .nil pass0) (pe_lst (pa_cons (pv 1) pa_nil))))
      (pss_one (ps_ret (pe_makeRS M F hr (by rfl) BV.gB (passes_call (E := E) (takes_of rfl rfl rfl rfl) (fun _ _ _ _ h => h)) (pa_cons (pe_fld (pv 0) rfl) (StX.pa_star (pv 2) pa_nil)) rfl))), ?_⟩
    refine ⟨_, rfl, bk, dx, _, rfl, hb, rfl, bk, al, qs, rfl, hB0, hnd, by omega, fun p H1 hp hp1 s1 => ?_⟩
    refine ⟨_, rfl, (by show 1 ≤ sizeLine; decide), fun p2 hp2 => ?_⟩
    have s2 : Same H1 (upd H1 p2 (.lst [.ref x])) := upd_laid hp2
    have s12 := Same.trans s1 s2
    have h2 : (upd H1 p2 (.lst [.ref x])) p2 = some (.lst [.ref x]) := upd_same
    have hp3 := s2 _ _ hp1
    generalize upd H1 p2 (.lst [.ref x]) = H2 at s2 s12 h2 hp3
    refine ⟨p, p2, _, _, rfl, rfl, hp3, h2, by rw [List.length_map, sizeLine_eq]; show qs.length + 1 ≤ _; omega, fun p4 hp4 => ?_⟩
    have s4 : Same H2 (upd H2 p4 (.lst ((qs.map fun q => V.ref q.1) ++ [.ref x]))) := upd_laid hp4
    have h4 : (upd H2 p4 (.lst ((qs.map fun q => V.ref q.1) ++ [.ref x]))) p4 = some (.lst ((qs ++ [(x, e)]).map fun q => V.ref q.1)) := by
      rw [upd_same, List.map_append]
      rfl
    have s := Same.trans s12 s4
    generalize upd H2 p4 (.lst ((qs.map fun q => V.ref q.1) ++ [.ref x])) = H4 at s4 h4 s
    refine ⟨_, rfl, bk, CB, dx, _, _, rfl, s _ _ hb, BV.cl, BV.nA, rfl, _, rfl, p4, _, rfl, .inr (SqL.of h4), ?_⟩
    have fin := told_fin (hA.same s) (fun q hq' => ?_) (by rw [List.length_append]; show qs.length + 1 ≤ 20; omega) (k.same s)
    · simp only [tNil, List.append_nil]
      exact fin
    rcases List.mem_append.mp hq' with z | z
    · exact ⟨s _ _ (hq q z).1, (hq q z).2⟩
    · rw [List.mem_singleton] at z
      subst z
      exact ⟨s _ _ hx, he⟩
def spBSub (C CB : Addr) (c : Er) (un : Addr) : Sp := fun vs H Q E => ∃ (bk al : Addr) (l v t : List Nat) (qs : List (Addr × Row)), vs = [.ref bk, .str (S t)] ∧ IsBook CB bk al H qs ∧ IsAl C H al l v ∧ Tx t ∧ (qs.map fun q => q.2.n).Nodup ∧ qs.length ≤ 8 ∧
  (t ∈ (qs.map fun q => q.2.n) → Told C CB c al (45 :: srtL l) (qs.filter fun q => !decide (q.2.n = t)) H Q E) ∧
  (t ∉ (qs.map fun q => q.2.n) → ∀ dd H', H dd = none → H' dd = some (.xd [("name", .str (S t))]) → Same H H' → E (.ref un) (some dd) H')
theorem ok_bSub (Fn : Fun K "__sub__" "Book.__sub__" sBSub f fd) (T : Fns K mg a d) (BV : BkV K mg CB mcB tmB) (M : Mk K CB fI) (F : FnR P w K mg base (L2.CX P w) 4 fI (spBIr C CB c)) (mE : Meth K CB "entries" fE) (GE : FnOk P w K mg base CX0 1 fE fdE ["self"] (spEntries CB)) (bE : Binds K fdE ["self"] [])
    (U : EF K mg "UnknownName" un unF unD ["self", "name"]) (GUN : FnOk P w K mg base CX0 1 unF unD ["self", "name"] (spEUnknownName un)) :
    FnOk P w K mg base (L2.CX P w) 6 f fd ["self", "name"] (spBSub C CB c un) := by
  refine Fn.okX scBSub (fun vs H Q E h => ?_) (fun cdv A0 outer s H vs Q E hr h => ?_)
  · obtain ⟨bk, al, l, v, t, qs, rfl, _⟩ := h
    rfl
  · obtain ⟨bk, al, l, v, t, qs, rfl, hB, hA, ht, hnd, hl, ky, kn⟩ := h
    have hB0 := hB
    have hu := hr.units
    obtain ⟨dx, D, hb, hD, hq⟩ := hB
    refine ⟨_, pss_cons (ps_if (pt_cmp (pc_dnotin (Nat.lt_of_le_of_lt (Nat.add_le_add_left (by decide : 1 ≤ 64) _) hu) (pv 1) (pe_fld (pv 0) rfl)) rfl) (pss_one (ps_raise rfl (takes_of rfl rfl rfl rfl) (pmk_oex U.ox U.iC U.tI GUN (hr.mono (by decide)) U.bB .nil pass0 (by rfl) U.gB (pa_cons (pv 1) pa_nil)))) pss_nil)
      (pss_cons (ps_setLc (i := 2) (own := [("entry", 3)]) (g := gName 3) (by rfl) scBSub.nd rfl rfl (by rfl) (pi_list (pe_meth0 (pv 0) BV.cl mE GE (hr.mono (by decide)) bE .nil pass0)) (blkOk_by (own := [("entry", 3)]) (N := ["self", "name", "entries", "entry"]) (sc := defScope sBSub) (by decide +kernel)) (fun _ _ _ _ _ => pg_name (i := 3) scBSub.nd rfl (Or.inl rfl)) (fun _ _ _ _ _ => pts_one (pt_cmpR op_ne (pe_ix (r := rIxT K) ix_tup (pv 3) pe_int (fun _ _ => rfl)) (pv 1) (nomark _))) (fun _ _ _ _ _ => pv 3))
      (pss_one (ps_ret (pe_makeRS M F hr (by rfl) BV.gB (passes_call (E := E) (takes_of rfl rfl rfl rfl) (fun _ _ _ _ h => h)) (pa_cons (pe_fld (pv 0) rfl) (StX.pa_star (pv 2) pa_nil)) rfl)))), ?_⟩
    refine ⟨_, rfl, _, rfl, bk, CB, dx, _, _, rfl, hb, BV.cl, BV.nE, rfl, D, _, rfl, DGet.k (k := .inr (S t)) hD, ?_⟩
    rw [valV_has]
    refine ⟨_, rfl, ite2 (fun h => ?_) (fun h => ?_)⟩
    · have hn : t ∉ (qs.map fun q => q.2.n) := fun z => by
        rw [decide_eq_true z] at h
        cases h
      exact ⟨_, rfl, by show 1 ≤ 1000; decide, fun b hb => ⟨b, t, rfl, ht, upd_same, raise1 hb (Same.refl H) fun dd H' z1 z2 z3 => kn hn dd H' z1 z2 z3⟩⟩
    · have hm : t ∈ (qs.map fun q => q.2.n) := by
        by_cases z : t ∈ (qs.map fun q => q.2.n)
        · exact z
        · rw [decide_eq_false z] at h
          exact absurd rfl h
      have k := ky hm
      refine ⟨_, rfl, bk, dx, _, rfl, hb, rfl, bk, al, qs, rfl, hB0, hnd, by omega, fun p H1 hp hp1 s1 => ?_⟩
      refine ⟨p, rfl, ⟨_, SqL.of hp1⟩, fun D2 hD2 => lc_lst (fun q : Addr × Row => V.ref q.1) (fun q => !decide (q.2.n = t)) (fun q => V.ref q.1) (by omega) hp1 hD2 (fun _ => rfl) (fun q hq' H3 Q3 off k3 => ⟨_, rfl, q.1, _, 0, _, rfl, rfl, SqT.of ((off q.1 (ne_of_none (s1 _ _ (hq q hq').1) hD2)).trans (s1 _ _ (hq q hq').1)), rfl, _, rfl, ?_⟩) (fun q hq _ H3 Q3 off k3 => ⟨_, rfl, k3⟩) ?_⟩
      · have e : (decide (V.str (S q.2.n) = V.str (S t))) = decide (q.2.n = t) := by
          rw [Bool.eq_iff_iff, decide_eq_true_iff, decide_eq_true_iff]
          exact ⟨fun z => S_inj.mp (V.str.inj z), fun z => by rw [z]⟩
        refine ⟨rfl, _, rfl, ?_⟩
        rw [e]
        exact k3
      have s2 : Same H1 (upd H1 D2 (.lst ((qs.filter fun q => !decide (q.2.n = t)).map fun q => V.ref q.1))) := upd_laid hD2
      have h2 : (upd H1 D2 (.lst ((qs.filter fun q => !decide (q.2.n = t)).map fun q => V.ref q.1))) D2 = some (.lst ((qs.filter fun q => !decide (q.2.n = t)).map fun q => V.ref q.1)) := upd_same
      have s := Same.trans s1 s2
      generalize upd H1 D2 (.lst ((qs.filter fun q => !decide (q.2.n = t)).map fun q => V.ref q.1)) = H4 at s2 h2 s
      have hfl : (qs.filter fun q => !decide (q.2.n = t)).length ≤ qs.length := List.length_filter_le _ _
      have fin := told_fin (hA.same s) (fun q hq' => ⟨s _ _ (hq q (List.mem_filter.mp hq').1).1, (hq q (List.mem_filter.mp hq').1).2⟩) (by omega) (k.same s)
      refine ⟨_, rfl, bk, CB, dx, _, _, rfl, s _ _ hb, BV.cl, BV.nA, rfl, _, rfl, D2, _, rfl, .inr (SqL.of h2), ?_⟩
      simp only [tNil, List.append_nil]
      exact fin
end
end Vk
set_option Elab.async false
set_option linter.all false
set_option maxRecDepth 100000
set_option maxHeartbeats 4000000
namespace Vk
open PySem PySem.Spec PyProof.Rows L2
/-! good rows: each by itself, and every two -/
def RowG (sg : List Nat) (r : Row) : Prop := WordOk azL 8 r.n ∧ WordOk sg 6 r.l ∧ WordOk sg 6 r.s ∧ r.p ∈ kindsL
theorem Apart.symm {r e : Row} (h : Apart r e) : Apart e r := by
  refine ⟨h.1.symm, ?_⟩
  have h2 := h.2
  unfold confB at h2 ⊢
  rw [ov_comm, show decide (e.l = r.l) = decide (r.l = e.l) from by rw [Bool.eq_iff_iff, decide_eq_true_iff, decide_eq_true_iff]; exact eq_comm, show decide (e.s = r.s) = decide (r.s = e.s) from by rw [Bool.eq_iff_iff, decide_eq_true_iff, decide_eq_true_iff]; exact eq_comm]
  exact h2
theorem fault_iff {sg : List Nat} {e : Row} {rs : List Row} : faultL sg e rs = [] ↔ RowG sg e ∧ ∀ r ∈ rs, Apart r e := by
  unfold faultL RowG
  constructor
  · intro h
    split at h
    · cases h
    rename_i h1
    split at h
    · cases h
    rename_i h2
    split at h
    · cases h
    rename_i h3
    split at h
    · cases h
    rename_i h4
    split at h
    · cases h
    rename_i h5
    refine ⟨⟨isW_iff.mp (by simpa using h1), isW_iff.mp (by simpa using h2), isW_iff.mp (by simpa using h3), by simpa using h4⟩, fun r hr => ⟨fun z => h5 (List.mem_map.mpr ⟨r, hr, z⟩), ?_⟩⟩
    cases hf : rs.find? (fun r => confB r e) with
    | some y => rw [hf] at h; cases h
    | none =>
      have := List.find?_eq_none.mp hf r hr
      simpa using this
  · rintro ⟨⟨h1, h2, h3, h4⟩, h⟩
    rw [if_neg (by rw [isW_iff.mpr h1]; simp), if_neg (by rw [isW_iff.mpr h2]; simp), if_neg (by rw [isW_iff.mpr h3]; simp), if_neg (by simpa using h4), if_neg]
    · have : rs.find? (fun r => confB r e) = none := List.find?_eq_none.mpr fun r hr => by rw [(h r hr).2]; simp
      rw [this]
    · intro z
      obtain ⟨r, hr, hz⟩ := List.mem_map.mp z
      exact (h r hr).1 hz
theorem firstF_app {sg : List Nat} {e : Row} : ∀ (rs es : List Row), firstF sg es rs = [] → firstF sg es (rs ++ [e]) = faultL sg e (es ++ rs)
  | [], es, _ => by
    rw [List.nil_append, firstF_cons, List.append_nil]
    by_cases h : faultL sg e es = []
    · rw [if_pos h, firstF_nil, h]
    · rw [if_neg h]
  | r :: rs, es, h => by
    rw [firstF_cons] at h
    by_cases hf : faultL sg r es = []
    · rw [if_pos hf] at h
      rw [List.cons_append, firstF_cons, if_pos hf, firstF_app rs (es ++ [r]) h, List.append_assoc]
      rfl
    · rw [if_neg hf] at h
      exact absurd h hf
def GoodRs (sg : List Nat) (rs : List Row) : Prop := (∀ r ∈ rs, RowG sg r) ∧ rs.Pairwise Apart
theorem good_first {sg : List Nat} : ∀ (rs es : List Row), GoodRs sg rs → (∀ r ∈ rs, ∀ x ∈ es, Apart x r) → firstF sg es rs = []
  | [], es, _, _ => firstF_nil sg es
  | r :: rs, es, ⟨h1, h2⟩, h => by
    obtain ⟨h3, h4⟩ := List.pairwise_cons.mp h2
    rw [firstF_cons, if_pos (fault_iff.mpr ⟨h1 r List.mem_cons_self, h r List.mem_cons_self⟩)]
    refine good_first rs (es ++ [r]) ⟨fun x hx => h1 x (List.mem_cons_of_mem _ hx), h4⟩ fun x hx y hy => ?_
    rcases List.mem_append.mp hy with z | z
    · exact h x (List.mem_cons_of_mem _ hx) y z
    · rw [List.mem_singleton] at z
      subst z
      exact h3 x hx
theorem GoodRs.first {sg : List Nat} {rs : List Row} (h : GoodRs sg rs) : firstF sg [] rs = [] := good_first rs [] h fun _ _ _ z => nomatch z
theorem GoodRs.app {sg : List Nat} {rs : List Row} {e : Row} (h : GoodRs sg rs) : firstF sg [] (rs ++ [e]) = faultL sg e rs := by
  have := firstF_app (sg := sg) (e := e) rs [] h.first
  rwa [List.nil_append] at this
theorem GoodRs.perm {sg : List Nat} {rs qs : List Row} (h : GoodRs sg rs) (p : qs.Perm rs) : GoodRs sg qs := ⟨fun r hr => h.1 r (p.mem_iff.mp hr), (p.pairwise_iff (fun z => Apart.symm z)).mpr h.2⟩
theorem GoodRs.filter {sg : List Nat} {rs : List Row} (h : GoodRs sg rs) (f : Row → Bool) : GoodRs sg (rs.filter f) := ⟨fun r hr => h.1 r (List.mem_filter.mp hr).1, h.2.filter f⟩
theorem GoodRs.add {sg : List Nat} {rs : List Row} {e : Row} (h : GoodRs sg rs) (f : faultL sg e rs = []) : GoodRs sg (rs ++ [e]) := by
  obtain ⟨h1, h2⟩ := fault_iff.mp f
  refine ⟨fun r hr => ?_, List.pairwise_append.mpr ⟨h.2, List.pairwise_singleton _ _, fun r hr x hx => ?_⟩⟩
  · rcases List.mem_append.mp hr with z | z
    · exact h.1 r z
    · rw [List.mem_singleton] at z
      subst z
      exact h1
  · rw [List.mem_singleton] at hx
    subst hx
    exact h2 r hr
theorem GoodRs.nodup {sg : List Nat} {rs : List Row} (h : GoodRs sg rs) : (rs.map (·.n)).Nodup := by
  refine List.pairwise_map.mpr (h.2.imp fun z => z.1)
end Vk
set_option Elab.async false
set_option linter.all false
set_option maxRecDepth 100000
set_option maxHeartbeats 8000000
namespace Vk
open PySem PySem.Spec PyProof.Rows L2
/-- the errors caught: their fields, and which clause takes which -/
structure XfF (K : PySem.W.Frag) (mg : Str → Option Value) (c : Er) : Prop where
  xTM : XfC K c.tm
  nTM_most : PySem.W.findIn K (.ref c.tm) "most" = some none
  eTM_TM : PySem.W.exmOne K (.ref c.tm) (.ref c.tm) = some true
  xBN : XfC K c.bn
  nBN_name : PySem.W.findIn K (.ref c.bn) "name" = some none
  eBN_TM : PySem.W.exmOne K (.ref c.bn) (.ref c.tm) = some false
  eBN_BN : PySem.W.exmOne K (.ref c.bn) (.ref c.bn) = some true
  xBF : XfC K c.bf
  nBF_form : PySem.W.findIn K (.ref c.bf) "form" = some none
  eBF_TM : PySem.W.exmOne K (.ref c.bf) (.ref c.tm) = some false
  eBF_BN : PySem.W.exmOne K (.ref c.bf) (.ref c.bn) = some false
  eBF_BF : PySem.W.exmOne K (.ref c.bf) (.ref c.bf) = some true
  xUP : XfC K c.up
  nUP_place : PySem.W.findIn K (.ref c.up) "place" = some none
  eUP_TM : PySem.W.exmOne K (.ref c.up) (.ref c.tm) = some false
  eUP_BN : PySem.W.exmOne K (.ref c.up) (.ref c.bn) = some false
  eUP_BF : PySem.W.exmOne K (.ref c.up) (.ref c.bf) = some false
  eUP_UP : PySem.W.exmOne K (.ref c.up) (.ref c.up) = some true
  xDN : XfC K c.dn
  nDN_name : PySem.W.findIn K (.ref c.dn) "name" = some none
  eDN_TM : PySem.W.exmOne K (.ref c.dn) (.ref c.tm) = some false
  eDN_BN : PySem.W.exmOne K (.ref c.dn) (.ref c.bn) = some false
  eDN_BF : PySem.W.exmOne K (.ref c.dn) (.ref c.bf) = some false
  eDN_UP : PySem.W.exmOne K (.ref c.dn) (.ref c.up) = some false
  eDN_DN : PySem.W.exmOne K (.ref c.dn) (.ref c.dn) = some true
  xCF : XfC K c.cf
  nCF_name : PySem.W.findIn K (.ref c.cf) "name" = some none
  nCF_other : PySem.W.findIn K (.ref c.cf) "other" = some none
  eCF_TM : PySem.W.exmOne K (.ref c.cf) (.ref c.tm) = some false
  eCF_BN : PySem.W.exmOne K (.ref c.cf) (.ref c.bn) = some false
  eCF_BF : PySem.W.exmOne K (.ref c.cf) (.ref c.bf) = some false
  eCF_UP : PySem.W.exmOne K (.ref c.cf) (.ref c.up) = some false
  eCF_DN : PySem.W.exmOne K (.ref c.cf) (.ref c.dn) = some false
  eCF_CF : PySem.W.exmOne K (.ref c.cf) (.ref c.cf) = some true
structure XfU (K : PySem.W.Frag) (un : Addr) : Prop where
  xUN : XfC K un
  nUN_name : PySem.W.findIn K (.ref un) "name" = some none
  eUN_UN : PySem.W.exmOne K (.ref un) (.ref un) = some true
/-- what the law says is due for an entry -/
def dueA (sg : List Nat) (e : Row) (rs : List Row) : List V := if 8 ≤ rs.length then [.str "TooMany", .int 8] else (faultL sg e rs).map fun t => V.str (S t)
theorem scPlus : FnScope ["_law_book_here", "_law_entry_here", "e"] ["_law_book_here", "_law_entry_here"] (defScope sPlus) := ⟨rfl, rfl, rfl, by decide +kernel, rfl, by decide +kernel, by decide +kernel⟩
theorem scMinus : FnScope ["_law_book_here", "_law_name", "e"] ["_law_book_here", "_law_name"] (defScope sMinus) := ⟨rfl, rfl, rfl, by decide +kernel, rfl, by decide +kernel, by decide +kernel⟩
theorem scItem : FnScope ["_law_book_here", "_law_name", "e"] ["_law_book_here", "_law_name"] (defScope sItem) := ⟨rfl, rfl, rfl, by decide +kernel, rfl, by decide +kernel, by decide +kernel⟩
theorem IsBook.same {CB bk al : Addr} {H H' : Hp} {qs : List (Addr × Row)} (h : IsBook CB bk al H qs) (s : Same H H') : IsBook CB bk al H' qs := by
  obtain ⟨dx, D, b1, b2, b3⟩ := h
  exact ⟨dx, D, s _ _ b1, s _ _ b2, fun q hq => ⟨s _ _ (b3 q hq).1, (b3 q hq).2⟩⟩
section
variable {P : Program} {w : World} {K : PySem.W.Frag} {mg : Str → Option Value} {base : Heap} {a : Ad} {d : Fd} {c : Er} {C CB gA gS gI un : Addr} {fdA fdS fdI : FuncData}
def spPlus (C CB : Addr) : Sp := fun vs H Q _ => ∃ (bk al x : Addr) (l v : List Nat) (qs : List (Addr × Row)) (e : Row), vs = [.ref bk, .ref x] ∧ IsBook CB bk al H qs ∧ IsAl C H al l v ∧ H x = some (.tup e.vs) ∧ e.ok ∧ GoodRs (45 :: srtL l) (qs.map (·.2)) ∧ qs.length ≤ 8 ∧
  (qs.length < 8 → faultL (45 :: srtL l) e (qs.map (·.2)) = [] → ∀ b2 rs p H', H b2 = none → H p = none → rs.Perm (qs ++ [(x, e)]) → sortedR rs → IsBook CB b2 al H' rs → H' p = some (.lst [.str "book", .ref b2]) → Same H H' → Q (.ref p) H') ∧
  (8 ≤ qs.length ∨ faultL (45 :: srtL l) e (qs.map (·.2)) ≠ [] → ∀ p H', H p = none → H' p = some (.lst (dueA (45 :: srtL l) e (qs.map (·.2)))) → Same H H' → Q (.ref p) H')
theorem ok_plus (T : Fns K mg a d) (Wk : Bk K mg w c) (Xf : XfF K mg c) (B1 : BinF K CB gA .Add "str") (B2 : BinF K CB gA .Add "tuple") (GAdd : FnOk P w K mg base (L2.CX P w) 6 gA fdA ["self", "entry"] (spBAdd C CB c)) (bAdd : Binds K fdA ["self", "entry"] []) :
    FnOk P w K mg base CX0 7 a.aPlus d.dPlus ["_law_book_here", "_law_entry_here"] (spPlus C CB) := by
  refine T.FPlus.ok scPlus (fun vs H Q E h => ?_) (fun cdv A0 outer s H vs Q E hr h => ?_)
  · obtain ⟨bk, al, x, l, v, qs, e, rfl, _⟩ := h
    rfl
  · obtain ⟨bk, al, x, l, v, qs, e, rfl, hB, hA, hx, he, hG, hl, kq, kb⟩ := h
    refine ⟨_, pss_one (ps_try_asN (tb := fun W => tRet (tLst (tCons (tC (.str "book")) (tCons (tBinI K CB (spBAdd C CB c) (WE W) (tVar 0) (tVar 1)) tNil)))) (Wout := fun _ _ _ _ => False) rfl rfl scPlus.nd takes0
      (fun W pn xe tk _ => pss_one (ps_ret (pe_lst (pa_cons pe_str (pa_cons (pe_binI B1 B2 GAdd (hr.mono (by decide)) bAdd (fun σ => passAt tk σ) (pv 0) (pv 1)) pa_nil)))))
      (AsOk.cons (q := ⟨.ref c.tm, 2, _⟩) rfl rfl ⟨rfl, by decide, Or.inl Wk.TM.gB⟩ (fun a oe cls d pn hz hf => pss_one (ps_ret (pe_lst (pa_cons pe_str (pa_cons (pe_xf Xf.xTM Xf.nTM_most hz hf (pv 2)) pa_nil))))) (AsOk.cons (q := ⟨.ref c.bn, 2, _⟩) rfl rfl ⟨rfl, by decide, Or.inl Wk.BN.gB⟩ (fun a oe cls d pn hz hf => pss_one (ps_ret (pe_lst (pa_cons pe_str (pa_cons (pe_xf Xf.xBN Xf.nBN_name hz hf (pv 2)) pa_nil))))) (AsOk.cons (q := ⟨.ref c.bf, 2, _⟩) rfl rfl ⟨rfl, by decide, Or.inl Wk.BF.gB⟩ (fun a oe cls d pn hz hf => pss_one (ps_ret (pe_lst (pa_cons pe_str (pa_cons (pe_xf Xf.xBF Xf.nBF_form hz hf (pv 2)) pa_nil))))) (AsOk.cons (q := ⟨.ref c.up, 2, _⟩) rfl rfl ⟨rfl, by decide, Or.inl Wk.UP.gB⟩ (fun a oe cls d pn hz hf => pss_one (ps_ret (pe_lst (pa_cons pe_str (pa_cons (pe_xf Xf.xUP Xf.nUP_place hz hf (pv 2)) pa_nil))))) (AsOk.cons (q := ⟨.ref c.dn, 2, _⟩) rfl rfl ⟨rfl, by decide, Or.inl Wk.DN.gB⟩ (fun a oe cls d pn hz hf => pss_one (ps_ret (pe_lst (pa_cons pe_str (pa_cons (pe_xf Xf.xDN Xf.nDN_name hz hf (pv 2)) pa_nil))))) (AsOk.cons (q := ⟨.ref c.cf, 2, _⟩) rfl rfl ⟨rfl, by decide, Or.inl Wk.CF.gB⟩ (fun a oe cls d pn hz hf => pss_one (ps_ret (pe_lst (pa_cons pe_str (pa_cons (pe_xf Xf.xCF Xf.nCF_name hz hf (pv 2)) (pa_cons (pe_xf Xf.xCF Xf.nCF_other hz hf (pv 2)) pa_nil)))))) AsOk.nil))))))), ?_⟩
    generalize hsg : (45 :: srtL l) = sg at kq kb hG
    have hl2 : (qs.map (·.2)).length = qs.length := List.length_map _
    have ef : firstF sg [] ((qs ++ [(x, e)]).map (·.2)) = faultL sg e (qs.map (·.2)) := by
      rw [List.map_append]
      exact hG.app
    have el : (qs ++ [(x, e)]).length = qs.length + 1 := by rw [List.length_append]; rfl
    have many : 8 ≤ qs.length → dueA sg e (qs.map (·.2)) = [.str "TooMany", .int 8] := fun h8 => by
      unfold dueA
      rw [if_pos (by rw [hl2]; exact h8)]
    have some_ : qs.length < 8 → dueA sg e (qs.map (·.2)) = (faultL sg e (qs.map (·.2))).map fun t => V.str (S t) := fun h8 => by
      unfold dueA
      rw [if_neg (by rw [hl2]; omega)]
    obtain ⟨dx, D, bb1, bb2, bb3⟩ := id hB
    have hnd : (qs.map fun q => q.2.n).Nodup := by
      have := hG.nodup
      rwa [List.map_map] at this
    refine ⟨_, rfl, _, rfl, bk, dx, _, rfl, bb1, .inr ⟨x, _, rfl, SqT.of hx⟩, bk, al, x, l, v, qs, e, rfl, hB, hA, hx, he, hnd, hl, fun h8 hf b2 rs H' hb2 hperm hsort hnd2 hB2 s1 => ?_, fun h8 dd H' z1 z2 z3 => ?_, fun h8 B dd fs H' hr5 z1 z2 z3 => ?_⟩
    · rw [hsg, ef] at hf
      refine ⟨(by show 2 ≤ sizeLine; decide), fun p hp => ?_⟩
      have s2 : Same H' (upd H' p (.lst [.str "book", .ref b2])) := upd_laid hp
      exact kq (by omega) hf b2 rs p _ hb2 (Same.none s1 hp) hperm hsort (hB2.same s2) upd_same (Same.trans s1 s2)
    · refine ⟨true, Xf.eTM_TM, fun _ a ha => ?_, fun q => Bool.noConfusion q⟩
      refine ⟨_, rfl, rfl, rfl, dd, _, _, rfl, z2, rfl, (by show 2 ≤ sizeLine; decide), fun p hp => kb (.inl (by omega)) p _ (Same.none z3 hp) ?_ (Same.trans z3 (upd_laid hp))⟩
      rw [many (by omega)]
      exact upd_same
    · rw [hsg, ef] at hr5
      have hne := raised_ne hr5
      have hd := some_ (by omega)
      rcases hr5 with ⟨t, hf, rfl, rfl⟩ | ⟨t, hf, rfl, rfl⟩ | ⟨t, hf, rfl, rfl⟩ | ⟨t, hf, rfl, rfl⟩ | ⟨t, u2, hf, rfl, rfl⟩
      · exact ⟨false, Xf.eBN_TM, fun z => Bool.noConfusion z, fun _ => ⟨true, Xf.eBN_BN, fun _ a ha => ⟨_, rfl, rfl, rfl, dd, _, _, rfl, z2, rfl, (by show 2 ≤ sizeLine; decide), fun p hp => kb (.inr hne) p _ (Same.none z3 hp) (by rw [hd, hf]; simp only [List.map_cons, List.map_nil, Lt_S]; exact upd_same) (Same.trans z3 (upd_laid hp))⟩, fun q => Bool.noConfusion q⟩⟩
      · exact ⟨false, Xf.eBF_TM, fun z => Bool.noConfusion z, fun _ => ⟨false, Xf.eBF_BN, fun z => Bool.noConfusion z, fun _ => ⟨true, Xf.eBF_BF, fun _ a ha => ⟨_, rfl, rfl, rfl, dd, _, _, rfl, z2, rfl, (by show 2 ≤ sizeLine; decide), fun p hp => kb (.inr hne) p _ (Same.none z3 hp) (by rw [hd, hf]; simp only [List.map_cons, List.map_nil, Lt_S]; exact upd_same) (Same.trans z3 (upd_laid hp))⟩, fun q => Bool.noConfusion q⟩⟩⟩
      · exact ⟨false, Xf.eUP_TM, fun z => Bool.noConfusion z, fun _ => ⟨false, Xf.eUP_BN, fun z => Bool.noConfusion z, fun _ => ⟨false, Xf.eUP_BF, fun z => Bool.noConfusion z, fun _ => ⟨true, Xf.eUP_UP, fun _ a ha => ⟨_, rfl, rfl, rfl, dd, _, _, rfl, z2, rfl, (by show 2 ≤ sizeLine; decide), fun p hp => kb (.inr hne) p _ (Same.none z3 hp) (by rw [hd, hf]; simp only [List.map_cons, List.map_nil, Lt_S]; exact upd_same) (Same.trans z3 (upd_laid hp))⟩, fun q => Bool.noConfusion q⟩⟩⟩⟩
      · exact ⟨false, Xf.eDN_TM, fun z => Bool.noConfusion z, fun _ => ⟨false, Xf.eDN_BN, fun z => Bool.noConfusion z, fun _ => ⟨false, Xf.eDN_BF, fun z => Bool.noConfusion z, fun _ => ⟨false, Xf.eDN_UP, fun z => Bool.noConfusion z, fun _ => ⟨true, Xf.eDN_DN, fun _ a ha => ⟨_, rfl, rfl, rfl, dd, _, _, rfl, z2, rfl, (by show 2 ≤ sizeLine; decide), fun p hp => kb (.inr hne) p _ (Same.none z3 hp) (by rw [hd, hf]; simp only [List.map_cons, List.map_nil, Lt_S]; exact upd_same) (Same.trans z3 (upd_laid hp))⟩, fun q => Bool.noConfusion q⟩⟩⟩⟩⟩
      · exact ⟨false, Xf.eCF_TM, fun z => Bool.noConfusion z, fun _ => ⟨false, Xf.eCF_BN, fun z => Bool.noConfusion z, fun _ => ⟨false, Xf.eCF_BF, fun z => Bool.noConfusion z, fun _ => ⟨false, Xf.eCF_UP, fun z => Bool.noConfusion z, fun _ => ⟨false, Xf.eCF_DN, fun z => Bool.noConfusion z, fun _ => ⟨true, Xf.eCF_CF, fun _ a ha => ⟨_, rfl, rfl, rfl, dd, _, _, rfl, z2, rfl, _, rfl, rfl, rfl, dd, _, _, rfl, z2, rfl, (by show 3 ≤ sizeLine; decide), fun p hp => kb (.inr hne) p _ (Same.none z3 hp) (by rw [hd, hf]; simp only [List.map_cons, List.map_nil, Lt_S]; exact upd_same) (Same.trans z3 (upd_laid hp))⟩, fun q => Bool.noConfusion q⟩⟩⟩⟩⟩⟩
end
end Vk
set_option Elab.async false
set_option linter.all false
set_option maxRecDepth 100000
set_option maxHeartbeats 8000000
namespace Vk
open PySem PySem.Spec PyProof.Rows L2
theorem names_map (qs : List (Addr × Row)) : ((qs.map (·.2)).map (·.n)) = qs.map fun q => q.2.n := by rw [List.map_map]; rfl
section
variable {P : Program} {w : World} {K : PySem.W.Frag} {mg : Str → Option Value} {base : Heap} {a : Ad} {d : Fd} {c : Er} {C CB gA gS gI un unF : Addr} {fdA fdS fdI unD : FuncData}
def spMinus (C CB : Addr) : Sp := fun vs H Q _ => ∃ (bk al : Addr) (l v t : List Nat) (qs : List (Addr × Row)), vs = [.ref bk, .str (S t)] ∧ IsBook CB bk al H qs ∧ IsAl C H al l v ∧ Tx t ∧ GoodRs (45 :: srtL l) (qs.map (·.2)) ∧ qs.length ≤ 8 ∧
  (t ∈ (qs.map fun q => q.2.n) → ∀ b2 rs p H', H b2 = none → H p = none → rs.Perm (qs.filter fun q => !decide (q.2.n = t)) → sortedR rs → IsBook CB b2 al H' rs → H' p = some (.lst [.str "book", .ref b2]) → Same H H' → Q (.ref p) H') ∧
  (t ∉ (qs.map fun q => q.2.n) → ∀ p H', H p = none → H' p = some (.lst [.str "UnknownName", .str (S t)]) → Same H H' → Q (.ref p) H')
theorem ok_minus (T : Fns K mg a d) (U : EF K mg "UnknownName" un unF unD ["self", "name"]) (Xf : XfU K un) (B1 : BinF K CB gS .Sub "str") (B2 : BinF K CB gS .Sub "tuple") (GSub : FnOk P w K mg base (L2.CX P w) 6 gS fdS ["self", "name"] (spBSub C CB c un)) (bSub : Binds K fdS ["self", "name"] []) :
    FnOk P w K mg base CX0 7 a.aMinus d.dMinus ["_law_book_here", "_law_name"] (spMinus C CB) := by
  refine T.FMinus.ok scMinus (fun vs H Q E h => ?_) (fun cdv A0 outer s H vs Q E hr h => ?_)
  · obtain ⟨bk, al, l, v, t, qs, rfl, _⟩ := h
    rfl
  · obtain ⟨bk, al, l, v, t, qs, rfl, hB, hA, ht, hG, hl, kq, kb⟩ := h
    refine ⟨_, pss_one (ps_try_asN (tb := fun W => tRet (tLst (tCons (tC (.str "book")) (tCons (tBinI K CB (spBSub C CB c un) (WE W) (tVar 0) (tVar 1)) tNil)))) (Wout := fun _ _ _ _ => False) rfl rfl scMinus.nd takes0
      (fun W pn xe tk _ => pss_one (ps_ret (pe_lst (pa_cons pe_str (pa_cons (pe_binI B1 B2 GSub (hr.mono (by decide)) bSub (fun σ => passAt tk σ) (pv 0) (pv 1)) pa_nil)))))
      (AsOk.cons (q := ⟨.ref un, 2, _⟩) rfl rfl ⟨rfl, by decide, Or.inl U.gB⟩ (fun a oe cls d pn hz hf => pss_one (ps_ret (pe_lst (pa_cons pe_str (pa_cons (pe_xf Xf.xUN Xf.nUN_name hz hf (pv 2)) pa_nil))))) AsOk.nil)), ?_⟩
    obtain ⟨dx, D, bb1, bb2, bb3⟩ := id hB
    have hnd : (qs.map fun q => q.2.n).Nodup := names_map qs ▸ hG.nodup
    have hfl : (qs.filter fun q => !decide (q.2.n = t)).length ≤ qs.length := List.length_filter_le _ _
    have hgf : firstF (45 :: srtL l) [] ((qs.filter fun q => !decide (q.2.n = t)).map (·.2)) = [] := by
      refine GoodRs.first ⟨fun r hr => ?_, ?_⟩
      · obtain ⟨q, hq, rfl⟩ := List.mem_map.mp hr
        exact hG.1 _ (List.mem_map.mpr ⟨q, (List.mem_filter.mp hq).1, rfl⟩)
      · exact List.Pairwise.sublist (List.Sublist.map _ List.filter_sublist) hG.2
    refine ⟨_, rfl, _, rfl, bk, dx, _, rfl, bb1, .inl ⟨_, rfl⟩, bk, al, l, v, t, qs, rfl, hB, hA, ht, hnd, hl, fun hm => ⟨fun h8 hf b2 rs H' hb2 hperm hsort hnd2 hB2 s1 => ?_, fun h8 => absurd h8 (by omega), fun h8 B dd fs H' hr5 => absurd hgf (raised_ne hr5)⟩, fun hn dd H' z1 z2 z3 => ?_⟩
    · refine ⟨(by show 2 ≤ sizeLine; decide), fun p hp => ?_⟩
      have s2 : Same H' (upd H' p (.lst [.str "book", .ref b2])) := upd_laid hp
      exact kq hm b2 rs p _ hb2 (Same.none s1 hp) hperm hsort (hB2.same s2) upd_same (Same.trans s1 s2)
    · refine ⟨true, Xf.eUN_UN, fun _ a ha => ?_, fun q => Bool.noConfusion q⟩
      exact ⟨_, rfl, rfl, rfl, dd, _, _, rfl, z2, rfl, (by show 2 ≤ sizeLine; decide), fun p hp => kb hn p _ (Same.none z3 hp) upd_same (Same.trans z3 (upd_laid hp))⟩
def spItemL (CB : Addr) : Sp := fun vs H Q _ => ∃ (bk al : Addr) (t : List Nat) (qs : List (Addr × Row)), vs = [.ref bk, .str (S t)] ∧ IsBook CB bk al H qs ∧ Tx t ∧ (qs.map fun q => q.2.n).Nodup ∧
  (∀ q ∈ qs, q.2.n = t → ∀ p H', H p = none → H' p = some (.lst [.str "entry", .ref q.1]) → Same H H' → Q (.ref p) H') ∧
  (t ∉ (qs.map fun q => q.2.n) → ∀ p H', H p = none → H' p = some (.lst [.str "UnknownName", .str (S t)]) → Same H H' → Q (.ref p) H')
theorem ok_itemL (T : Fns K mg a d) (U : EF K mg "UnknownName" un unF unD ["self", "name"]) (Xf : XfU K un) (hs : PySem.W.findIn K (.ref CB) "__getitem__" = some (some (.ref gI))) (hn : PySem.W.fnIn K gI = true) (hi : PySem.W.isFn K (.ref gI) = true) (GI : FnOk P w K mg base (L2.CX P w) 3 gI fdI ["self", "name"] (spItem0 CB un)) (bI : Binds K fdI ["self", "name"] []) :
    FnOk P w K mg base CX0 5 a.aItem d.dItem ["_law_book_here", "_law_name"] (spItemL CB) := by
  refine T.FItem.ok scItem (fun vs H Q E h => ?_) (fun cdv A0 outer s H vs Q E hr h => ?_)
  · obtain ⟨bk, al, t, qs, rfl, _⟩ := h
    rfl
  · obtain ⟨bk, al, t, qs, rfl, hB, ht, hnd, ky, kn⟩ := h
    refine ⟨_, pss_one (ps_try_asN (tb := fun W => tRet (tLst (tCons (tC (.str "entry")) (tCons (tIxI CB (fun vs H Q E => spItem0 CB un (vs ++ []) H Q E) (WE W) (tVar 0) (tVar 1)) tNil)))) (Wout := fun _ _ _ _ => False) rfl rfl scItem.nd takes0
      (fun W pn xe tk _ => pss_one (ps_ret (pe_lst (pa_cons pe_str (pa_cons (pe_ixI hs hn hi (GI.raw bI .nil) (hr.mono (by decide)) (fun σ => passAt tk σ) (pv 0) (pv 1) (fun _ _ => rfl)) pa_nil)))))
      (AsOk.cons (q := ⟨.ref un, 2, _⟩) rfl rfl ⟨rfl, by decide, Or.inl U.gB⟩ (fun a oe cls d pn hz hf => pss_one (ps_ret (pe_lst (pa_cons pe_str (pa_cons (pe_xf Xf.xUN Xf.nUN_name hz hf (pv 2)) pa_nil))))) AsOk.nil)), ?_⟩
    obtain ⟨dx, D, bb1, bb2, bb3⟩ := id hB
    refine ⟨_, rfl, _, rfl, bk, dx, _, rfl, bb1, bk, al, qs, t, rfl, hB, ht, hnd, fun q hq e => ?_, fun hn dd H' z1 z2 z3 => ?_⟩
    · exact ⟨(by show 2 ≤ sizeLine; decide), fun p hp => ky q hq e p _ hp upd_same (upd_laid hp)⟩
    · refine ⟨true, Xf.eUN_UN, fun _ a ha => ?_, fun q => Bool.noConfusion q⟩
      exact ⟨_, rfl, rfl, rfl, dd, _, _, rfl, z2, rfl, (by show 2 ≤ sizeLine; decide), fun p hp => kn hn p _ (Same.none z3 hp) upd_same (Same.trans z3 (upd_laid hp))⟩
end
end Vk
set_option Elab.async false
set_option linter.all false
set_option maxRecDepth 100000
set_option maxHeartbeats 4000000
namespace Vk
open PySem PySem.Spec PyProof.Rows L2
/-! what sorted gives is told by the rows alone -/
theorem rising_lt : ∀ (p : Str) (l : List Str), risingS p l = true → (p :: l).Pairwise fun a b => ¬ b.cps.toList < a.cps.toList
  | p, [], _ => by simp
  | p, x :: r, h => by
    have h' : (!ltCps x.cps.toList p.cps.toList && risingS x r) = true := h
    obtain ⟨h1, h2⟩ := Bool.and_eq_true_iff.mp h'
    have ih := rising_lt x r h2
    have hxp : ¬ x.cps.toList < p.cps.toList := by
      rw [ltCps_eq] at h1
      intro z
      rw [decide_eq_true z] at h1
      cases h1
    rw [List.pairwise_cons]
    refine ⟨fun y hy => ?_, ih⟩
    rcases List.mem_cons.mp hy with rfl | hy
    · exact hxp
    · intro z
      have hyx := (List.pairwise_cons.mp ih).1 y hy
      exact hxp (List.lt_of_le_of_lt (List.not_lt.mp hyx) z)
theorem sortedS_lt {ys : List Str} (h : sortedS ys = true) : ys.Pairwise fun a b => ¬ b.cps.toList < a.cps.toList := by
  cases ys with
  | nil => exact .nil
  | cons p r => exact rising_lt p r h
theorem str_ext {a b : Str} (h : a.cps.toList = b.cps.toList) : a = b := by
  cases a with
  | mk x =>
    cases b with
    | mk y =>
      have : x = y := Array.ext' h
      rw [this]
theorem sorted_uniq {ys zs : List Str} (p : ys.Perm zs) (hy : ys.Pairwise fun a b => ¬ b.cps.toList < a.cps.toList) (hz : zs.Pairwise fun a b => ¬ b.cps.toList < a.cps.toList) : ys = zs :=
  List.Perm.eq_of_pairwise (le := fun a b : Str => ¬ b.cps.toList < a.cps.toList) (fun a b _ _ h1 h2 => str_ext (List.le_antisymm (List.not_lt.mp h1) (List.not_lt.mp h2))) hy hz p
theorem sortedR_names {qs : List (Addr × Row)} (h : sortedR qs) : (qs.map fun q => S q.2.n).Pairwise fun a b => ¬ b.cps.toList < a.cps.toList := by
  rw [List.pairwise_map]
  refine h.imp fun {x y} hxy => ?_
  have h1 := (PyProof.Rows.lex_false.mp hxy).1
  have h2 : decide (y.2.n < x.2.n) = false := h1
  rw [S_cps, S_cps]
  exact of_decide_eq_false h2
/-- the names, sorted, are the names of the sorted rows -/
theorem names_eq {qs : List (Addr × Row)} {ps : List (Addr × Row)} {ys : List Str} (hq : sortedR qs) (pq : qs.Perm ps) (py : ys.Perm (ps.map fun q => S q.2.n)) (hs : sortedS ys = true) : ys = qs.map fun q => S q.2.n :=
  sorted_uniq (py.trans (pq.map fun q : Addr × Row => S q.2.n).symm) (sortedS_lt hs) (sortedR_names hq)
/-- two sortings of rows with different names are the same list -/
theorem rows_eq {qs rs ps : List (Addr × Row)} (hq : sortedR qs) (hr : sortedR rs) (pq : qs.Perm ps) (pr : rs.Perm ps) (hnd : (ps.map fun q => q.2.n).Nodup) : qs = rs := by
  have p : qs.Perm rs := pq.trans pr.symm
  have hndq : (qs.map fun q => q.2.n).Nodup := (pq.map fun q : Addr × Row => q.2.n).nodup_iff.mpr hnd
  have inj : ∀ x ∈ qs, ∀ y ∈ qs, x.2.n = y.2.n → x = y := by
    clear p pq hq
    induction qs with
    | nil => intro x hx; cases hx
    | cons z r ih =>
      rw [List.map_cons, List.nodup_cons] at hndq
      intro x hx y hy e
      rcases List.mem_cons.mp hx with rfl | hx2
      · rcases List.mem_cons.mp hy with rfl | hy
        · rfl
        · exact absurd (List.mem_map.mpr ⟨y, hy, e.symm⟩) hndq.1
      · rcases List.mem_cons.mp hy with rfl | hy
        · exact absurd (List.mem_map.mpr ⟨x, hx2, e⟩) hndq.1
        · exact ih hndq.2 x hx2 y hy e
  refine List.Perm.eq_of_pairwise (le := fun a b : Addr × Row => PyProof.Rows.lexLt itemOrd (rowK b.2) (rowK a.2) = false) (fun a b ha hb h1 h2 => ?_) hq hr p
  have e1 : decide (b.2.n < a.2.n) = false := (PyProof.Rows.lex_false.mp h1).1
  have e2 : decide (a.2.n < b.2.n) = false := (PyProof.Rows.lex_false.mp h2).1
  exact inj a ha b (p.mem_iff.mpr hb) (List.le_antisymm (List.not_lt.mp (of_decide_eq_false e1)) (List.not_lt.mp (of_decide_eq_false e2)))
end Vk
set_option Elab.async false
set_option linter.all false
set_option maxRecDepth 100000
set_option maxHeartbeats 8000000
namespace Vk
open PySem PySem.Spec PyProof.Rows L2
theorem scDue : FnScope ["_law_signs", "_law_rows_here", "_law_entry_here"] ["_law_signs", "_law_rows_here", "_law_entry_here"] (defScope sDue) := ⟨rfl, rfl, rfl, by decide +kernel, rfl, by decide +kernel, by decide +kernel⟩
section
variable {P : Program} {w : World} {K : PySem.W.Frag} {mg : Str → Option Value} {base : Heap} {a : Ad} {d : Fd}
def spDueA : Sp := fun vs H Q _ => ∃ (sg : List Nat) (u x : Addr) (ps : List (Addr × Row)) (e : Row), vs = [.str (S sg), .ref u, .ref x] ∧ RowsAt H u ps ∧ ps.length ≤ 20 ∧ H x = some (.tup e.vs) ∧ e.ok ∧
  ∀ (qs : List (Addr × Row)) p H', qs.Perm ps → (ps.length < 8 → sortedR qs) → H p = none → H' p = some (.lst (dueA sg e (qs.map (·.2)))) → Same H H' → Q (.ref p) H'
theorem ok_dueA (T : Fns K mg a d) : FnOk P w K mg base CX0 3 a.aDue d.dDue ["_law_signs", "_law_rows_here", "_law_entry_here"] spDueA := by
  have GFault : FnOk P w K mg base CX0 2 a.aFault d.dFault ["_law_signs", "_law_entry_here", "_law_rows_here"] spFault := ok_fault T
  refine T.FDue.ok scDue (fun vs H Q E h => ?_) (fun cdv A0 outer s H vs Q E hr h => ?_)
  · obtain ⟨sg, u, x, ps, e, rfl, _⟩ := h
    rfl
  · obtain ⟨sg, u, x, ps, e, rfl, hR, hl, hx, he, k⟩ := h
    refine ⟨_, (pss_cons (ps_if (pt_cmpR op_ge (pe_callB call_len_seq (by rfl) T.z_len (by decide +kernel) (pa_cons (pv 1) pa_nil)) pe_int (nomark _)) (pss_one (ps_ret (pe_lst (pa_cons pe_str (pa_cons pe_int pa_nil))))) pss_nil)
      (pss_one (ps_ret (pe_call GFault (hr.mono (by decide)) (by rfl) T.gFault T.FFault.kp T.bFault .nil pass0 (pa_cons (pv 0) (pa_cons (pv 2) (pa_cons (pe_callB cr_sort4 (by rfl) T.z_sorted (by decide +kernel) (pa_cons (pv 1) pa_nil)) pa_nil))))))), ?_⟩
    have hlm : (ps.map fun q => V.ref q.1).length = ps.length := List.length_map _
    refine ⟨_, rfl, u, _, rfl, .inl (SqL.of hR.1), _, _, rfl, rfl, _, rfl, ite2 (fun h => ?_) (fun h => ?_)⟩
    · have h8 : 8 ≤ ps.length := by
        have := of_decide_eq_true h
        omega
      refine ⟨(by show 2 ≤ sizeLine; decide), fun p hp => k ps p _ (List.Perm.refl _) (fun z => absurd z (by omega)) hp ?_ (upd_laid hp)⟩
      unfold dueA
      rw [if_pos (by rw [List.length_map]; exact h8)]
      exact upd_same
    · have h8 : ps.length < 8 := by
        refine Nat.lt_of_not_le fun z => h (decide_eq_true ?_)
        omega
      refine ⟨_, rfl, _, rfl, _, rfl, u, ps, rfl, SqL.of hR.1, fun q hq => (hR.2 q hq).1, fun qs p hp hs hn => ?_⟩
      have s1 : Same H (upd H p (.lst (qs.map fun q => V.ref q.1))) := upd_laid hn
      have hR1 : RowsAt (upd H p (.lst (qs.map fun q => V.ref q.1))) p qs := ⟨upd_same, fun q hq => ⟨s1 _ _ (hR.2 q (hp.mem_iff.mp hq)).1, (hR.2 q (hp.mem_iff.mp hq)).2⟩⟩
      generalize upd H p (.lst (qs.map fun q => V.ref q.1)) = H1 at s1 hR1
      refine ⟨sg, x, p, e, qs, rfl, s1 _ _ hx, he, hR1, by rw [hp.length_eq]; exact hl, fun p2 H' z1 z2 z3 => k qs p2 H' hp (fun _ => hs) (Same.none s1 z1) ?_ (Same.trans s1 z3)⟩
      unfold dueA
      rw [if_neg (by rw [List.length_map, hp.length_eq]; omega)]
      exact z2
end
end Vk
set_option Elab.async false
set_option linter.all false
set_option maxRecDepth 100000
set_option maxHeartbeats 8000000
namespace Vk
open PySem PySem.Spec PyProof.Rows L2
def rowL (r : Row) : List (List Nat) := [r.n, r.l, r.s, r.p]
theorem eqv_row (r e : Row) : PyData.eqv r.py e.py = decide (rowL r = rowL e) := by
  have h : ∀ a b : List Nat, (S a == S b) = decide (a = b) := fun a b => by
    rw [Bool.eq_iff_iff, beq_iff_eq, decide_eq_true_iff]
    exact S_inj
  unfold Row.py rowL
  simp only [PyData.eqv, PyData.eqvAll, h]
  rw [Bool.eq_iff_iff]
  simp
theorem eqv_rows : ∀ ps qs : List (Addr × Row), PyData.eqv (.list (ps.map fun q => q.2.py)) (.list (qs.map fun q => q.2.py)) = decide ((ps.map fun q => rowL q.2) = qs.map fun q => rowL q.2)
  | [], [] => by simp [PyData.eqv, PyData.eqvAll]
  | [], q :: qs => by simp [PyData.eqv, PyData.eqvAll]
  | p :: ps, [] => by simp [PyData.eqv, PyData.eqvAll]
  | p :: ps, q :: qs => by
    have ih := eqv_rows ps qs
    simp only [PyData.eqv] at ih
    simp only [List.map_cons, PyData.eqv, PyData.eqvAll, ih, eqv_row]
    rw [Bool.eq_iff_iff]
    simp
/-- what isinstance asks of Book -/
structure BkI (K : PySem.W.Frag) (CB : Addr) : Prop where
  ic : PySem.W.findIn K (.ref CB) "__class__" = some (some (.builtin "object.__class__"))
  ig : PySem.W.specialIn K (.builtin "object.__class__") "__get__" = some (some (.builtin "getset_descriptor.__get__"))
  it : PySem.W.takesIn K (.builtin "object.__class__") = some true
  im : PySem.W.mroIn K CB (.type "object") = some true
abbrev sBEq : Stmt := inClass (top 15) 8
theorem scBEq : FnScope ["self", "other"] ["self", "other"] (defScope sBEq) := ⟨rfl, rfl, rfl, by decide +kernel, rfl, by decide +kernel, by decide +kernel⟩
section
variable {P : Program} {w : World} {K : PySem.W.Frag} {mg : Str → Option Value} {base : Heap} {a : Ad} {d : Fd} {C CB f fE fQ : Addr} {fd fdE fdQ : FuncData} {mcB : Value} {tmB : Tok}
def spBEq (C CB : Addr) : Sp := fun vs H Q _ => ∃ (b1 b2 al1 al2 : Addr) (l1 v1 l2 v2 : List Nat) (ps qs : List (Addr × Row)), vs = [.ref b1, .ref b2] ∧ IsBook CB b1 al1 H ps ∧ IsBook CB b2 al2 H qs ∧ IsAl C H al1 l1 v1 ∧ IsAl C H al2 l2 v2 ∧
  (ps.map fun q => q.2.n).Nodup ∧ (qs.map fun q => q.2.n).Nodup ∧ ps.length ≤ 20 ∧ qs.length ≤ 20 ∧ ∀ H', Same H H' → Q (.bl (AlEq l1 v1 l2 v2 && decide ((ps.map fun q => rowL q.2) = qs.map fun q => rowL q.2))) H'
theorem ok_bEq (Fn : Fun K "__eq__" "Book.__eq__" sBEq f fd) (T : Fns K mg a d) (BV : BkV K mg CB mcB tmB) (I : BkI K CB) (mE : Meth K CB "entries" fE) (GE : FnOk P w K mg base CX0 1 fE fdE ["self"] (spEntries CB)) (bE : Binds K fdE ["self"] [])
    (hsQ : PySem.W.findIn K (.ref C) "__eq__" = some (some (.ref fQ))) (hfQ : PySem.W.isFn K (.ref fQ) = true) (GQ : FnOk P w K mg base CX0 1 fQ fdQ ["self", "other"] (spEq C)) (bQ : Binds K fdQ ["self", "other"] []) (nQ : PySem.W.notFirst K C (.ref C) = true) :
    FnOk P w K mg base CX0 2 f fd ["self", "other"] (spBEq C CB) := by
  refine Fn.ok scBEq (fun vs H Q E h => ?_) (fun cdv A0 outer s H vs Q E hr h => ?_)
  · obtain ⟨b1, b2, al1, al2, l1, v1, l2, v2, ps, qs, rfl, _⟩ := h
    rfl
  · obtain ⟨b1, b2, al1, al2, l1, v1, l2, v2, ps, qs, rfl, hB1, hB2, hA1, hA2, hn1, hn2, hl1, hl2, k⟩ := h
    refine ⟨_, pss_one (ps_ret (pe_and (pe_callB call_isi (by rfl) T.z_isinstance (by decide +kernel) (pa_cons (pv 1) (pa_cons (pe_glob (v := .ref CB) (by rfl) BV.gB rfl) pa_nil)))
      (pe_and (pe_cmpR (op_ownI (fun _ _ => rfl) hsQ hfQ GQ (hr.mono (by decide)) bQ pass0) (pe_fld (pv 0) rfl) (pe_fld (pv 1) rfl) (nomark _)) (pe_one (pe_cmpR (op_eqD hr.units) (pe_meth0 (pv 0) BV.cl mE GE (hr.mono (by decide)) bE .nil pass0) (pe_meth0 (pv 1) BV.cl mE GE (hr.mono (by decide)) bE .nil pass0) (nomark _)))))), ?_⟩
    obtain ⟨dx, D, p1, p2, p3⟩ := id hB1
    obtain ⟨dy, D', q1, q2, q3⟩ := id hB2
    obtain ⟨ax, a1⟩ := id hA1
    obtain ⟨ay, a2⟩ := id hA2
    refine ⟨_, rfl, _, _, _, _, true, rfl, .own CB, .base (.ins q1 BV.cl I.ic I.ig I.it I.im), ?_, true, rfl, iteT ?_⟩
    · show PySem.W.kitOne K (.ref CB) (.ref CB) = some true
      unfold PySem.W.kitOne
      rw [if_pos (beq_iff_eq.mpr rfl)]
    refine ⟨_, rfl, b1, CB, dx, _, _, rfl, p1, BV.cl, BV.nA, rfl, _, rfl, b2, CB, dy, _, _, rfl, q1, BV.cl, BV.nA, rfl, al1, ax, _, al2, C, ay, _, rfl, rfl, a1, a2, nQ, al1, al2, l1, v1, l2, v2, rfl, hA1, hA2, ?_⟩
    refine ⟨_, rfl, ite2 (fun h => ?_) (fun h => ?_)⟩
    · rw [h, Bool.true_and] at k
      refine ⟨_, rfl, b1, dx, _, rfl, p1, rfl, b1, al1, ps, rfl, hB1, hn1, hl1, fun r1 H1 z1 y1 s1 => ?_⟩
      refine ⟨_, rfl, b2, dy, _, rfl, s1 _ _ q1, rfl, b2, al2, qs, rfl, hB2.same s1, hn2, hl2, fun r2 H2 z2 y2 s2 => ?_⟩
      have s12 := Same.trans s1 s2
      refine ⟨.list (ps.map fun q => q.2.py), .list (qs.map fun q => q.2.py), .lst (SqL.of (s2 _ _ y1)) (dp_rows ps fun q hq => s12 _ _ (p3 q hq).1), .lst (SqL.of y2) (dp_rows qs fun q hq => s12 _ _ (q3 q hq).1), shaped_rows (fun q hq => (p3 q hq).2), shaped_rows (fun q hq => (q3 q hq).2), ?_⟩
      rw [eqv_rows]
      exact k H2 s12
    · rw [Bool.eq_false_iff.mpr h, Bool.false_and] at k
      exact k H (Same.refl H)
end
end Vk
set_option Elab.async false
set_option linter.all false
set_option maxRecDepth 100000
set_option maxHeartbeats 8000000
namespace Vk
open PySem PySem.Spec PyProof.Rows L2
/-- one of the law's kept books: its list at x holds the book and its rows -/
structure K1 where
  x : Addr
  bk : Addr
  u : Addr
  qs : List (Addr × Row)
  ps : List (Addr × Row)
structure K1.ok (CB al : Addr) (sg : List Nat) (H : Hp) (k : K1) : Prop where
  at_ : H k.x = some (.lst [.ref k.bk, .ref k.u])
  book : IsBook CB k.bk al H k.qs
  rows : RowsAt H k.u k.ps
  perm : k.qs.Perm k.ps
  srt : sortedR k.qs
  good : GoodRs sg (k.ps.map (·.2))
  len : k.ps.length ≤ 8
theorem K1.ok.same {CB al : Addr} {sg : List Nat} {H H' : Hp} {k : K1} (h : k.ok CB al sg H) (s : Same H H') : k.ok CB al sg H' := ⟨s _ _ h.at_, h.book.same s, h.rows.same s, h.perm, h.srt, h.good, h.len⟩
theorem none_back {H H' : Hp} {p : Addr} (s : Same H H') (h : H' p = none) : H p = none := by
  cases hz : H p with
  | none => rfl
  | some o =>
    have := s _ _ hz
    rw [h] at this
    cases this
theorem fresh_app {H : Hp} {ks : List K1} {k : K1} (h : H k.u = none) : ∀ q ∈ ks ++ [k], q ∈ ks ∨ H q.u = none := fun q hq => by
  rcases List.mem_append.mp hq with m | m
  · exact .inl m
  · rw [List.mem_singleton] at m
    subst m
    exact .inr h
theorem fresh_nil {H : Hp} {ks : List K1} : ∀ q ∈ ks, q ∈ ks ∨ H q.u = none := fun q hq => .inl hq
structure KeptAt (CB al : Addr) (sg : List Nat) (H : Hp) (z : Addr) (ks : List K1) : Prop where
  at_ : H z = some (.lst (ks.map fun k => V.ref k.x))
  each : ∀ k ∈ ks, k.ok CB al sg H
  ne : ks ≠ []
theorem KeptAt.same {CB al : Addr} {sg : List Nat} {H H' : Hp} {z : Addr} {ks : List K1} (h : KeptAt CB al sg H z ks) (s : Same H H') : KeptAt CB al sg H' z ks := ⟨s _ _ h.at_, fun k hk => (h.each k hk).same s, h.ne⟩
/-- the list of the kept books is none of what they hold -/
theorem KeptAt.apart {CB al : Addr} {sg : List Nat} {H : Hp} {z : Addr} {ks : List K1} (h : KeptAt CB al sg H z ks) {k : K1} (hk : k.ok CB al sg H) : k.x ≠ z ∧ k.u ≠ z := by
  obtain ⟨k0, rest, rfl⟩ := List.exists_cons_of_ne_nil h.ne
  have h0 := h.each k0 List.mem_cons_self
  have hz := h.at_
  rw [List.map_cons] at hz
  refine ⟨fun e => ?_, fun e => ?_⟩
  · have h1 := hk.at_
    rw [e, hz] at h1
    have h2 := HO.lst.inj (Option.some.inj h1)
    have h3 : k0.x = k.bk := V.ref.inj (List.head_eq_of_cons_eq h2)
    obtain ⟨dx, D, b1, _⟩ := hk.book
    have h4 := h0.at_
    rw [h3, b1] at h4
    cases h4
  · have h1 := hk.rows.1
    rw [e, hz] at h1
    have h2 := HO.lst.inj (Option.some.inj h1)
    cases hp : k.ps with
    | nil => rw [hp] at h2; cases h2
    | cons q r =>
      rw [hp, List.map_cons] at h2
      have h3 : k0.x = q.1 := V.ref.inj (List.head_eq_of_cons_eq h2)
      have h4 := h0.at_
      have h5 := (hk.rows.2 q (by rw [hp]; exact List.mem_cons_self)).1
      rw [h3, h5] at h4
      cases h4
theorem K1.ok.upd {CB al : Addr} {sg : List Nat} {H : Hp} {z : Addr} {ks : List K1} {k : K1} {o : HO} (hk : k.ok CB al sg H) (h : KeptAt CB al sg H z ks) : k.ok CB al sg (upd H z o) := by
  obtain ⟨n1, n2⟩ := h.apart hk
  have hz := h.at_
  have nt : ∀ {c : Addr} {xs : List V}, H c = some (.tup xs) → c ≠ z := fun hc e => by
    rw [e, hz] at hc
    cases hc
  obtain ⟨dx, D, b1, b2, b3⟩ := hk.book
  have nb : k.bk ≠ z := fun e => by
    rw [e, hz] at b1
    cases b1
  have nD : D ≠ z := fun e => by
    rw [e, hz] at b2
    cases b2
  exact ⟨by rw [upd_ne n1]; exact hk.at_, ⟨dx, D, by rw [upd_ne nb]; exact b1, by rw [upd_ne nD]; exact b2, fun q hq => ⟨by rw [upd_ne (nt (b3 q hq).1)]; exact (b3 q hq).1, (b3 q hq).2⟩⟩,
    ⟨by rw [upd_ne n2]; exact hk.rows.1, fun q hq => ⟨by rw [upd_ne (nt (hk.rows.2 q hq).1)]; exact (hk.rows.2 q hq).1, (hk.rows.2 q hq).2⟩⟩, hk.perm, hk.srt, hk.good, hk.len⟩
/-- one book more -/
theorem KeptAt.app {CB al : Addr} {sg : List Nat} {H : Hp} {z : Addr} {ks : List K1} {k : K1} (h : KeptAt CB al sg H z ks) (hk : k.ok CB al sg H) : KeptAt CB al sg (upd H z (.lst ((ks.map fun k => V.ref k.x) ++ [.ref k.x]))) z (ks ++ [k]) := by
  refine ⟨?_, fun k' hk' => ?_, by simp⟩
  · rw [upd_same, List.map_append]
    rfl
  · rcases List.mem_append.mp hk' with m | m
    · exact (h.each k' m).upd h
    · rw [List.mem_singleton] at m
      subst m
      exact hk.upd h
theorem KeptAt.last {CB al : Addr} {sg : List Nat} {H : Hp} {z : Addr} {ks : List K1} (h : KeptAt CB al sg H z ks) : ∃ k, ks[ks.length - 1]? = some k ∧ k ∈ ks ∧ atI (ks.map fun k => V.ref k.x) (-1) = some (V.ref k.x) := by
  have hp : 0 < ks.length := List.length_pos_iff.mpr h.ne
  obtain ⟨k, hk⟩ : ∃ k, ks[ks.length - 1]? = some k := ⟨_, List.getElem?_eq_getElem (by omega)⟩
  refine ⟨k, hk, List.mem_of_getElem? hk, ?_⟩
  unfold atI ixN
  rw [List.length_map, if_neg (by omega), if_pos (by omega)]
  have e : ((-1 : Int) + (ks.length : Int)).toNat = ks.length - 1 := by omega
  rw [e]
  show (ks.map fun k => V.ref k.x)[ks.length - 1]? = _
  rw [List.getElem?_map, hk]
  rfl
end Vk
set_option Elab.async false
set_option linter.all false
set_option maxRecDepth 100000
set_option maxHeartbeats 8000000
namespace Vk
open PySem PySem.Spec PyProof.Rows L2
theorem scRemoved : FnScope ["_law_kept", "_law_name", "_law_book_here", "_law_rows_here", "_law_told", "_law_row"] ["_law_kept", "_law_name"] (defScope sRemoved) := ⟨rfl, rfl, rfl, by decide +kernel, rfl, by decide +kernel, by decide +kernel⟩
section
variable {P : Program} {w : World} {K : PySem.W.Frag} {mg : Str → Option Value} {base : Heap} {a : Ad} {d : Fd} {C CB : Addr}
def OffZ (z : Addr) (H H' : Hp) : Prop := ∀ c o, c ≠ z → H c = some o → H' c = some o
def spRemoved (C CB : Addr) : Sp := fun vs H Q _ => ∃ (z al : Addr) (l v t : List Nat) (ks : List K1), vs = [.ref z, .str (S t)] ∧ KeptAt CB al (45 :: srtL l) H z ks ∧ ks.length ≤ 100 ∧ IsAl C H al l v ∧ Tx t ∧
  ∀ ks' H', KeptAt CB al (45 :: srtL l) H' z ks' → ks'.length ≤ ks.length + 1 → (∀ k ∈ ks', k ∈ ks ∨ H k.u = none) → OffZ z H H' → Q (.bl true) H'
theorem ok_removed (T : Fns K mg a d) (GMinus : FnOk P w K mg base CX0 7 a.aMinus d.dMinus ["_law_book_here", "_law_name"] (spMinus C CB)) : FnOk P w K mg base CX0 8 a.aRemoved d.dRemoved ["_law_kept", "_law_name"] (spRemoved C CB) := by
  have GAlikeL : FnOk P w K mg base CX0 1 a.aAlikeL d.dAlikeL ["_law_told", "_law_due_here"] spAlikeL := ok_alikeL T
  refine T.FRemoved.ok scRemoved (fun vs H Q E h => ?_) (fun cdv A0 outer s H vs Q E hr h => ?_)
  · obtain ⟨z, al, l, v, t, ks, rfl, _⟩ := h
    rfl
  · obtain ⟨z, al, l, v, t, ks, rfl, hK, hkl, hA, ht, kk⟩ := h
    have hu := hr.units
    refine ⟨_, (pss_cons (ps_asg (pe_ix (r := rIxL K) ix_list (pv 0) (pe_un un_neg pe_int) (fun _ _ => rfl)) (pg_lst rfl (pgs_cons (pg_name (i := 2) scRemoved.nd rfl (Or.inl rfl)) (pgs_cons (pg_name (i := 3) scRemoved.nd rfl (Or.inl rfl)) pgs_nil))))
      (pss_cons (ps_set (i := 4) scRemoved.nd rfl (Or.inl rfl) (pe_call GMinus (hr.mono (by decide)) (by rfl) T.gMinus T.FMinus.kp T.bMinus .nil pass0 (pa_cons (pv 2) (pa_cons (pv 1) pa_nil))))
      (pss_cons (ps_if (PW.pt (pw_and (pt_cmpR op_in_seq (pv 1) (pe_lc (own := [("_law_row", 5)]) (g := gName 5) (by rfl) scRemoved.nd (pi_list (pv 3)) (blkOk_by (own := [("_law_row", 5)]) (N := ["_law_kept", "_law_name", "_law_book_here", "_law_rows_here", "_law_told", "_law_row"]) (sc := defScope sRemoved) (by decide +kernel)) (fun _ _ _ _ _ => pg_name (i := 5) scRemoved.nd rfl (Or.inl rfl)) (fun _ _ _ _ _ => pts_nil) (fun _ _ _ _ _ => (pe_ix (r := rIxT K) ix_tup (pv 5) pe_int (fun _ _ => rfl)))) rfl) (pw_and1 (pt_cmpR op_eq (pe_ix (r := rIxL K) ix_list (pv 4) pe_int (fun _ _ => rfl)) pe_str (nomark _)))))
        (pss_cons (ps_expr (pe_bm PySem.F.plainAttrs_list PySem.F.slot_list_append PySem.F.type_list_append mt_append (pv 0) (pa_cons (pe_lst (pa_cons (pe_ix (r := rIxL K) ix_list (pv 4) pe_int (fun _ _ => rfl)) (pa_cons (pe_lc (own := [("_law_row", 5)]) (g := gName 5) (by rfl) scRemoved.nd (pi_list (pv 3)) (blkOk_by (own := [("_law_row", 5)]) (N := ["_law_kept", "_law_name", "_law_book_here", "_law_rows_here", "_law_told", "_law_row"]) (sc := defScope sRemoved) (by decide +kernel)) (fun _ _ _ _ _ => pg_name (i := 5) scRemoved.nd rfl (Or.inl rfl)) (fun _ _ _ _ _ => pts_one (pt_cmpR op_ne (pe_ix (r := rIxT K) ix_tup (pv 5) pe_int (fun _ _ => rfl)) (pv 1) (nomark _))) (fun _ _ _ _ _ => pv 5)) pa_nil))) pa_nil)))
        (pss_one (ps_ret pe_bl))) pss_nil)
      (pss_one (ps_ret (pe_and (pe_cmpR op_notIn_seq (pv 1) (pe_lc (own := [("_law_row", 5)]) (g := gName 5) (by rfl) scRemoved.nd (pi_list (pv 3)) (blkOk_by (own := [("_law_row", 5)]) (N := ["_law_kept", "_law_name", "_law_book_here", "_law_rows_here", "_law_told", "_law_row"]) (sc := defScope sRemoved) (by decide +kernel)) (fun _ _ _ _ _ => pg_name (i := 5) scRemoved.nd rfl (Or.inl rfl)) (fun _ _ _ _ _ => pts_nil) (fun _ _ _ _ _ => (pe_ix (r := rIxT K) ix_tup (pv 5) pe_int (fun _ _ => rfl)))) rfl) (pe_one (pe_call GAlikeL (hr.mono (by decide)) (by rfl) T.gAlikeL T.FAlikeL.kp T.bAlikeL .nil pass0 (pa_cons (pv 4) (pa_cons (pe_lst (pa_cons pe_str (pa_cons (pv 1) pa_nil))) pa_nil)))))))))), ?_⟩
    obtain ⟨k, hk1, hkm, hki⟩ := hK.last
    have hk := hK.each k hkm
    refine ⟨_, rfl, _, rfl, z, _, _, _, rfl, rfl, SqL.of hK.at_, hki, ?_⟩
    refine ⟨k.x, _, rfl, SqL.of hk.at_, rfl, _, _, rfl, _, _, rfl, rfl, ?_⟩
    have hgq : GoodRs (45 :: srtL l) (k.qs.map (·.2)) := hk.good.perm (hk.perm.map _)
    have hql : k.qs.length ≤ 8 := by rw [hk.perm.length_eq]; exact hk.len
    refine ⟨_, rfl, _, rfl, k.bk, al, l, v, t, k.qs, rfl, hk.book, hA, ht, hgq, hql, fun hm b2 rs p H1 hb2 hp hperm hsort hB2 hp1 s1 => ?_, fun hn p H1 hp hp1 s1 => ?_⟩
    · have hm' : t ∈ (k.ps.map fun q => q.2.n) := (hk.perm.map fun q : Addr × Row => q.2.n).mem_iff.mp hm
      have hK1 := hK.same s1
      have hk1' := hk.same s1
      have hR1 := hk1'.rows
      refine ⟨_, rfl, _, rfl, k.u, rfl, ⟨_, SqL.of hR1.1⟩, fun D2 hD2 => lc_lst (fun q : Addr × Row => V.ref q.1) (fun _ => true) (fun q => V.str (S q.2.n)) (by have := hk.len; omega) hR1.1 hD2 (fun _ => rfl) (fun _ _ _ _ _ q => q) (fun q hq _ H3 Q3 off k3 => ⟨_, rfl, q.1, _, 0, _, rfl, rfl, SqT.of ((off q.1 (ne_of_none (hR1.2 q hq).1 hD2)).trans (hR1.2 q hq).1), rfl, k3⟩) ?_⟩
      rw [col_map]
      have s2 : Same H1 (upd H1 D2 (.lst (k.ps.map fun q => V.str (S q.2.n)))) := upd_laid hD2
      have hD2' : (upd H1 D2 (.lst (k.ps.map fun q => V.str (S q.2.n)))) D2 = some (.lst ((k.ps.map fun q => q.2.n).map fun t => V.str (S t))) := by
        rw [upd_same, List.map_map]
        rfl
      have s12 := Same.trans s1 s2
      generalize upd H1 D2 (.lst (k.ps.map fun q => V.str (S q.2.n))) = H2 at s2 hD2' s12
      refine ⟨D2, _, rfl, .inl (SqL.of hD2'), rfl, flat_strs _, ?_⟩
      rw [inV_strs, decide_eq_true hm']
      refine ⟨_, rfl, iteT ?_⟩
      have hp2 := s2 _ _ hp1
      refine ⟨_, rfl, p, _, _, _, rfl, rfl, SqL.of hp2, rfl, rfl, _, rfl, ite2 (fun _ => ?_) (fun h => absurd (decide_eq_true rfl) h)⟩
      have hK2 := hK.same s12
      have hk2 := hk.same s12
      have hR2 := hk2.rows
      refine ⟨_, rfl, .inl ⟨rfl, _, SqL.of hK2.at_⟩, _, rfl, p, _, _, _, rfl, rfl, SqL.of hp2, rfl, _, rfl, k.u, rfl, ⟨_, SqL.of hR2.1⟩, fun D3 hD3 => lc_lst (fun q : Addr × Row => V.ref q.1) (fun q => !decide (q.2.n = t)) (fun q => V.ref q.1) (by have := hk.len; omega) hR2.1 hD3 (fun _ => rfl) (fun q hq' H3 Q3 off k3 => ⟨_, rfl, q.1, _, 0, _, rfl, rfl, SqT.of ((off q.1 (ne_of_none (hR2.2 q hq').1 hD3)).trans (hR2.2 q hq').1), rfl, _, rfl, rfl, _, rfl, (by
        have e : (decide (V.str (S q.2.n) = V.str (S t))) = decide (q.2.n = t) := by
          rw [Bool.eq_iff_iff, decide_eq_true_iff, decide_eq_true_iff]
          exact ⟨fun z => S_inj.mp (V.str.inj z), fun z => by rw [z]⟩
        rw [e]
        exact k3)⟩) (fun q hq _ H3 Q3 off k3 => ⟨_, rfl, k3⟩) ?_⟩
      have s3 : Same H2 (upd H2 D3 (.lst ((k.ps.filter fun q => !decide (q.2.n = t)).map fun q => V.ref q.1))) := upd_laid hD3
      have h3 : (upd H2 D3 (.lst ((k.ps.filter fun q => !decide (q.2.n = t)).map fun q => V.ref q.1))) D3 = some (.lst ((k.ps.filter fun q => !decide (q.2.n = t)).map fun q => V.ref q.1)) := upd_same
      have s13 := Same.trans s12 s3
      generalize upd H2 D3 (.lst ((k.ps.filter fun q => !decide (q.2.n = t)).map fun q => V.ref q.1)) = H3 at s3 h3 s13
      refine ⟨(by show 2 ≤ sizeLine; decide), fun x hx => ?_⟩
      have s4 : Same H3 (upd H3 x (.lst [.ref b2, .ref D3])) := upd_laid hx
      have h4 : (upd H3 x (.lst [.ref b2, .ref D3])) x = some (.lst [.ref b2, .ref D3]) := upd_same
      have s14 := Same.trans s13 s4
      have s24 := Same.trans (Same.trans s2 s3) s4
      have h34 := s4 _ _ h3
      generalize upd H3 x (.lst [.ref b2, .ref D3]) = H4 at s4 h4 s14 s24 h34
      have hK4 := hK.same s14
      have hk4 := hk.same s14
      have new : K1.ok CB al (45 :: srtL l) H4 ⟨x, b2, D3, rs, k.ps.filter fun q => !decide (q.2.n = t)⟩ := by
        refine ⟨h4, hB2.same s24, ⟨h34, fun q hq => hk4.rows.2 q (List.mem_filter.mp hq).1⟩, hperm.trans (hk.perm.filter _), hsort, ?_, Nat.le_trans (List.length_filter_le _ _) hk.len⟩
        refine ⟨fun r hr => ?_, List.Pairwise.sublist (List.Sublist.map _ List.filter_sublist) hk.good.2⟩
        obtain ⟨q, hq, rfl⟩ := List.mem_map.mp hr
        exact hk.good.1 _ (List.mem_map.mpr ⟨q, (List.mem_filter.mp hq).1, rfl⟩)
      refine ⟨z, _, _, rfl, rfl, hK4.at_, by rw [List.length_map, sizeLine_eq]; omega, ?_⟩
      refine kk (ks ++ [⟨x, b2, D3, rs, k.ps.filter fun q => !decide (q.2.n = t)⟩]) _ (hK4.app new) (by rw [List.length_append]; exact Nat.le_refl _) (fresh_app (none_back s12 hD3)) fun c o h1 h2 => ?_
      rw [upd_ne h1]
      exact s14 _ _ h2
    · have hn' : t ∉ (k.ps.map fun q => q.2.n) := fun z => hn ((hk.perm.map fun q : Addr × Row => q.2.n).mem_iff.mpr z)
      have hR1 := (hk.same s1).rows
      refine ⟨_, rfl, _, rfl, k.u, rfl, ⟨_, SqL.of hR1.1⟩, fun D2 hD2 => lc_lst (fun q : Addr × Row => V.ref q.1) (fun _ => true) (fun q => V.str (S q.2.n)) (by have := hk.len; omega) hR1.1 hD2 (fun _ => rfl) (fun _ _ _ _ _ q => q) (fun q hq _ H3 Q3 off k3 => ⟨_, rfl, q.1, _, 0, _, rfl, rfl, SqT.of ((off q.1 (ne_of_none (hR1.2 q hq).1 hD2)).trans (hR1.2 q hq).1), rfl, k3⟩) ?_⟩
      rw [col_map]
      have s2 : Same H1 (upd H1 D2 (.lst (k.ps.map fun q => V.str (S q.2.n)))) := upd_laid hD2
      have iD2 : (upd H1 D2 (.lst (k.ps.map fun q => V.str (S q.2.n)))) D2 = some (.lst ((k.ps.map fun q => q.2.n).map fun t => V.str (S t))) := by
        rw [upd_same, List.map_map]
        rfl
      generalize upd H1 D2 (.lst (k.ps.map fun q => V.str (S q.2.n))) = H2 at s2 iD2
      refine ⟨D2, _, rfl, .inl (SqL.of iD2), rfl, flat_strs _, ?_⟩
      rw [inV_strs, decide_eq_false hn']
      refine ⟨_, rfl, iteF ?_⟩
      have hR2 := hR1.same s2
      refine ⟨_, rfl, _, rfl, k.u, rfl, ⟨_, SqL.of hR2.1⟩, fun D3 hD3 => lc_lst (fun q : Addr × Row => V.ref q.1) (fun _ => true) (fun q => V.str (S q.2.n)) (by have := hk.len; omega) hR2.1 hD3 (fun _ => rfl) (fun _ _ _ _ _ q => q) (fun q hq _ H3 Q3 off k3 => ⟨_, rfl, q.1, _, 0, _, rfl, rfl, SqT.of ((off q.1 (ne_of_none (hR2.2 q hq).1 hD3)).trans (hR2.2 q hq).1), rfl, k3⟩) ?_⟩
      rw [col_map]
      have s3 : Same H2 (upd H2 D3 (.lst (k.ps.map fun q => V.str (S q.2.n)))) := upd_laid hD3
      have iD3 : (upd H2 D3 (.lst (k.ps.map fun q => V.str (S q.2.n)))) D3 = some (.lst ((k.ps.map fun q => q.2.n).map fun t => V.str (S t))) := by
        rw [upd_same, List.map_map]
        rfl
      generalize upd H2 D3 (.lst (k.ps.map fun q => V.str (S q.2.n))) = H3 at s3 iD3
      refine ⟨D3, _, rfl, .inl (SqL.of iD3), rfl, flat_strs _, ?_⟩
      rw [inV_strs, decide_eq_false hn']
      refine ⟨_, rfl, iteT ?_⟩
      have s13 := Same.trans (Same.trans s1 s2) s3
      have hp3 := s3 _ _ (s2 _ _ hp1)
      refine ⟨_, rfl, _, rfl, (by show 2 ≤ sizeLine; decide), fun x hx => ?_⟩
      have s4 : Same H3 (upd H3 x (.lst [.str "UnknownName", .str (S t)])) := upd_laid hx
      refine ⟨p, x, _, rfl, s4 _ _ hp3, upd_same, by show 2 ≤ 10; decide, fun y hy => ?_, kk ks _ (hK.same (Same.trans s13 s4)) (Nat.le_succ _) fresh_nil fun c o _ h2 => (Same.trans s13 s4) _ _ h2⟩
      rcases List.mem_cons.mp hy with e | hy
      · exact .inl ⟨_, e⟩
      · exact .inl ⟨_, List.mem_singleton.mp hy⟩
end
end Vk
set_option Elab.async false
set_option linter.all false
set_option maxRecDepth 100000
set_option maxHeartbeats 8000000
namespace Vk
open PySem PySem.Spec PyProof.Rows L2
theorem fault_len (sg : List Nat) (e : Row) (rs : List Row) : (faultL sg e rs).length ≤ 3 := by
  unfold faultL
  repeat' split
  all_goals simp
def dueD (sg : List Nat) (e : Row) (rs : List Row) : List PyData := if 8 ≤ rs.length then [.str "TooMany", .int 8] else ((faultL sg e rs).map S).map PyData.str
theorem due_dp {K : PySem.W.Frag} {H : Hp} {sg : List Nat} {e : Row} {rs : List Row} : DpAll K H (dueA sg e rs) (dueD sg e rs) := by
  unfold dueA dueD
  split
  · exact .cons (.str _) (.cons (.int _) .nil)
  · have := dp_all (K := K) (H := H) ((faultL sg e rs).map S)
    rwa [List.map_map] at this
theorem due_shaped {sg : List Nat} {e : Row} {rs : List Row} (he : e.ok) (hr : ∀ r ∈ rs, r.ok) : SeqAt.shaped (.list (dueD sg e rs)) = true := by
  unfold dueD
  split
  · decide +kernel
  · refine shaped_strs fun y hy => ?_
    obtain ⟨t, ht, rfl⟩ := List.mem_map.mp hy
    exact wide_ok (fault_wide he hr t ht)
theorem due_len {sg : List Nat} {e : Row} {rs : List Row} : (dueA sg e rs).length ≤ 10 := by
  unfold dueA
  split
  · decide
  · rw [List.length_map]
    exact Nat.le_trans (fault_len sg e rs) (by decide)
theorem due_kinds {sg : List Nat} {e : Row} {rs : List Row} : ∀ x ∈ dueA sg e rs, (∃ t, x = .str t) ∨ ∃ i, x = .int i := by
  unfold dueA
  split
  · intro x hx
    rcases List.mem_cons.mp hx with h | hx
    · exact .inl ⟨_, h⟩
    · exact .inr ⟨_, List.mem_singleton.mp hx⟩
  · intro x hx
    obtain ⟨t, _, rfl⟩ := List.mem_map.mp hx
    exact .inl ⟨_, rfl⟩
theorem due_none {sg : List Nat} {e : Row} {rs : List Row} : (dueD sg e rs).isEmpty = true ↔ rs.length < 8 ∧ faultL sg e rs = [] := by
  unfold dueD
  split
  · rename_i h
    exact ⟨fun z => (by cases z), fun z => absurd z.1 (by omega)⟩
  · rename_i h
    rw [List.isEmpty_iff, List.map_eq_nil_iff, List.map_eq_nil_iff]
    exact ⟨fun z => ⟨by omega, z⟩, fun z => z.2⟩
theorem scAdded : FnScope ["_law_kept", "_law_signs", "_law_entry_here", "_law_book_here", "_law_rows_here", "_law_due_here", "_law_told"] ["_law_kept", "_law_signs", "_law_entry_here"] (defScope sAdded) := ⟨rfl, rfl, rfl, by decide +kernel, rfl, by decide +kernel, by decide +kernel⟩
section
variable {P : Program} {w : World} {K : PySem.W.Frag} {mg : Str → Option Value} {base : Heap} {a : Ad} {d : Fd} {C CB : Addr}
def spAdded (C CB : Addr) : Sp := fun vs H Q _ => ∃ (z x al : Addr) (l v : List Nat) (ks : List K1) (e : Row), vs = [.ref z, .str (S (45 :: srtL l)), .ref x] ∧ KeptAt CB al (45 :: srtL l) H z ks ∧ ks.length ≤ 100 ∧ IsAl C H al l v ∧ H x = some (.tup e.vs) ∧ e.ok ∧
  ∀ ks' H', KeptAt CB al (45 :: srtL l) H' z ks' → ks'.length ≤ ks.length + 1 → (∀ k ∈ ks', k ∈ ks ∨ H k.u = none) → OffZ z H H' → Q (.bl true) H'
theorem ok_added (T : Fns K mg a d) (GPlus : FnOk P w K mg base CX0 7 a.aPlus d.dPlus ["_law_book_here", "_law_entry_here"] (spPlus C CB)) : FnOk P w K mg base CX0 8 a.aAdded d.dAdded ["_law_kept", "_law_signs", "_law_entry_here"] (spAdded C CB) := by
  have GAlikeL : FnOk P w K mg base CX0 1 a.aAlikeL d.dAlikeL ["_law_told", "_law_due_here"] spAlikeL := ok_alikeL T
  have GDue : FnOk P w K mg base CX0 3 a.aDue d.dDue ["_law_signs", "_law_rows_here", "_law_entry_here"] spDueA := ok_dueA T
  refine T.FAdded.ok scAdded (fun vs H Q E h => ?_) (fun cdv A0 outer s H vs Q E hr h => ?_)
  · obtain ⟨z, x, al, l, v, ks, e, rfl, _⟩ := h
    rfl
  · obtain ⟨z, x, al, l, v, ks, e, rfl, hK, hkl, hA, hx, he, kk⟩ := h
    refine ⟨_, (pss_cons (ps_asg (pe_ix (r := rIxL K) ix_list (pv 0) (pe_un un_neg pe_int) (fun _ _ => rfl)) (pg_lst rfl (pgs_cons (pg_name (i := 3) scAdded.nd rfl (Or.inl rfl)) (pgs_cons (pg_name (i := 4) scAdded.nd rfl (Or.inl rfl)) pgs_nil))))
      (pss_cons (ps_set (i := 5) scAdded.nd rfl (Or.inl rfl) (pe_call GDue (hr.mono (by decide)) (by rfl) T.gDue T.FDue.kp T.bDue .nil pass0 (pa_cons (pv 1) (pa_cons (pv 4) (pa_cons (pv 2) pa_nil)))))
      (pss_cons (ps_set (i := 6) scAdded.nd rfl (Or.inl rfl) (pe_call GPlus (hr.mono (by decide)) (by rfl) T.gPlus T.FPlus.kp T.bPlus .nil pass0 (pa_cons (pv 3) (pa_cons (pv 2) pa_nil))))
      (pss_cons (ps_if (PW.pt (pw_and (pt_cmpR (op_eqD hr.units) (pv 5) (pe_lst pa_nil) (nomark _)) (pw_and1 (pt_cmpR op_eq (pe_ix (r := rIxL K) ix_list (pv 6) pe_int (fun _ _ => rfl)) pe_str (nomark _)))))
        (pss_cons (ps_expr (pe_bm PySem.F.plainAttrs_list PySem.F.slot_list_append PySem.F.type_list_append mt_append (pv 0) (pa_cons (pe_lst (pa_cons (pe_ix (r := rIxL K) ix_list (pv 6) pe_int (fun _ _ => rfl)) (pa_cons (pe_op op_cat (pv 4) (pe_lst (pa_cons (pv 2) pa_nil))) pa_nil))) pa_nil)))
        (pss_one (ps_ret pe_bl))) pss_nil)
      (pss_one (ps_ret (pe_and (pe_cmpR (op_neD hr.units) (pv 5) (pe_lst pa_nil) (nomark _)) (pe_one (pe_call GAlikeL (hr.mono (by decide)) (by rfl) T.gAlikeL T.FAlikeL.kp T.bAlikeL .nil pass0 (pa_cons (pv 6) (pa_cons (pv 5) pa_nil))))))))))), ?_⟩
    obtain ⟨k, hk1, hkm, hki⟩ := hK.last
    have hk := hK.each k hkm
    refine ⟨_, rfl, _, rfl, z, _, _, _, rfl, rfl, SqL.of hK.at_, hki, k.x, _, rfl, SqL.of hk.at_, rfl, _, _, rfl, _, _, rfl, rfl, ?_⟩
    have hgq : GoodRs (45 :: srtL l) (k.qs.map (·.2)) := hk.good.perm (hk.perm.map _)
    have hql : k.qs.length ≤ 8 := by rw [hk.perm.length_eq]; exact hk.len
    have hnd : (k.ps.map fun q => q.2.n).Nodup := names_map k.ps ▸ hk.good.nodup
    have hrok : ∀ r ∈ k.qs.map (·.2), r.ok := fun r hr => by
      obtain ⟨q, hq, rfl⟩ := List.mem_map.mp hr
      exact (hk.rows.2 q (hk.perm.mem_iff.mp hq)).2
    refine ⟨_, rfl, _, rfl, _, rfl, 45 :: srtL l, k.u, x, k.ps, e, rfl, hk.rows, by have := hk.len; omega, hx, he, fun qs p H1 hperm hsort hp hp1 s1 => ?_⟩
    have hdue : dueA (45 :: srtL l) e (qs.map (·.2)) = dueA (45 :: srtL l) e (k.qs.map (·.2)) := by
      rcases Nat.lt_or_ge k.ps.length 8 with h8 | h8
      · rw [rows_eq (hsort h8) hk.srt hperm hk.perm hnd]
      · unfold dueA
        rw [if_pos (by rw [List.length_map, hperm.length_eq]; exact h8), if_pos (by rw [List.length_map, hk.perm.length_eq]; exact h8)]
    rw [hdue] at hp1
    clear hdue hsort hperm
    have hk1' := hk.same s1
    refine ⟨_, rfl, _, rfl, k.bk, al, x, l, v, k.qs, e, rfl, hk1'.book, hA.same s1, s1 _ _ hx, he, hgq, hql, fun h8 hf b2 rs p2 H2 hb2 hp2 hperm hsort hB2 hp22 s2 => ?_, fun hne p2 H2 hp2 hp22 s2 => ?_⟩
    · have hd : dueA (45 :: srtL l) e (k.qs.map (·.2)) = [] := by
        unfold dueA
        rw [if_neg (by rw [List.length_map]; omega), hf]
        rfl
      rw [hd] at hp1
      have s12 := Same.trans s1 s2
      refine ⟨_, rfl, Nat.zero_le _, fun p3 hp3 => ?_⟩
      have s3 : Same H2 (upd H2 p3 (.lst [])) := upd_laid hp3
      refine ⟨.list [], .list [], .lst (SqL.of (s3 _ _ (s2 _ _ hp1))) .nil, .lst (SqL.of upd_same) .nil, shaped_nil, shaped_nil, ?_⟩
      rw [eqv_nil]
      have s13 := Same.trans s12 s3
      have hB3 := hB2.same s3
      have hp23 := s3 _ _ hp22
      generalize upd H2 p3 (.lst []) = H3 at s3 s13 hB3 hp23
      refine ⟨_, rfl, iteT ?_⟩
      refine ⟨_, rfl, p2, _, _, _, rfl, rfl, SqL.of hp23, rfl, rfl, _, rfl, ite2 (fun _ => ?_) (fun h => absurd (decide_eq_true rfl) h)⟩
      have hK3 := hK.same s13
      have hk3 := hk.same s13
      refine ⟨_, rfl, .inl ⟨rfl, _, SqL.of hK3.at_⟩, _, rfl, p2, _, _, _, rfl, rfl, SqL.of hp23, rfl, _, rfl, _, rfl, (by show 1 ≤ sizeLine; decide), fun p4 hp4 => ?_⟩
      have s4 : Same H3 (upd H3 p4 (.lst [.ref x])) := upd_laid hp4
      have h4 : (upd H3 p4 (.lst [.ref x])) p4 = some (.lst [.ref x]) := upd_same
      have s14 := Same.trans s13 s4
      have hB4 := hB3.same s4
      generalize upd H3 p4 (.lst [.ref x]) = H4 at s4 h4 s14 hB4
      have hk4 := hk.same s14
      refine ⟨k.u, p4, _, _, rfl, rfl, hk4.rows.1, h4, by rw [List.length_map, sizeLine_eq]; have := hk.len; show k.ps.length + 1 ≤ _; omega, fun p5 hp5 => ?_⟩
      have s5 : Same H4 (upd H4 p5 (.lst ((k.ps.map fun q => V.ref q.1) ++ [.ref x]))) := upd_laid hp5
      have h5 : (upd H4 p5 (.lst ((k.ps.map fun q => V.ref q.1) ++ [.ref x]))) p5 = some (.lst ((k.ps ++ [(x, e)]).map fun q => V.ref q.1)) := by
        rw [upd_same, List.map_append]
        rfl
      have s15 := Same.trans s14 s5
      have hB5 := hB4.same s5
      generalize upd H4 p5 (.lst ((k.ps.map fun q => V.ref q.1) ++ [.ref x])) = H5 at s5 h5 s15 hB5
      refine ⟨(by show 2 ≤ sizeLine; decide), fun y hy => ?_⟩
      have s6 : Same H5 (upd H5 y (.lst [.ref b2, .ref p5])) := upd_laid hy
      have h6 : (upd H5 y (.lst [.ref b2, .ref p5])) y = some (.lst [.ref b2, .ref p5]) := upd_same
      have s16 := Same.trans s15 s6
      have hB6 := hB5.same s6
      have h56 := s6 _ _ h5
      generalize upd H5 y (.lst [.ref b2, .ref p5]) = H6 at s6 h6 s16 hB6 h56
      have hK6 := hK.same s16
      have hk6 := hk.same s16
      have new : K1.ok CB al (45 :: srtL l) H6 ⟨y, b2, p5, rs, k.ps ++ [(x, e)]⟩ := by
        refine ⟨h6, hB6, ⟨h56, fun q hq => ?_⟩, hperm.trans (List.Perm.append_right _ hk.perm), hsort, ?_, ?_⟩
        · rcases List.mem_append.mp hq with m | m
          · exact hk6.rows.2 q m
          · rw [List.mem_singleton] at m
            subst m
            exact ⟨s16 _ _ hx, he⟩
        · rw [List.map_append]
          exact hk.good.add (fault_iff.mpr ⟨(fault_iff.mp hf).1, fun r hr => (fault_iff.mp hf).2 r ((hk.perm.map _).mem_iff.mpr hr)⟩)
        · rw [List.length_append]
          show k.ps.length + 1 ≤ 8
          rw [← hk.perm.length_eq]
          omega
      refine ⟨z, _, _, rfl, rfl, hK6.at_, by rw [List.length_map, sizeLine_eq]; omega, ?_⟩
      refine kk (ks ++ [⟨y, b2, p5, rs, k.ps ++ [(x, e)]⟩]) _ (hK6.app new) (by rw [List.length_append]; exact Nat.le_refl _) (fresh_app (none_back s14 hp5)) fun c o h1 h2 => ?_
      rw [upd_ne h1]
      exact s16 _ _ h2
    · have hde : (dueD (45 :: srtL l) e (k.qs.map (·.2))).isEmpty = false := by
        rw [Bool.eq_false_iff]
        intro hh
        obtain ⟨g1, g2⟩ := due_none.mp hh
        rw [List.length_map] at g1
        exact hne.elim (fun z => absurd z (by omega)) fun z => z g2
      have s12 := Same.trans s1 s2
      refine ⟨_, rfl, Nat.zero_le _, fun p3 hp3 => ?_⟩
      have s3 : Same H2 (upd H2 p3 (.lst [])) := upd_laid hp3
      refine ⟨.list (dueD (45 :: srtL l) e (k.qs.map (·.2))), .list [], .lst (SqL.of (s3 _ _ (s2 _ _ hp1))) due_dp, .lst (SqL.of upd_same) .nil, due_shaped he hrok, shaped_nil, ?_⟩
      rw [eqv_nil, hde]
      have s13 := Same.trans s12 s3
      have hp13 := s3 _ _ (s2 _ _ hp1)
      have hp23 := s3 _ _ hp22
      generalize upd H2 p3 (.lst []) = H3 at s3 s13 hp13 hp23
      refine ⟨_, rfl, iteF ?_⟩
      refine ⟨_, rfl, Nat.zero_le _, fun p4 hp4 => ?_⟩
      have s4 : Same H3 (upd H3 p4 (.lst [])) := upd_laid hp4
      refine ⟨.list (dueD (45 :: srtL l) e (k.qs.map (·.2))), .list [], .lst (SqL.of (s4 _ _ hp13)) due_dp, .lst (SqL.of upd_same) .nil, due_shaped he hrok, shaped_nil, ?_⟩
      rw [eqv_nil, hde]
      have s14 := Same.trans s13 s4
      have hp14 := s4 _ _ hp13
      have hp24 := s4 _ _ hp23
      generalize upd H3 p4 (.lst []) = H4 at s4 s14 hp14 hp24
      refine ⟨_, rfl, iteT ?_⟩
      exact ⟨_, rfl, _, rfl, p2, p, _, rfl, hp24, hp14, due_len, due_kinds, kk ks _ (hK.same s14) (Nat.le_succ _) fresh_nil fun c o _ h2 => s14 _ _ h2⟩
end
end Vk
set_option Elab.async false
set_option linter.all false
set_option maxRecDepth 100000
set_option maxHeartbeats 8000000
namespace Vk
open PySem PySem.Spec PyProof.Rows L2
/-! the walk over a reading -/
open L2 in
local macro_rules | `(tactic| walk_at "lk") => `(tactic| (refine Fr.get (by assumption) (by first | assumption | (simp only [List.mem_cons, List.not_mem_nil, or_false, not_or]; first | assumption | (refine ⟨?_, ?_⟩ <;> assumption) | (apply Ne.symm; assumption))) ?_; walk_at "lk"))
local macro_rules | `(tactic| walk_at "lk") => `(tactic| (refine Same.get (by assumption) ?_; walk_at "lk"))
local macro_rules | `(tactic| walk_at "lk") => `(tactic| (refine upd_oth (by first | assumption | (apply Ne.symm; assumption)) ?_; walk_at "lk"))
local macro_rules | `(tactic| walk_at "lk") => `(tactic| (refine upd_old (by assumption) ?_; walk_at "lk"))
local macro_rules | `(tactic| walk_at "lk") => `(tactic| exact upd_same)
local macro_rules | `(tactic| walk_at "lk") => `(tactic| assumption)
local macro_rules | `(tactic| walk_at "len") => `(tactic| (simp only [S_len, sizeLine_eq, List.length_take, List.length_drop, List.length_append, List.length_cons, List.length_nil]; omega))
local macro_rules | `(tactic| walk_at "len") => `(tactic| (simp only [S_len, sizeLine_eq]; omega))
local macro_rules | `(tactic| walk_at "len") => `(tactic| (simp only [List.length_cons, List.length_nil, sizeLine_eq]; omega))
local macro_rules | `(tactic| walk_at "num") => `(tactic| first | assumption | omega | (simp only [List.length_take, List.length_drop, List.length_append, List.length_cons, List.length_nil]; omega))
local macro_rules | `(tactic| walk_at "ix") => `(tactic| first | exact rfl | assumption | exact atI_nat (by assumption))
local macro_rules | `(tactic| walk_at "putq") => `(tactic| exact rfl)
local macro_rules | `(tactic| walk_at "sq") => `(tactic| exact .inr (SqT.of (by walk_at "lk")))
local macro_rules | `(tactic| walk_at "sq") => `(tactic| exact .inl (SqL.of (by walk_at "lk")))
local macro_rules | `(tactic| walk_at "sq") => `(tactic| exact .inl (by assumption))
local macro_rules | `(tactic| walk_at "sq") => `(tactic| exact .inr (by assumption))
local macro_rules | `(tactic| walk_at "mapq") => `(tactic| exact (rfl : _ = List.map (fun l => V.str (S l)) [_, _, _, _, _]))
local macro_rules | `(tactic| walk_at "mapq") => `(tactic| exact (rfl : _ = List.map (fun l => V.str (S l)) [_, _, _, _]))
local macro_rules | `(tactic| walk_at "mapq") => `(tactic| exact (rfl : _ = List.map (fun l => V.str (S l)) [_, _, _]))
local macro_rules | `(tactic| walk_at "mapq") => `(tactic| exact (rfl : _ = List.map (fun l => V.str (S l)) [_, _]))
local macro_rules | `(tactic| walk_at "mapq") => `(tactic| exact (rfl : _ = List.map (fun l => V.str (S l)) [_]))
local macro_rules | `(tactic| walk_at "mapq") => `(tactic| exact rfl)
local macro_rules | `(tactic| walk_at "setq") => `(tactic| ((try simp only [Int.reduceToNat, List.set_cons_succ, List.set_cons_zero]); exact rfl))
local macro_rules | `(tactic| walk_at "toN") => `(tactic| first | exact rfl | exact (Int.natCast_add _ _).symm | exact (Int.natCast_add _ 1).symm)
local macro_rules | `(tactic| walk_at "cond") => `(tactic| first | omega | (simp only [List.length_map]; omega) | (refine Or.inl ⟨?_, ?_⟩ <;> omega) | (refine Or.inr ⟨?_, ?_⟩ <;> omega) | (refine ⟨?_, ?_⟩ <;> omega))
local macro_rules | `(tactic| walk_at "side") => `(tactic| omega)
local macro_rules | `(tactic| walk_at "side") => `(tactic| (walk_at "len"))
local macro_rules | `(tactic| walk_at "side") => `(tactic| exact ⟨_, by assumption⟩)
local macro_rules | `(tactic| walk_at "side") => `(tactic| exact ⟨_, SqL.of (by walk_at "lk")⟩)
local macro_rules | `(tactic| walk_at "side") => `(tactic| exact ⟨_, rfl⟩)
local macro_rules | `(tactic| walk_at "side") => `(tactic| exact .inl ⟨rfl, _, SqL.of (by walk_at "lk")⟩)
local macro_rules | `(tactic| walk_at "side") => `(tactic| exact .inr (SqT.of (by walk_at "lk")))
local macro_rules | `(tactic| walk_at "side") => `(tactic| exact .inl (SqL.of (by walk_at "lk")))
local macro_rules | `(tactic| walk_at "side") => `(tactic| exact SqT.of (by walk_at "lk"))
local macro_rules | `(tactic| walk_at "side") => `(tactic| exact SqL.of (by walk_at "lk"))
local macro_rules | `(tactic| walk_at "side") => `(tactic| (walk_at "lk"))
local macro_rules | `(tactic| walk_at "side") => `(tactic| rfl)
local macro_rules | `(tactic| walk_at "go1") => `(tactic| ((with_reducible apply Or.inr); (with_reducible apply Exists.intro); (with_reducible apply And.intro); exact rfl))
local macro_rules | `(tactic| walk_at "go1") => `(tactic| ((with_reducible apply Or.inl); (with_reducible apply Exists.intro); (with_reducible apply And.intro); exact rfl))
local macro_rules | `(tactic| walk_at "go1") => `(tactic| ((with_reducible apply And.intro); walk_at "side"))
local macro_rules | `(tactic| walk_at "go1") => `(tactic| ((with_reducible apply And.intro); exact rfl))
local macro_rules | `(tactic| walk_at "go1") => `(tactic| (with_reducible apply Exists.intro))
local macro_rules | `(tactic| walk_at "go1") => `(tactic| (walk_at "proj"))
local macro_rules | `(tactic| walk_at "go1") => `(tactic| ((with_reducible apply eSFld); (walk_at "lk"); assumption; assumption; (simp only [List.length_cons, List.length_nil]; decide); (walk_at "putq")))
local macro_rules | `(tactic| walk_at "go1") => `(tactic| (with_reducible refine iNFF ?_))
local macro_rules | `(tactic| walk_at "go1") => `(tactic| (with_reducible refine iNTT ?_))
local macro_rules | `(tactic| walk_at "go1") => `(tactic| (with_reducible refine iFF ?_))
local macro_rules | `(tactic| walk_at "go1") => `(tactic| (with_reducible refine iTT ?_))
local macro_rules | `(tactic| walk_at "go1") => `(tactic| ((with_reducible apply iListT); (walk_at "num")))
local macro_rules | `(tactic| walk_at "go1") => `(tactic| ((with_reducible apply iTruL); (first | assumption | exact SqL.of (by walk_at "lk"))))
local macro_rules | `(tactic| walk_at "go1") => `(tactic| ((with_reducible apply iTruCons); exact SqL.of (by walk_at "lk")))
local macro_rules | `(tactic| walk_at "go1") => `(tactic| ((with_reducible apply iTruNil); exact SqL.of (by walk_at "lk")))
local macro_rules | `(tactic| walk_at "go1") => `(tactic| ((with_reducible apply iAppend); (walk_at "lk"); (walk_at "len")))
local macro_rules | `(tactic| walk_at "go1") => `(tactic| ((with_reducible apply iCat); (walk_at "lk"); (walk_at "lk"); (walk_at "len")))
local macro_rules | `(tactic| walk_at "go1") => `(tactic| ((with_reducible apply iSlL); (first | assumption | exact SqL.of (by walk_at "lk"))))
local macro_rules | `(tactic| walk_at "go1") => `(tactic| (with_reducible refine iYes ?_))
local macro_rules | `(tactic| walk_at "go1") => `(tactic| (with_reducible refine iForR2 ?_))
local macro_rules | `(tactic| walk_at "go1") => `(tactic| (with_reducible refine iForR1 ?_))
local macro_rules | `(tactic| walk_at "go1") => `(tactic| (with_reducible refine iForS ?_))
local macro_rules | `(tactic| walk_at "go1") => `(tactic| (with_reducible refine iForL ?_))
local macro_rules | `(tactic| walk_at "go1") => `(tactic| (with_reducible refine iLcR1 ?_))
local macro_rules | `(tactic| walk_at "go1") => `(tactic| (with_reducible refine iLcS ?_))
local macro_rules | `(tactic| walk_at "go1") => `(tactic| (with_reducible refine iLcL ?_))
local macro_rules | `(tactic| walk_at "go1") => `(tactic| ((with_reducible apply iNInL); (walk_at "sq"); (walk_at "mapq")))
local macro_rules | `(tactic| walk_at "go1") => `(tactic| ((with_reducible apply iInL); (walk_at "sq"); (walk_at "mapq")))
local macro_rules | `(tactic| walk_at "go1") => `(tactic| (with_reducible refine iWF ?_))
local macro_rules | `(tactic| walk_at "go1") => `(tactic| (with_reducible refine iWT ?_))
local macro_rules | `(tactic| walk_at "go1") => `(tactic| (with_reducible refine iMeth ?_))
local macro_rules | `(tactic| walk_at "go1") => `(tactic| (with_reducible refine iMeth0 ?_))
local macro_rules | `(tactic| walk_at "go1") => `(tactic| (with_reducible refine iProp ?_))
local macro_rules | `(tactic| walk_at "go1") => `(tactic| (with_reducible refine iCon ?_))
local macro_rules | `(tactic| walk_at "go1") => `(tactic| (with_reducible refine iSFld ?_))
local macro_rules | `(tactic| walk_at "go1") => `(tactic| (with_reducible refine iFld ?_))
local macro_rules | `(tactic| walk_at "go1") => `(tactic| (with_reducible refine isi_bl_str ?_))
local macro_rules | `(tactic| walk_at "go1") => `(tactic| (with_reducible refine isi_bl_int ?_))
local macro_rules | `(tactic| walk_at "go1") => `(tactic| (with_reducible refine isi_bl_bool ?_))
local macro_rules | `(tactic| walk_at "go1") => `(tactic| (with_reducible refine isi_str_bool ?_))
local macro_rules | `(tactic| walk_at "go1") => `(tactic| (with_reducible refine isi_str_int ?_))
local macro_rules | `(tactic| walk_at "go1") => `(tactic| (with_reducible refine isi_str_str ?_))
local macro_rules | `(tactic| walk_at "go1") => `(tactic| (with_reducible refine isi_int_str ?_))
local macro_rules | `(tactic| walk_at "go1") => `(tactic| (with_reducible refine isi_int_bool ?_))
local macro_rules | `(tactic| walk_at "go1") => `(tactic| (with_reducible refine isi_int_int ?_))
local macro_rules | `(tactic| walk_at "go1") => `(tactic| (with_reducible refine iLst ?_))
local macro_rules | `(tactic| walk_at "go1") => `(tactic| (with_reducible refine iTup ?_))
local macro_rules | `(tactic| walk_at "go1") => `(tactic| (with_reducible refine iPart ?_))
local macro_rules | `(tactic| walk_at "go1") => `(tactic| (with_reducible refine iNoPart ?_))
local macro_rules | `(tactic| walk_at "go1") => `(tactic| ((with_reducible apply iSetL); (walk_at "lk"); exact rfl; (walk_at "setq")))
local macro_rules | `(tactic| walk_at "go1") => `(tactic| ((with_reducible apply iPartS); walk_at "num"))
local macro_rules | `(tactic| walk_at "go1") => `(tactic| (with_reducible refine iStartS ?_))
local macro_rules | `(tactic| walk_at "go1") => `(tactic| (with_reducible refine iFindS ?_))
local macro_rules | `(tactic| walk_at "go1") => `(tactic| ((with_reducible apply iFindNo); assumption))
local macro_rules | `(tactic| walk_at "go1") => `(tactic| ((with_reducible apply iFindYes); assumption))
local macro_rules | `(tactic| walk_at "go1") => `(tactic| (with_reducible refine iNotInS ?_))
local macro_rules | `(tactic| walk_at "go1") => `(tactic| (with_reducible refine iInS ?_))
local macro_rules | `(tactic| walk_at "go1") => `(tactic| ((with_reducible apply iLenS1); walk_at "num"))
local macro_rules | `(tactic| walk_at "go1") => `(tactic| ((with_reducible apply iAddS); walk_at "num"))
local macro_rules | `(tactic| walk_at "go1") => `(tactic| ((with_reducible apply iSlS); walk_at "num"))
local macro_rules | `(tactic| walk_at "go1") => `(tactic| ((with_reducible apply iSlMid); walk_at "num"; walk_at "toN"; walk_at "toN"))
local macro_rules | `(tactic| walk_at "go1") => `(tactic| ((with_reducible apply iSlFrom); walk_at "num"; walk_at "toN"))
local macro_rules | `(tactic| walk_at "go1") => `(tactic| ((with_reducible apply iSlTo); walk_at "num"; walk_at "toN"))
local macro_rules | `(tactic| walk_at "go1") => `(tactic| ((with_reducible apply iIxS); walk_at "num"; walk_at "ix"))
local macro_rules | `(tactic| walk_at "go1") => `(tactic| ((with_reducible apply iIxT); exact SqT.of (by walk_at "lk"); walk_at "ix"))
local macro_rules | `(tactic| walk_at "go1") => `(tactic| ((with_reducible apply iIxL); exact SqL.of (by walk_at "lk"); walk_at "ix"))
local macro_rules | `(tactic| walk_at "go1") => `(tactic| (with_reducible refine iSl ?_))
local macro_rules | `(tactic| walk_at "go1") => `(tactic| (with_reducible refine iBM ?_))
local macro_rules | `(tactic| walk_at "go1") => `(tactic| (with_reducible refine iM1 ?_))
local macro_rules | `(tactic| walk_at "go1") => `(tactic| ((with_reducible apply iI); walk_at "cond"))
local macro_rules | `(tactic| walk_at "go1") => `(tactic| ((with_reducible apply iNe); exact rfl))
local macro_rules | `(tactic| walk_at "go1") => `(tactic| ((with_reducible apply iEq); exact rfl))
local macro_rules | `(tactic| walk_at "go1") => `(tactic| (with_reducible refine iNext ?_))
local macro_rules | `(tactic| walk_at "go1") => `(tactic| (with_reducible refine iDrop ?_))
local macro_rules | `(tactic| walk_at "go1") => `(tactic| (with_reducible refine iRetN ?_))
local macro_rules | `(tactic| walk_at "go1") => `(tactic| (with_reducible refine iRet ?_))
local macro_rules | `(tactic| walk_at "go1") => `(tactic| (with_reducible refine iIfE ?_))
local macro_rules | `(tactic| walk_at "go1") => `(tactic| (with_reducible refine iNotV ?_))
local macro_rules | `(tactic| walk_at "go1") => `(tactic| (with_reducible refine iOrV ?_))
local macro_rules | `(tactic| walk_at "go1") => `(tactic| (with_reducible refine iAndV ?_))
local macro_rules | `(tactic| walk_at "go1") => `(tactic| (with_reducible refine iNot ?_))
local macro_rules | `(tactic| walk_at "go1") => `(tactic| (with_reducible refine iOr ?_))
local macro_rules | `(tactic| walk_at "go1") => `(tactic| (with_reducible refine iAnd ?_))
local macro_rules | `(tactic| walk_at "go1") => `(tactic| (with_reducible refine iTest ?_))
local macro_rules | `(tactic| walk_at "go1") => `(tactic| (with_reducible refine iB ?_))
local macro_rules | `(tactic| walk_at "go1") => `(tactic| (with_reducible refine iIfS ?_))
local macro_rules | `(tactic| walk_at "go1") => `(tactic| (with_reducible refine iUn ?_))
local macro_rules | `(tactic| walk_at "go1") => `(tactic| (with_reducible refine iU ?_))
local macro_rules | `(tactic| walk_at "go1") => `(tactic| (with_reducible refine iI0 ?_))
local macro_rules | `(tactic| walk_at "go1") => `(tactic| (with_reducible refine iCall ?_))
local macro_rules | `(tactic| walk_at "go1") => `(tactic| (with_reducible refine iCall0 ?_))
local macro_rules | `(tactic| walk_at "go1") => `(tactic| (with_reducible refine iCB ?_))
local macro_rules | `(tactic| walk_at "go1") => `(tactic| (with_reducible refine iNil ?_))
local macro_rules | `(tactic| walk_at "go1") => `(tactic| (with_reducible refine iCons ?_))
local macro_rules | `(tactic| walk_at "go1") => `(tactic| (with_reducible refine iSub ?_))
local macro_rules | `(tactic| walk_at "go1") => `(tactic| (with_reducible refine iName ?_))
local macro_rules | `(tactic| walk_at "go1") => `(tactic| (with_reducible refine iAsg ?_))
local macro_rules | `(tactic| walk_at "go1") => `(tactic| (with_reducible refine iOp ?_))
local macro_rules | `(tactic| walk_at "go1") => `(tactic| (with_reducible refine iC ?_))
local macro_rules | `(tactic| walk_at "go1") => `(tactic| ((with_reducible apply iVar); exact rfl))
local macro_rules | `(tactic| walk_at "go1") => `(tactic| (with_reducible refine iSeq ?_))
local macro_rules | `(tactic| walk_at "fr") => `(tactic| (refine Fr.trans ?_ (Fr.wk (Fr.wk (by assumption))); walk_at "fr"))
local macro_rules | `(tactic| walk_at "fr") => `(tactic| (refine Fr.trans ?_ (Fr.wk1 (by assumption)); walk_at "fr"))
local macro_rules | `(tactic| walk_at "fr") => `(tactic| (refine Fr.trans ?_ (Fr.wk (by assumption)); walk_at "fr"))
local macro_rules | `(tactic| walk_at "fr") => `(tactic| (refine Fr.trans ?_ (by assumption); walk_at "fr"))
local macro_rules | `(tactic| walk_at "fr") => `(tactic| (refine Fr.trans ?_ (Fr.of_same (by assumption)); walk_at "fr"))
local macro_rules | `(tactic| walk_at "fr") => `(tactic| (refine Fr.trans ?_ (Fr.upd_new (by assumption)); walk_at "fr"))
local macro_rules | `(tactic| walk_at "fr") => `(tactic| (refine Fr.trans ?_ Fr.in2; walk_at "fr"))
local macro_rules | `(tactic| walk_at "fr") => `(tactic| (refine Fr.trans ?_ Fr.in1; walk_at "fr"))
local macro_rules | `(tactic| walk_at "fr") => `(tactic| (refine Fr.trans ?_ Fr.in0; walk_at "fr"))
local macro_rules | `(tactic| walk_at "fr") => `(tactic| assumption)
local macro_rules | `(tactic| walk_at "fr") => `(tactic| exact Fr.refl _ _)
local macro_rules | `(tactic| walk_at "proj") => `(tactic| (with_reducible refine (show (Ends.mk _ _ _ _).rt _ _ from ?_); dsimp only))
local macro_rules | `(tactic| walk_at "proj") => `(tactic| (with_reducible refine (show (Ends.mk _ _ _ _).nx _ _ from ?_); dsimp only))
local macro_rules | `(tactic| walk_at "br0") => `(tactic| (with_reducible apply iWDN))
local macro_rules | `(tactic| walk_at "br0") => `(tactic| (with_reducible apply iWD))
local macro_rules | `(tactic| walk_at "br0") => `(tactic| (with_reducible apply iBbn))
local macro_rules | `(tactic| walk_at "br0") => `(tactic| (with_reducible apply iBb))
local macro_rules | `(tactic| walk_at "br0") => `(tactic| (with_reducible apply iBnd))
local macro_rules | `(tactic| walk_at "br0") => `(tactic| (with_reducible apply iBd))
local macro_rules | `(tactic| walk_at "dead") => `(tactic| first | (exfalso; omega) | contradiction)
local macro_rules | `(tactic| walk_at "br") => `(tactic| (walk_at "br0" <;> (intro hbr; (try simp only [V.str.injEq, V.int.injEq, V.bl.injEq, Vk.S_inj, reduceCtorEq, List.cons.injEq, and_true, not_true_eq_false, not_false_eq_true, decide_eq_true_eq, decide_eq_false_iff_not, Nat.reduceEqDiff, List.length_cons, List.length_nil, and_false, false_and, eq_self] at hbr); (try walk_at "dead"))))
local macro_rules | `(tactic| walk_at "new") => `(tactic| (refine fun (p : Addr) (hp : _ = none) => ?_))
local macro_rules | `(tactic| walk_at "go") => `(tactic| repeat' (first | walk_at "go1" | walk_at "br" | walk_at "new" | (refine fun (y z : V) => ?_)))
section
set_option Elab.async false
set_option linter.all false
set_option maxRecDepth 100000
set_option maxHeartbeats 8000000
open PySem PySem.Spec PyProof.Rows L2

def kStrD31_0 : List Nat := [97, 98, 99, 100, 101, 102, 103, 104, 105, 106, 107, 108, 109, 110, 111, 112, 113, 114, 115, 116, 117, 118, 119, 120, 121, 122]
theorem kStrD31_0_eq : PySem.Str.ofString "abcdefghijklmnopqrstuvwxyz" = S kStrD31_0 := by decide +kernel
def kStrD31_1 : List Nat := [111, 112, 101, 110, 105, 110, 103]
theorem kStrD31_1_eq : PySem.Str.ofString "opening" = S kStrD31_1 := by decide +kernel
def kStrD31_2 : List Nat := [105, 110, 110, 101, 114]
theorem kStrD31_2_eq : PySem.Str.ofString "inner" = S kStrD31_2 := by decide +kernel
structure EnI (H0 : Hp) (b g u : Addr) (ps : List (Addr × Row)) (rw : Addr) (H : Hp) (r : Row) : Prop where
  hB : BoxB H b g
  k : Kp2 b g H0 H
  hR : RowsAt H u ps
  hrw : H rw = some (.lst r.vs)
  hr : r.ok
  n1 : H0 rw = none
  nb : rw ≠ b ∧ rw ≠ g ∧ u ≠ rw
  ub : u ≠ b ∧ u ≠ g
theorem EnI.asg {H0 : Hp} {b g u : Addr} {ps : List (Addr × Row)} {rw : Addr} {H : Hp} {r : Row} (h : EnI H0 b g u ps rw H r) {j : Nat} {t : List Nat} (hj : j ≤ 3) (ht : Tx t) :
    EnI H0 b g u ps rw (upd H rw (.lst (r.vs.set j (.str (S t))))) (r.put j t) := by
  have nt : ∀ {x : Addr} {xs : List V}, H x = some (.tup xs) → x ≠ rw := fun {x xs} hx z => by
    rw [z, h.hrw] at hx
    cases hx
  refine ⟨?_, ?_, ⟨?_, fun q hq => ?_⟩, ?_, put_ok h.hr ht, h.n1, h.nb, h.ub⟩
  · obtain ⟨x, mm, sd, gs, h1, h2, h3⟩ := h.hB
    exact ⟨x, mm, sd, gs, by rw [upd_ne h.nb.1.symm]; exact h1, by rw [upd_ne h.nb.2.1.symm]; exact h2, h3⟩
  · intro c o2 h1 h2 h3
    have hne : c ≠ rw := ne_of_none h3 h.n1
    rw [upd_ne hne]
    exact h.k c o2 h1 h2 h3
  · rw [upd_ne h.nb.2.2]
    exact h.hR.1
  · obtain ⟨h1, h2⟩ := h.hR.2 q hq
    exact ⟨by rw [upd_ne (nt h1)]; exact h1, h2⟩
  · rw [upd_same, put_vs r t hj]
theorem EnI.draw {H0 : Hp} {b g u : Addr} {ps : List (Addr × Row)} {rw : Addr} {H H' : Hp} {r : Row} (h : EnI H0 b g u ps rw H r) (hB : BoxB H' b g) (k : Kp2 b g H H') : EnI H0 b g u ps rw H' r :=
  ⟨hB, h.k.trans k, h.hR.kp h.hB h.ub k, k _ _ h.nb.1 h.nb.2.1 h.hrw, h.hr, h.n1, h.nb, h.ub⟩
theorem EnI.same {H0 : Hp} {b g u : Addr} {ps : List (Addr × Row)} {rw : Addr} {H H' : Hp} {r : Row} (h : EnI H0 b g u ps rw H r) (s : Same H H') : EnI H0 b g u ps rw H' r := h.draw (h.hB.same s) (Same.kp2 s b g)
theorem az_k0 : kStrD31_0 = azL := by decide +kernel
def stE (b : Addr) (sg : List Nat) (u : Addr) (n : Nat) (m : Nat) (pl : List Nat) (rw : Addr) (part : Nat) (v9 : Option V) : L2.St := [some (.ref b), some (.str (S sg)), some (.ref u), some (.int (n : Int)), some (.str (S azL)), some (.int (m : Int)), some (.str (S pl)), some (.ref rw), some (.int (part : Int)), v9]
def tE5 : TS := fun D σ H => ∃ (H0 : Hp) (b g : Addr) (sg : List Nat) (u : Addr) (ps : List (Addr × Row)) (n m : Nat) (pl : List Nat) (rw : Addr) (part : Nat) (v9 : Option V) (r : Row), σ = stE b sg u n m pl rw part v9 ∧ part ≤ 3 ∧ ps.length ≤ 20 ∧ EnI H0 b g u ps rw H r ∧
  ∀ part' v9' r' H', part' ≤ 3 → EnI H0 b g u ps rw H' r' → D.nx (stE b sg u n m pl rw part' v9') H'
def tE6 : TS := fun D σ H => ∃ (H0 : Hp) (b g : Addr) (sg : List Nat) (u : Addr) (ps : List (Addr × Row)) (n m : Nat) (pl : List Nat) (rw : Addr) (part : Nat) (v9 : Option V) (r : Row), σ = stE b sg u n m pl rw part v9 ∧ part ≤ 3 ∧ 1 ≤ sg.length ∧ sg.length ≤ 100 ∧ WideOk sg ∧ 32 ∉ sg ∧ EnI H0 b g u ps rw H r ∧
  ∀ r' H', EnI H0 b g u ps rw H' r' → D.nx (stE b sg u n m pl rw part v9) H'
section
variable {P : Program} {w : World} {K : PySem.W.Frag} {mg : Str → Option Value} {base : Heap} {a : Ad} {d : Fd}
def spEntry : Sp := fun vs H Q _ => ∃ (b g : Addr) (sg : List Nat) (u : Addr) (ps : List (Addr × Row)) (n : Nat), vs = [.ref b, .str (S sg), .ref u, .int (n : Int)] ∧ BoxB H b g ∧ 1 ≤ sg.length ∧ sg.length ≤ 100 ∧ WideOk sg ∧ 32 ∉ sg ∧ RowsAt H u ps ∧ (u ≠ b ∧ u ≠ g) ∧ ps.length ≤ 20 ∧
  ∀ (x : Addr) (e : Row) (H' : Hp), H' x = some (.tup e.vs) → e.ok → BoxB H' b g → Kp2 b g H H' → Q (.ref x) H'
theorem scEntry : FnScope ["_law_box_here", "_law_signs", "_law_rows_here", "_law_way", "_law_lowers", "_law_most", "_law_place", "_law_entry_here", "_law_part", "_law_other"] ["_law_box_here", "_law_signs", "_law_rows_here", "_law_way"] (defScope sEntry) := ⟨rfl, rfl, rfl, by decide +kernel, rfl, by decide +kernel, by decide +kernel⟩
theorem ok_entry (T : Fns K mg a d) : FnOk P w K mg base CX0 3 a.aEntry d.dEntry ["_law_box_here", "_law_signs", "_law_rows_here", "_law_way"] spEntry := by
  have GDraw : FnOk P w K mg base CX0 1 a.aDraw d.dDraw ["_law_box_here", "_law_many"] spDraw := gDraw T
  have GWord : FnOk P w K mg base CX0 2 a.aWord d.dWord ["_law_box_here", "_law_signs", "_law_most", "_law_shift"] spWord := ok_word T
  have GOdd : FnOk P w K mg base CX0 2 a.aOdd d.dOdd ["_law_box_here", "_law_word_here", "_law_signs", "_law_most"] spOdd := ok_odd T
  refine T.FEntry.ok scEntry (fun vs H Q E h => ?_) (fun cdv A outer s H vs Q E hr h => ?_)
  · obtain ⟨b, g, sg, u, ps, n, rfl, _⟩ := h
    rfl
  · obtain ⟨b, g, sg, u, ps, n, rfl, hB, hs1, hs2, hsw, h32, hR, hub, hps, k⟩ := h
    refine ⟨_, ((pss_cons (ps_set (i := 4) scEntry.nd rfl (Or.inl rfl) (pe_strS (l := kStrD31_0) kStrD31_0_eq))
      (pss_cons (ps_set (i := 5) scEntry.nd rfl (Or.inl rfl) (pe_ix (r := rIxL K) ix_list (pe_lst (pa_cons pe_int (pa_cons pe_int pa_nil))) (pe_call GDraw (hr.mono (by decide)) (by rfl) T.gDraw T.FDraw.kp T.bDraw .nil pass0 (pa_cons (pv 0) (pa_cons pe_int pa_nil))) (fun _ _ => rfl)))
      (pss_cons (ps_set (i := 6) scEntry.nd rfl (Or.inl rfl) (pe_ix (r := rIxL K) ix_list (pe_lst (pa_cons (pe_strS (l := [97, 110, 121]) (by decide +kernel)) (pa_cons (pe_strS (l := kStrD31_2) kStrD31_2_eq) (pa_cons (pe_strS (l := kStrD31_1) kStrD31_1_eq) pa_nil)))) (pe_call GDraw (hr.mono (by decide)) (by rfl) T.gDraw T.FDraw.kp T.bDraw .nil pass0 (pa_cons (pv 0) (pa_cons pe_int pa_nil))) (fun _ _ => rfl)))
      (pss_cons (ps_set (i := 7) scEntry.nd rfl (Or.inl rfl) (pe_lst (pa_cons (pe_call GWord (hr.mono (by decide)) (by rfl) T.gWord T.FWord.kp T.bWord .nil pass0 (pa_cons (pv 0) (pa_cons (pv 4) (pa_cons pe_int (pa_cons pe_int pa_nil))))) (pa_cons (pe_call GWord (hr.mono (by decide)) (by rfl) T.gWord T.FWord.kp T.bWord .nil pass0 (pa_cons (pv 0) (pa_cons (pv 1) (pa_cons (pv 5) (pa_cons pe_int pa_nil))))) (pa_cons (pe_call GWord (hr.mono (by decide)) (by rfl) T.gWord T.FWord.kp T.bWord .nil pass0 (pa_cons (pv 0) (pa_cons (pv 1) (pa_cons (pv 5) (pa_cons pe_int pa_nil))))) (pa_cons (pv 6) pa_nil))))))
      (pss_cons (ps_set (i := 8) scEntry.nd rfl (Or.inl rfl) (pe_call GDraw (hr.mono (by decide)) (by rfl) T.gDraw T.FDraw.kp T.bDraw .nil pass0 (pa_cons (pv 0) (pa_cons pe_int pa_nil))))
      (pss_cons (PS.imp (t' := tE5) (ps_if (PW.pt (pw_and (pt_cmpR op_eq (pv 3) pe_int (nomark _)) (pw_and1 (pt_cmpR (op_neD hr.units) (pv 2) (pe_lst pa_nil) (nomark _))))) (pss_cons (ps_set (i := 9) scEntry.nd rfl (Or.inl rfl) (pe_ix (r := rIxL K) ix_list (pv 2) (pe_call GDraw (hr.mono (by decide)) (by rfl) T.gDraw T.FDraw.kp T.bDraw .nil pass0 (pa_cons (pv 0) (pa_cons (pe_callB call_len_seq (by rfl) T.z_len (by decide +kernel) (pa_cons (pv 2) pa_nil)) pa_nil))) (fun _ _ => rfl)))
      (pss_cons (ps_set (i := 8) scEntry.nd rfl (Or.inl rfl) (pe_ix (r := rIxL K) ix_list (pe_lst (pa_cons pe_int (pa_cons pe_int (pa_cons pe_int (pa_cons pe_int pa_nil))))) (pv 8) (fun _ _ => rfl)))
      (pss_cons (ps_asg (pe_ix (r := rIxT K) ix_tup (pv 9) (pv 8) (fun _ _ => rfl)) (pg_sub (pv 7) (pv 8) set_list))
      (pss_one (ps_if (pt_cmpR op_eq (pe_call GDraw (hr.mono (by decide)) (by rfl) T.gDraw T.FDraw.kp T.bDraw .nil pass0 (pa_cons (pv 0) (pa_cons pe_int pa_nil))) pe_int (nomark _)) (pss_one (ps_asg (pe_ix (r := rIxT K) ix_tup (pv 9) pe_int (fun _ _ => rfl)) (pg_sub (pv 7) pe_int set_list))) pss_nil))))) pss_nil) ?h5)
      (pss_cons (PS.imp (t' := tE6) (ps_if (pt_cmpR op_eq (pv 3) pe_int (nomark _)) (pss_one (ps_asg (pe_call GOdd (hr.mono (by decide)) (by rfl) T.gOdd T.FOdd.kp T.bOdd .nil pass0 (pa_cons (pv 0) (pa_cons (pe_ix (r := rIxL K) ix_list (pv 7) (pv 8) (fun _ _ => rfl)) (pa_cons (pe_ix (r := rIxL K) ix_list (pe_lst (pa_cons (pv 4) (pa_cons (pv 1) (pa_cons (pv 1) (pa_cons (pv 4) pa_nil))))) (pv 8) (fun _ _ => rfl)) (pa_cons (pe_ix (r := rIxL K) ix_list (pe_lst (pa_cons pe_int (pa_cons pe_int (pa_cons pe_int (pa_cons pe_int pa_nil))))) (pv 8) (fun _ _ => rfl)) pa_nil))))) (pg_sub (pv 7) (pv 8) set_list))) pss_nil) ?h6)
      (pss_one (ps_ret (pe_callTy call_tuple_of (by rfl) T.z_tuple (by decide +kernel) (pa_cons (pv 7) pa_nil)))))))))))), ?_⟩
    case h5 =>
      rintro ⟨D1, D2, D3, D4⟩ σ H ⟨H0, b, g, sg, u, ps, n, m, pl, rw, part, v9, r, rfl, hp3, hps, I, kk⟩
      walk_at "go"
      · rename_i hw1 p hp
        have s1 : Same H (upd H p (.lst [])) := upd_laid hp
        have I1 := I.same s1
        refine ⟨.list (ps.map fun q => q.2.py), .list [], .lst (SqL.of I1.hR.1) (dp_rows ps fun q hq => (I1.hR.2 q hq).1), .lst (SqL.of upd_same) .nil, shaped_rows (fun q hq => (I1.hR.2 q hq).2), shaped_nil, ?_⟩
        rw [eqv_nil]
        generalize upd H p (.lst []) = H1 at I1
        refine ⟨_, rfl, ite2 (fun h => ?_) (fun h => ?_)⟩
        case refine_2 => exact kk _ _ _ _ hp3 I1
        have hpos : 1 ≤ ps.length := by
          cases ps with
          | nil => cases h
          | cons x r => exact Nat.succ_le_succ (Nat.zero_le _)
        have hR1 := I1.hR.1
        walk_at "go"
        refine ⟨b, g, _, rfl, I1.hB, by rw [List.length_map]; omega, fun r1 H2 hr1 hB2 hk2 => ?_⟩
        have I2 := I1.draw hB2 hk2
        rw [List.length_map] at hr1
        have hr1' : r1 < ps.length := by omega
        obtain ⟨qo, hqo, hato⟩ : ∃ q ∈ ps, (ps.map fun q => V.ref q.1)[r1]? = some (V.ref q.1) := ⟨ps[r1], List.getElem_mem hr1', by rw [List.getElem?_map, List.getElem?_eq_getElem hr1']; rfl⟩
        obtain ⟨j, hj, hj3⟩ : ∃ j : Nat, ([V.int 1, V.int 2, V.int 0, V.int 1] : List V)[part]? = some (V.int (j : Int)) ∧ j ≤ 3 := by
          match part, hp3 with
          | 0, _ => exact ⟨1, rfl, by decide⟩
          | 1, _ => exact ⟨2, rfl, by decide⟩
          | 2, _ => exact ⟨0, rfl, by decide⟩
          | 3, _ => exact ⟨1, rfl, by decide⟩
        have hR2 := I2.hR.1
        obtain ⟨hqt, hqok⟩ := I2.hR.2 qo hqo
        obtain ⟨t, hat, ht⟩ := vs_at hqok hj3
        obtain ⟨t3, hat3, ht3⟩ := vs_at hqok (j := 3) (by decide)
        walk_at "go"
        rename_i L hL
        have s3 : Same H2 (upd H2 L (.lst [V.int 1, V.int 2, V.int 0, V.int 1])) := upd_laid hL
        have I3 := I2.same s3
        have hqt3 := s3 _ _ hqt
        generalize upd H2 L (.lst [V.int 1, V.int 2, V.int 0, V.int 1]) = H3 at I3 hqt3
        refine ⟨rw, _, _, j, rfl, rfl, I3.hrw, ixN_w (n := 4) (by omega), ?_⟩
        have I4 := I3.asg hj3 ht
        have hqt4 : (upd H3 rw (.lst (r.vs.set j (.str (S t))))) qo.1 = some (.tup qo.2.vs) := by
          rw [upd_ne (fun z => by rw [z, I3.hrw] at hqt3; cases hqt3)]
          exact hqt3
        generalize upd H3 rw (.lst (r.vs.set j (.str (S t)))) = H4 at I4 hqt4
        walk_at "go"
        refine ⟨b, g, _, rfl, I4.hB, by decide, fun r5 H5 hr5 hB5 hk5 => ?_⟩
        have I5 := I4.draw hB5 hk5
        have hqt5 := hk5 _ _ (tup_box I4.hB hqt4).1 (tup_box I4.hB hqt4).2 hqt4
        walk_at "go"
        · refine ⟨rw, _, _, 3, rfl, rfl, I5.hrw, rfl, ?_⟩
          exact kk _ _ _ _ hj3 (I5.asg (j := 3) (by decide) hqok.2.2.2)
        · exact kk _ _ _ _ hj3 I5
      · exact kk _ _ _ _ hp3 I
    case h6 =>
      rintro ⟨D1, D2, D3, D4⟩ σ H ⟨H0, b, g, sg, u, ps, n, m, pl, rw, part, v9, r, rfl, hp3, hs1, hs2, hsw, h32, I, kk⟩
      obtain ⟨t, hat, ht⟩ := vs_at I.hr hp3
      obtain ⟨sg', hsg, g1, g2, g3, g4⟩ : ∃ sg' : List Nat, ([V.str (S azL), V.str (S sg), V.str (S sg), V.str (S azL)] : List V)[part]? = some (V.str (S sg')) ∧ 1 ≤ sg'.length ∧ sg'.length ≤ 100 ∧ WideOk sg' ∧ 32 ∉ sg' := by
        match part, hp3 with
        | 0, _ => exact ⟨azL, rfl, by decide +kernel, by decide +kernel, azw, az32⟩
        | 1, _ => exact ⟨sg, rfl, hs1, hs2, hsw, h32⟩
        | 2, _ => exact ⟨sg, rfl, hs1, hs2, hsw, h32⟩
        | 3, _ => exact ⟨azL, rfl, by decide +kernel, by decide +kernel, azw, az32⟩
      obtain ⟨m', hm, g5, g6⟩ : ∃ m' : Nat, ([V.int 8, V.int 6, V.int 6, V.int 7] : List V)[part]? = some (V.int (m' : Int)) ∧ 1 ≤ m' ∧ m' ≤ 8 := by
        match part, hp3 with
        | 0, _ => exact ⟨8, rfl, by decide, by decide⟩
        | 1, _ => exact ⟨6, rfl, by decide, by decide⟩
        | 2, _ => exact ⟨6, rfl, by decide, by decide⟩
        | 3, _ => exact ⟨7, rfl, by decide, by decide⟩
      have hrw := I.hrw
      walk_at "go"
      · rename_i hw2 L1 hL1 L2 hL2
        have s1 : Same H (upd H L1 (.lst [V.str (S azL), V.str (S sg), V.str (S sg), V.str (S azL)])) := upd_laid hL1
        have I1 := I.same s1
        generalize upd H L1 (.lst [V.str (S azL), V.str (S sg), V.str (S sg), V.str (S azL)]) = H1 at I1 hL2
        have s2 : Same H1 (upd H1 L2 (.lst [V.int 8, V.int 6, V.int 6, V.int 7])) := upd_laid hL2
        have I2 := I1.same s2
        generalize upd H1 L2 (.lst [V.int 8, V.int 6, V.int 6, V.int 7]) = H2 at I2
        refine ⟨b, g, t, sg', m', rfl, I2.hB, ht, g1, g2, g3, g4, g5, g6, fun t2 H3 ht2 hB3 hk3 => ?_⟩
        have I3 := I2.draw hB3 hk3
        walk_at "go"
        refine ⟨rw, _, _, part, rfl, rfl, I3.hrw, ixN_w (n := 4) (by omega), ?_⟩
        exact kk _ _ (I3.asg hp3 ht2)
      · exact kk _ _ I
    walk_at "go"
    rename_i L1 hL1
    have off : ∀ {H : Hp} {p : Addr}, BoxB H b g → H p = none → p ≠ b ∧ p ≠ g := fun {H p} hB hp => by
      obtain ⟨⟨ob, hob⟩, ⟨og, hog⟩⟩ := hB.al
      exact ⟨(ne_of_none hob hp).symm, (ne_of_none hog hp).symm⟩
    have n1 := off hB hL1
    have s1 : Same H (upd H L1 (.lst [V.int 2, V.int 6])) := upd_laid hL1
    have hB1 := hB.same s1
    have k1 := Same.kp2 s1 b g
    have hL1' : (upd H L1 (.lst [V.int 2, V.int 6])) L1 = some (.lst [V.int 2, V.int 6]) := upd_same
    have hR1 := hR.same s1
    generalize upd H L1 (.lst [V.int 2, V.int 6]) = H1 at hB1 k1 hL1' hR1
    refine ⟨b, g, _, rfl, hB1, by decide, fun r1 H2 hr1 hB2 hk2 => ?_⟩
    have hL2 := hk2 _ _ n1.1 n1.2 hL1'
    have hR2 := hR1.kp hB1 hub hk2
    have k2 := k1.trans hk2
    obtain ⟨m, hm, hm1, hm2⟩ : ∃ m : Nat, ([V.int 2, V.int 6] : List V)[r1]? = some (V.int (m : Int)) ∧ 1 ≤ m ∧ m ≤ 6 := by
      match r1, (by omega : r1 < 2) with
      | 0, _ => exact ⟨2, rfl, by decide, by decide⟩
      | 1, _ => exact ⟨6, rfl, by decide, by decide⟩
    walk_at "go"
    rename_i L3 hL3
    have n3 := off hB2 hL3
    have s3 : Same H2 (upd H2 L3 (.lst [V.str (S [97, 110, 121]), V.str (S kStrD31_2), V.str (S kStrD31_1)])) := upd_laid hL3
    have hB3 := hB2.same s3
    have k3 := k2.trans (Same.kp2 s3 b g)
    have hL3' : (upd H2 L3 (.lst [V.str (S [97, 110, 121]), V.str (S kStrD31_2), V.str (S kStrD31_1)])) L3 = some (.lst [V.str (S [97, 110, 121]), V.str (S kStrD31_2), V.str (S kStrD31_1)]) := upd_same
    have hR3 := hR2.same s3
    generalize upd H2 L3 (.lst [V.str (S [97, 110, 121]), V.str (S kStrD31_2), V.str (S kStrD31_1)]) = H3 at hB3 k3 hL3' hR3
    refine ⟨b, g, _, rfl, hB3, by decide, fun r2 H4 hr2 hB4 hk4 => ?_⟩
    have hL4 := hk4 _ _ n3.1 n3.2 hL3'
    have hR4 := hR3.kp hB3 hub hk4
    have k4 := k3.trans hk4
    obtain ⟨pl, hpl, hplx⟩ : ∃ pl : List Nat, ([V.str (S [97, 110, 121]), V.str (S kStrD31_2), V.str (S kStrD31_1)] : List V)[r2]? = some (V.str (S pl)) ∧ Tx pl := by
      match r2, (by omega : r2 < 3) with
      | 0, _ => exact ⟨_, rfl, by decide, by decide⟩
      | 1, _ => exact ⟨_, rfl, by decide, by decide⟩
      | 2, _ => exact ⟨_, rfl, by decide, by decide⟩
    walk_at "go"
    refine ⟨b, g, kStrD31_0, 8, 2, rfl, hB4, by decide, by decide, by decide, by decide, by decide, fun w1 H5 a1 a2 a3 hB5 hk5 => ?_⟩
    have hR5 := hR4.kp hB4 hub hk5
    have k5 := k4.trans hk5
    walk_at "go"
    refine ⟨b, g, sg, m, 1, rfl, hB5, hs1, hs2, by omega, by omega, by decide, fun w2 H6 c1 c2 c3 hB6 hk6 => ?_⟩
    have hR6 := hR5.kp hB5 hub hk6
    have k6 := k5.trans hk6
    walk_at "go"
    refine ⟨b, g, sg, m, 0, rfl, hB6, hs1, hs2, by omega, by omega, by decide, fun w3 H7 d1 d2 d3 hB7 hk7 => ?_⟩
    have hR7 := hR6.kp hB6 hub hk7
    have k7 := k6.trans hk7
    walk_at "go"
    rename_i rw hrw
    have n7 := off hB7 hrw
    have hn0 : H rw = none := by
      cases hz : H rw with
      | none => rfl
      | some o =>
        have := k7 _ _ n7.1 n7.2 hz
        rw [hrw] at this
        cases this
    have az3 : ∀ c ∈ kStrD31_0, c < 0x110000 := by decide
    have hr : Row.ok ⟨w1, w2, w3, pl⟩ := ⟨(⟨by omega, fun c hc => az3 c (a3 c hc)⟩ : Tx w1), (⟨by omega, fun c hc => hsw c (c3 c hc)⟩ : Tx w2), (⟨by omega, fun c hc => hsw c (d3 c hc)⟩ : Tx w3), hplx⟩
    have s7 : Same H7 (upd H7 rw (.lst [V.str (S w1), V.str (S w2), V.str (S w3), V.str (S pl)])) := upd_laid hrw
    have I7 : EnI H b g u ps rw (upd H7 rw (.lst [V.str (S w1), V.str (S w2), V.str (S w3), V.str (S pl)])) ⟨w1, w2, w3, pl⟩ :=
      ⟨hB7.same s7, k7.trans (Same.kp2 s7 b g), hR7.same s7, upd_same, hr, hn0, ⟨n7.1, n7.2, ne_of_none hR7.1 hrw⟩, hub⟩
    generalize upd H7 rw (.lst [V.str (S w1), V.str (S w2), V.str (S w3), V.str (S pl)]) = H8 at I7
    refine ⟨b, g, _, rfl, I7.hB, by decide, fun part H9 hr9 hB9 hk9 => ?_⟩
    have I9 := I7.draw hB9 hk9
    walk_at "go"
    refine ⟨H, b, g, sg, u, ps, n, m, pl, rw, part, _, _, (by rw [az_k0]; rfl), by omega, hps, I9, fun part' v9' r' H' hp' I' => ?_⟩
    walk_at "go"
    refine ⟨H, b, g, sg, u, ps, n, m, pl, rw, part', _, _, rfl, hp', hs1, hs2, hsw, h32, I', fun r2 H2 I2 => ?_⟩
    walk_at "go"
    refine .inl ⟨SqL.of I2.hrw, fun x hx => ?_⟩
    have s2 : Same H2 (upd H2 x (.tup r2.vs)) := upd_laid hx
    have I3 := I2.same s2
    walk_at "go"
    all_goals exact k x r2 _ upd_same I2.hr I3.hB I3.k
end
end
section
set_option Elab.async false
set_option linter.all false
set_option maxRecDepth 100000
set_option maxHeartbeats 8000000
open PySem PySem.Spec PyProof.Rows L2
theorem atI_end {α : Type} {xs : List α} {v : α} (h0 : 0 < xs.length) (h : xs[xs.length - 1]? = some v) : atI xs (-1) = some v := by
  unfold atI ixN
  rw [if_neg (by omega), if_pos (by omega)]
  have e : ((-1 : Int) + (xs.length : Int)).toNat = xs.length - 1 := by omega
  rw [e]
  exact h
/-- what is no list stays -/
def KeepN (H H' : Hp) : Prop := ∀ c x, (∀ xs, x ≠ .lst xs) → H c = some x → H' c = some x
theorem KeptAt.keep {CB al : Addr} {sg : List Nat} {H H' : Hp} {z : Addr} {ks : List K1} (h : KeptAt CB al sg H z ks) (fn : KeepN H H') (fz : ∀ x, H z = some x → H' z = some x)
    (fk : ∀ k ∈ ks, (∀ x, H k.x = some x → H' k.x = some x) ∧ ∀ x, H k.u = some x → H' k.u = some x) : KeptAt CB al sg H' z ks := by
  refine ⟨fz _ h.at_, fun k hk => ?_, h.ne⟩
  have h1 := h.each k hk
  obtain ⟨dx, D, b1, b2, b3⟩ := h1.book
  exact ⟨(fk k hk).1 _ h1.at_, ⟨dx, D, fn _ _ (by simp) b1, fn _ _ (by simp) b2, fun q hq => ⟨fn _ _ (by simp) (b3 q hq).1, (b3 q hq).2⟩⟩,
    ⟨(fk k hk).2 _ h1.rows.1, fun q hq => ⟨fn _ _ (by simp) (h1.rows.2 q hq).1, (h1.rows.2 q hq).2⟩⟩, h1.perm, h1.srt, h1.good, h1.len⟩
theorem RowsAt.keep {H H' : Hp} {u : Addr} {ps : List (Addr × Row)} (h : RowsAt H u ps) (fn : KeepN H H') (fu : ∀ x, H u = some x → H' u = some x) : RowsAt H' u ps :=
  ⟨fu _ h.1, fun q hq => ⟨fn _ _ (by simp) (h.2 q hq).1, (h.2 q hq).2⟩⟩
theorem IsAl.keep {C al : Addr} {H H' : Hp} {l v : List Nat} (h : IsAl C H al l v) (fn : KeepN H H') : IsAl C H' al l v := by
  obtain ⟨dx, e⟩ := h
  exact ⟨dx, fn _ _ (by simp) e⟩
structure DeI (C CB b g z o al : Addr) (l v : List Nat) (H : Hp) (ks : List K1) (os : List (Addr × Row)) : Prop where
  hB : BoxB H b g
  hK : KeptAt CB al (45 :: srtL l) H z ks
  hO : RowsAt H o os
  hA : IsAl C H al l v
  one : 1 ≤ os.length
  us : ∀ k ∈ ks, k.u ≠ b ∧ k.u ≠ g ∧ k.u ≠ o
  ne : z ≠ b ∧ z ≠ g ∧ z ≠ o ∧ o ≠ b ∧ o ≠ g
def OffD (b g z o : Addr) (H H' : Hp) : Prop := ∀ c x, c ≠ b → c ≠ g → c ≠ z → c ≠ o → H c = some x → H' c = some x
theorem OffD.trans {b g z o : Addr} {H H1 H2 : Hp} (x : OffD b g z o H H1) (y : OffD b g z o H1 H2) : OffD b g z o H H2 := fun c u h1 h2 h3 h4 h => y c u h1 h2 h3 h4 (x c u h1 h2 h3 h4 h)
theorem OffD.refl (b g z o : Addr) (H : Hp) : OffD b g z o H H := fun _ _ _ _ _ _ h => h
theorem Same.offD {b g z o : Addr} {H H' : Hp} (s : Same H H') : OffD b g z o H H' := fun c u _ _ _ _ h => s c u h
theorem Kp2.offD {b g : Addr} (z o : Addr) {H H' : Hp} (s : Kp2 b g H H') : OffD b g z o H H' := fun c u h1 h2 _ _ h => s c u h1 h2 h
theorem OffZ.offD {z : Addr} (b g o : Addr) {H H' : Hp} (s : OffZ z H H') : OffD b g z o H H' := fun c u _ _ h3 _ h => s c u h3 h
theorem OffD.updO (b g z o : Addr) (H : Hp) (y : HO) : OffD b g z o H (upd H o y) := fun c u _ _ _ h4 h => by rw [upd_ne h4]; exact h
section
variable {C CB b g z o al : Addr} {l v : List Nat} {H H' : Hp} {ks : List K1} {os : List (Addr × Row)}
theorem kx_box (hB : BoxB H b g) {k : K1} (hk : k.ok CB al (45 :: srtL l) H) : k.x ≠ b ∧ k.x ≠ g := by
  obtain ⟨x, mm, sd, gs, h1, h2, _⟩ := hB
  have h := hk.at_
  refine ⟨fun e => ?_, fun e => ?_⟩
  · rw [e, h1] at h
    cases h
  · rw [e, h2] at h
    cases gs with
    | nil => cases h
    | cons y r => cases h
theorem DeI.draw (I : DeI C CB b g z o al l v H ks os) (hB : BoxB H' b g) (k : Kp2 b g H H') : DeI C CB b g z o al l v H' ks os := by
  have fn : KeepN H H' := fun c x hx h => by
    obtain ⟨y, mm, sd, gs, h1, h2, _⟩ := I.hB
    refine k c x (fun e => ?_) (fun e => ?_) h
    · rw [e, h1] at h
      exact hx _ (Option.some.inj h).symm
    · rw [e, h2] at h
      exact hx _ (Option.some.inj h).symm
  exact ⟨hB, I.hK.keep fn (fun x h => k _ _ I.ne.1 I.ne.2.1 h) (fun q hq => ⟨fun x h => k _ _ (kx_box I.hB (I.hK.each q hq)).1 (kx_box I.hB (I.hK.each q hq)).2 h, fun x h => k _ _ (I.us q hq).1 (I.us q hq).2.1 h⟩),
    I.hO.keep fn (fun x h => k _ _ I.ne.2.2.2.1 I.ne.2.2.2.2 h), I.hA.keep fn, I.one, I.us, I.ne⟩
theorem DeI.same (I : DeI C CB b g z o al l v H ks os) (s : Same H H') : DeI C CB b g z o al l v H' ks os := I.draw (I.hB.same s) (Same.kp2 s b g)
theorem DeI.app (I : DeI C CB b g z o al l v H ks os) {x : Addr} {e : Row} (hx : H x = some (.tup e.vs)) (he : e.ok) :
    DeI C CB b g z o al l v (upd H o (.lst ((os.map fun q => V.ref q.1) ++ [.ref x]))) ks (os ++ [(x, e)]) := by
  have fo : ∀ {c y}, c ≠ o → H c = some y → (upd H o (.lst ((os.map fun q => V.ref q.1) ++ [.ref x]))) c = some y := fun hc h => by rw [upd_ne hc]; exact h
  have fn : KeepN H (upd H o (.lst ((os.map fun q => V.ref q.1) ++ [.ref x]))) := fun c y hy h => fo (fun e => by
    rw [e, I.hO.1] at h
    exact hy _ (Option.some.inj h).symm) h
  have hxo : ∀ q ∈ ks, q.x ≠ o := fun q hq e => by
    have h := (I.hK.each q hq).at_
    rw [e, I.hO.1] at h
    have h2 := HO.lst.inj (Option.some.inj h)
    cases os with
    | nil => exact absurd I.one (by simp)
    | cons y r =>
      rw [List.map_cons] at h2
      have h3 : y.1 = q.bk := V.ref.inj (List.head_eq_of_cons_eq h2)
      obtain ⟨dx, D, b1, _⟩ := (I.hK.each q hq).book
      have h4 := (I.hO.2 y List.mem_cons_self).1
      rw [h3, b1] at h4
      cases h4
  refine ⟨?_, I.hK.keep fn (fun y h => fo I.ne.2.2.1 h) (fun q hq => ⟨fun y h => fo (hxo q hq) h, fun y h => fo (I.us q hq).2.2 h⟩), ⟨?_, ?_⟩, I.hA.keep fn, by rw [List.length_append]; exact Nat.le_trans I.one (Nat.le_add_right _ _), I.us, I.ne⟩
  · obtain ⟨y, mm, sd, gs, h1, h2, h3⟩ := I.hB
    exact ⟨y, mm, sd, gs, fo I.ne.2.2.2.1.symm h1, fo I.ne.2.2.2.2.symm h2, h3⟩
  · rw [upd_same, List.map_append]
    rfl
  · intro q hq
    rcases List.mem_append.mp hq with m | m
    · exact ⟨fn _ _ (by simp) (I.hO.2 q m).1, (I.hO.2 q m).2⟩
    · rw [List.mem_singleton] at m
      subst m
      exact ⟨fn _ _ (by simp) hx, he⟩
theorem DeI.kept (I : DeI C CB b g z o al l v H ks os) {ks' : List K1} (hK : KeptAt CB al (45 :: srtL l) H' z ks') (hf : ∀ k ∈ ks', k ∈ ks ∨ H k.u = none) (f : OffZ z H H') : DeI C CB b g z o al l v H' ks' os := by
  have hz := I.hK.at_
  have fn : KeepN H H' := fun c x hx h => f c x (fun e => by
    rw [e, hz] at h
    exact hx _ (Option.some.inj h).symm) h
  obtain ⟨⟨ob, hob⟩, ⟨og, hog⟩⟩ := I.hB.al
  refine ⟨?_, hK, I.hO.keep fn (fun x h => f _ _ I.ne.2.2.1.symm h), I.hA.keep fn, I.one, fun k hk => ?_, I.ne⟩
  · obtain ⟨y, mm, sd, gs, h1, h2, h3⟩ := I.hB
    exact ⟨y, mm, sd, gs, f _ _ I.ne.1.symm h1, f _ _ I.ne.2.1.symm h2, h3⟩
  · rcases hf k hk with m | m
    · exact I.us k m
    · exact ⟨(ne_of_none hob m).symm, (ne_of_none hog m).symm, (ne_of_none I.hO.1 m).symm⟩
end
theorem due_shape {sg : List Nat} {e : Row} {rs : List Row} (he : e.ok) (hr : ∀ r ∈ rs, r.ok) : dueA sg e rs = [] ∨ ∃ h r, dueA sg e rs = .str (S h) :: r ∧ (h ∈ [Lt "DuplicateName", Lt "Conflict"] → ∃ t, atI (dueA sg e rs) (-1) = some (.str (S t)) ∧ Tx t) := by
  have o2 : ∀ a : List Nat, ∀ t : List Nat, Tx t → ∃ t', atI (([a, t]).map fun t => V.str (S t)) (-1) = some (.str (S t')) ∧ Tx t' := fun a t ht => ⟨t, rfl, ht⟩
  have o3 : ∀ a c : List Nat, ∀ t : List Nat, Tx t → ∃ t', atI (([a, c, t]).map fun t => V.str (S t)) (-1) = some (.str (S t')) ∧ Tx t' := fun a c t ht => ⟨t, rfl, ht⟩
  unfold dueA
  split
  · right
    refine ⟨Lt "TooMany", [.int 8], ?_, fun h => ?_⟩
    · rw [Lt_S]
    · exact absurd h (by decide +kernel)
  · unfold faultL
    split
    · exact .inr ⟨_, _, rfl, fun _ => o2 _ _ he.1⟩
    · split
      · exact .inr ⟨_, _, rfl, fun _ => o2 _ _ he.2.1⟩
      · split
        · exact .inr ⟨_, _, rfl, fun _ => o2 _ _ he.2.2.1⟩
        · split
          · exact .inr ⟨_, _, rfl, fun _ => o2 _ _ he.2.2.2⟩
          · split
            · exact .inr ⟨_, _, rfl, fun _ => o2 _ _ he.1⟩
            · split
              · rename_i r hr'
                exact .inr ⟨_, _, rfl, fun _ => o3 _ _ _ (hr r (List.mem_of_find?_eq_some hr')).1⟩
              · exact .inl rfl
end
section
set_option Elab.async false
set_option linter.all false
set_option maxRecDepth 100000
set_option maxHeartbeats 8000000
open PySem PySem.Spec PyProof.Rows L2

def kStrD33_0 : List Nat := [67, 111, 110, 102, 108, 105, 99, 116]
theorem kStrD33_0_eq : PySem.Str.ofString "Conflict" = S kStrD33_0 := by decide +kernel
def kStrD33_1 : List Nat := [68, 117, 112, 108, 105, 99, 97, 116, 101, 78, 97, 109, 101]
theorem kStrD33_1_eq : PySem.Str.ofString "DuplicateName" = S kStrD33_1 := by decide +kernel
def stD (b : Addr) (sg : List Nat) (z o : Addr) (way : Nat) (u : Addr) (v6 v7 v8 v9 : Option V) : L2.St := [some (.ref b), some (.str (S sg)), some (.ref z), some (.ref o), some (.int (way : Int)), some (.ref u), v6, v7, v8, v9]
def DeOut (C CB b g z o al : Addr) (l v : List Nat) (H : Hp) (ks : List K1) (os : List (Addr × Row)) (F : Hp → Prop) : Prop :=
  ∀ ks' os' H', DeI C CB b g z o al l v H' ks' os' → ks'.length ≤ ks.length + 3 → os'.length ≤ os.length + 1 → OffD b g z o H H' → F H'
def tD1 (C CB : Addr) : TS := fun D σ H => ∃ (b g z o al : Addr) (l v : List Nat) (ks : List K1) (os : List (Addr × Row)) (way : Nat) (k : K1) (v6 v7 v8 v9 : Option V), σ = stD b (45 :: srtL l) z o way k.u v6 v7 v8 v9 ∧ DeI C CB b g z o al l v H ks os ∧ k ∈ ks ∧ ks.length ≤ 60 ∧ os.length ≤ 60 ∧
  (∀ H', DeI C CB b g z o al l v H' ks os → OffD b g z o H H' → D.nx (stD b (45 :: srtL l) z o way k.u v6 v7 v8 v9) H') ∧
  DeOut C CB b g z o al l v H ks os (fun H' => D.rt (.bl true) H')
def tD2 (C CB : Addr) : TS := fun D σ H => ∃ (b g z o al : Addr) (l v : List Nat) (ks : List K1) (os : List (Addr × Row)) (way : Nat) (k : K1) (v6 v7 v8 v9 : Option V), σ = stD b (45 :: srtL l) z o way k.u v6 v7 v8 v9 ∧ DeI C CB b g z o al l v H ks os ∧ ks.length ≤ 60 ∧ os.length ≤ 60 ∧
  (∀ H', DeI C CB b g z o al l v H' ks os → OffD b g z o H H' → D.nx (stD b (45 :: srtL l) z o way k.u v6 v7 v8 v9) H') ∧
  DeOut C CB b g z o al l v H ks os (fun H' => D.rt (.bl true) H')
def tD4 (C CB : Addr) : TS := fun D σ H => ∃ (b g z o al : Addr) (l v : List Nat) (ks : List K1) (os : List (Addr × Row)) (way : Nat) (k : K1) (v6 v7 v9 : Option V) (x : Addr) (e : Row), σ = stD b (45 :: srtL l) z o way k.u v6 v7 (some (.ref x)) v9 ∧ DeI C CB b g z o al l v H ks os ∧ k ∈ ks ∧
  1 ≤ (45 :: srtL l).length ∧ (45 :: srtL l).length ≤ 100 ∧ WideOk (45 :: srtL l) ∧ 32 ∉ 45 :: srtL l ∧ H x = some (.tup e.vs) ∧ e.ok ∧
  (∀ (x' : Addr) (e' : Row) (H' : Hp), DeI C CB b g z o al l v H' ks os → OffD b g z o H H' → H' x' = some (.tup e'.vs) → e'.ok → D.nx (stD b (45 :: srtL l) z o way k.u v6 v7 (some (.ref x')) v9) H')
section
variable {P : Program} {w : World} {K : PySem.W.Frag} {mg : Str → Option Value} {base : Heap} {a : Ad} {d : Fd} {C CB : Addr}
def spDeed (C CB : Addr) : Sp := fun vs H Q _ => ∃ (b g z o al : Addr) (l v : List Nat) (ks : List K1) (os : List (Addr × Row)) (way : Nat), vs = [.ref b, .str (S (45 :: srtL l)), .ref z, .ref o, .int (way : Int)] ∧ DeI C CB b g z o al l v H ks os ∧ ks.length ≤ 60 ∧ os.length ≤ 60 ∧
  1 ≤ (45 :: srtL l).length ∧ (45 :: srtL l).length ≤ 100 ∧ WideOk (45 :: srtL l) ∧ 32 ∉ 45 :: srtL l ∧ DeOut C CB b g z o al l v H ks os (fun H' => Q (.bl true) H')
theorem scDeed : FnScope ["_law_box_here", "_law_signs", "_law_kept", "_law_offered", "_law_way", "_law_rows_here", "_law_row", "_law_name", "_law_entry_here", "_law_due_here"] ["_law_box_here", "_law_signs", "_law_kept", "_law_offered", "_law_way"] (defScope sDeed) := ⟨rfl, rfl, rfl, by decide +kernel, rfl, by decide +kernel, by decide +kernel⟩
theorem ok_deed (T : Fns K mg a d) (GPlus : FnOk P w K mg base CX0 7 a.aPlus d.dPlus ["_law_book_here", "_law_entry_here"] (spPlus C CB)) (GMinus : FnOk P w K mg base CX0 7 a.aMinus d.dMinus ["_law_book_here", "_law_name"] (spMinus C CB)) :
    FnOk P w K mg base CX0 9 a.aDeed d.dDeed ["_law_box_here", "_law_signs", "_law_kept", "_law_offered", "_law_way"] (spDeed C CB) := by
  have GDraw : FnOk P w K mg base CX0 1 a.aDraw d.dDraw ["_law_box_here", "_law_many"] spDraw := gDraw T
  have GEntry : FnOk P w K mg base CX0 3 a.aEntry d.dEntry ["_law_box_here", "_law_signs", "_law_rows_here", "_law_way"] spEntry := ok_entry T
  have GDue : FnOk P w K mg base CX0 3 a.aDue d.dDue ["_law_signs", "_law_rows_here", "_law_entry_here"] spDueA := ok_dueA T
  have GAdded : FnOk P w K mg base CX0 8 a.aAdded d.dAdded ["_law_kept", "_law_signs", "_law_entry_here"] (spAdded C CB) := ok_added T GPlus
  have GRemoved : FnOk P w K mg base CX0 8 a.aRemoved d.dRemoved ["_law_kept", "_law_name"] (spRemoved C CB) := ok_removed T GMinus
  refine T.FDeed.ok scDeed (fun vs H Q E h => ?_) (fun cdv A outer s H vs Q E hr h => ?_)
  · obtain ⟨b, g, z, o, al, l, v, ks, os, way, rfl, _⟩ := h
    rfl
  · obtain ⟨b, g, z, o, al, l, v, ks, os, way, rfl, I, hkl, hol, hs1, hs2, hsw, h32, kk⟩ := h
    refine ⟨_, ((pss_cons (ps_set (i := 5) scDeed.nd rfl (Or.inl rfl) (pe_ix (r := rIxL K) ix_list (pe_ix (r := rIxL K) ix_list (pv 2) (pe_un un_neg pe_int) (fun _ _ => rfl)) pe_int (fun _ _ => rfl)))
      (pss_cons (PS.imp (t' := tD1 C CB) (ps_if (PW.pt (pw_and (pt_cmpR op_eq (pv 4) pe_int (nomark _)) (pw_and1 (pt_cmpR (op_neD hr.units) (pv 5) (pe_lst pa_nil) (nomark _))))) (pss_cons (ps_set (i := 6) scDeed.nd rfl (Or.inl rfl) (pe_ix (r := rIxL K) ix_list (pv 5) (pe_call GDraw (hr.mono (by decide)) (by rfl) T.gDraw T.FDraw.kp T.bDraw .nil pass0 (pa_cons (pv 0) (pa_cons (pe_callB call_len_seq (by rfl) T.z_len (by decide +kernel) (pa_cons (pv 5) pa_nil)) pa_nil))) (fun _ _ => rfl)))
      (pss_cons (ps_expr (pe_bm PySem.F.plainAttrs_list PySem.F.slot_list_append PySem.F.type_list_append mt_append (pv 3) (pa_cons (pv 6) pa_nil)))
      (pss_one (ps_ret (pe_call GRemoved (hr.mono (by decide)) (by rfl) T.gRemoved T.FRemoved.kp T.bRemoved .nil pass0 (pa_cons (pv 2) (pa_cons (pe_ix (r := rIxT K) ix_tup (pv 6) pe_int (fun _ _ => rfl)) pa_nil))))))) pss_nil) ?h1)
      (pss_cons (PS.imp (t' := tD2 C CB) (ps_if (PW.pt (pw_or (pt_cmpR op_eq (pv 4) pe_int (nomark _)) (pw_or1 (pt_cmpR op_eq (pv 4) pe_int (nomark _))))) (pss_cons (ps_set (i := 7) scDeed.nd rfl (Or.inl rfl) (pe_ix (r := rIxT K) ix_tup (pe_ix (r := rIxL K) ix_list (pv 3) (pe_call GDraw (hr.mono (by decide)) (by rfl) T.gDraw T.FDraw.kp T.bDraw .nil pass0 (pa_cons (pv 0) (pa_cons (pe_callB call_len_seq (by rfl) T.z_len (by decide +kernel) (pa_cons (pv 3) pa_nil)) pa_nil))) (fun _ _ => rfl)) (pe_call GDraw (hr.mono (by decide)) (by rfl) T.gDraw T.FDraw.kp T.bDraw .nil pass0 (pa_cons (pv 0) (pa_cons pe_int pa_nil))) (fun _ _ => rfl)))
      (pss_one (ps_ret (pe_call GRemoved (hr.mono (by decide)) (by rfl) T.gRemoved T.FRemoved.kp T.bRemoved .nil pass0 (pa_cons (pv 2) (pa_cons (pv 7) pa_nil)))))) pss_nil) ?h2)
      (pss_cons (ps_set (i := 8) scDeed.nd rfl (Or.inl rfl) (pe_ix (r := rIxL K) ix_list (pv 3) (pe_un un_neg pe_int) (fun _ _ => rfl)))
      (pss_cons (PS.imp (t' := tD4 C CB) (ps_if (pt_cmpR op_lt (pv 4) pe_int (nomark _)) (pss_one (ps_set (i := 8) scDeed.nd rfl (Or.inl rfl) (pe_call GEntry (hr.mono (by decide)) (by rfl) T.gEntry T.FEntry.kp T.bEntry .nil pass0 (pa_cons (pv 0) (pa_cons (pv 1) (pa_cons (pv 5) (pa_cons (pv 4) pa_nil))))))) pss_nil) ?h4)
      (pss_cons (ps_expr (pe_bm PySem.F.plainAttrs_list PySem.F.slot_list_append PySem.F.type_list_append mt_append (pv 3) (pa_cons (pv 8) pa_nil)))
      (pss_cons (ps_set (i := 9) scDeed.nd rfl (Or.inl rfl) (pe_call GDue (hr.mono (by decide)) (by rfl) T.gDue T.FDue.kp T.bDue .nil pass0 (pa_cons (pv 1) (pa_cons (pv 5) (pa_cons (pv 8) pa_nil)))))
      (pss_cons (ps_if (pt_not (pt_val (pe_call GAdded (hr.mono (by decide)) (by rfl) T.gAdded T.FAdded.kp T.bAdded .nil pass0 (pa_cons (pv 2) (pa_cons (pv 1) (pa_cons (pv 8) pa_nil)))))) (pss_one (ps_ret pe_bl)) pss_nil)
      (pss_cons (ps_if (PW.pt (pw_or (pt_cmpR (op_eqD hr.units) (pv 9) (pe_lst pa_nil) (nomark _)) (pw_or1 (pt_cmpR op_notIn_seq (pe_ix (r := rIxL K) ix_list (pv 9) pe_int (fun _ _ => rfl)) (pe_lst (pa_cons (pe_strS (l := kStrD33_1) kStrD33_1_eq) (pa_cons (pe_strS (l := kStrD33_0) kStrD33_0_eq) pa_nil))) rfl)))) (pss_one (ps_ret pe_bl)) pss_nil)
      (pss_one (ps_ret (pe_and (pe_call GRemoved (hr.mono (by decide)) (by rfl) T.gRemoved T.FRemoved.kp T.bRemoved .nil pass0 (pa_cons (pv 2) (pa_cons (pe_ix (r := rIxL K) ix_list (pv 9) (pe_un un_neg pe_int) (fun _ _ => rfl)) pa_nil))) (pe_one (pe_call GAdded (hr.mono (by decide)) (by rfl) T.gAdded T.FAdded.kp T.bAdded .nil pass0 (pa_cons (pv 2) (pa_cons (pv 1) (pa_cons (pv 8) pa_nil)))))))))))))))))), ?_⟩
    case h1 =>
      rintro ⟨D1, D2, D3, D4⟩ σ H ⟨b, g, z, o, al, l, v, ks, os, way, k, v6, v7, v8, v9, rfl, I, hkm, hkl, hol, k1, k2⟩
      walk_at "go"
      · rename_i hw1 p hp
        have s1 : Same H (upd H p (.lst [])) := upd_laid hp
        have I1 := I.same s1
        have hR1 := (I1.hK.each k hkm).rows
        refine ⟨.list (k.ps.map fun q => q.2.py), .list [], .lst (SqL.of hR1.1) (dp_rows k.ps fun q hq => (hR1.2 q hq).1), .lst (SqL.of upd_same) .nil, shaped_rows (fun q hq => (hR1.2 q hq).2), shaped_nil, ?_⟩
        rw [eqv_nil]
        have o1 : OffD b g z o H (upd H p (.lst [])) := Same.offD s1
        generalize upd H p (.lst []) = H1 at I1 hR1 o1
        refine ⟨_, rfl, ite2 (fun h => ?_) (fun h => ?_)⟩
        case refine_2 => exact k1 _ I1 o1
        have hpos : 1 ≤ k.ps.length := by
          cases hq : k.ps with
          | nil => rw [hq] at h; cases h
          | cons x r => exact Nat.succ_le_succ (Nat.zero_le _)
        have hlen := (I1.hK.each k hkm).len
        have hu1 := hR1.1
        walk_at "go"
        refine ⟨b, g, _, rfl, I1.hB, by rw [List.length_map]; omega, fun r1 H2 hr1 hB2 hk2 => ?_⟩
        have I2 := I1.draw hB2 hk2
        have o2 := o1.trans (hk2.offD z o)
        have hR2 := (I2.hK.each k hkm).rows
        rw [List.length_map] at hr1
        have hr1' : r1 < k.ps.length := by omega
        obtain ⟨qo, hqo, hato⟩ : ∃ q ∈ k.ps, (k.ps.map fun q => V.ref q.1)[r1]? = some (V.ref q.1) := ⟨k.ps[r1], List.getElem_mem hr1', by rw [List.getElem?_map, List.getElem?_eq_getElem hr1']; rfl⟩
        have hu2 := hR2.1
        obtain ⟨hqt, hqok⟩ := hR2.2 qo hqo
        have ho2 := I2.hO.1
        walk_at "go"
        have hqo' : qo.1 ≠ o := fun e => by
          rw [e, ho2] at hqt
          cases hqt
        have I3 := I2.app hqt hqok
        have o3 := o2.trans (OffD.updO b g z o H2 (.lst ((os.map fun q => V.ref q.1) ++ [.ref qo.1])))
        have hqt3 : (upd H2 o (.lst ((os.map fun q => V.ref q.1) ++ [.ref qo.1]))) qo.1 = some (.tup qo.2.vs) := by rw [upd_ne hqo']; exact hqt
        refine ⟨o, _, _, rfl, rfl, ho2, by rw [List.length_map, sizeLine_eq]; omega, ?_⟩
        generalize upd H2 o (.lst ((os.map fun q => V.ref q.1) ++ [.ref qo.1])) = H3 at I3 o3 hqt3
        walk_at "go"
        refine ⟨z, al, l, v, qo.2.n, ks, rfl, I3.hK, by omega, I3.hA, hqok.1, fun ks' H4 hK4 hl4 hf4 hz4 => ?_⟩
        walk_at "go"
        exact k2 ks' _ H4 (I3.kept hK4 hf4 hz4) (by omega) (by rw [List.length_append]; exact Nat.le_refl _) (o3.trans (hz4.offD b g o))
      · exact k1 _ I (OffD.refl _ _ _ _ _)
    case h2 =>
      rintro ⟨D1, D2, D3, D4⟩ σ H ⟨b, g, z, o, al, l, v, ks, os, way, k, v6, v7, v8, v9, rfl, I, hkl, hol, k1, k2⟩
      have hu1 := I.hO.1
      walk_at "go"
      · refine ⟨b, g, _, rfl, I.hB, by rw [List.length_map]; omega, fun r1 H2 hr1 hB2 hk2 => ?_⟩
        have I2 := I.draw hB2 hk2
        have o2 := hk2.offD z o
        rw [List.length_map] at hr1
        have h1 := I.one
        have hr1' : r1 < os.length := by omega
        obtain ⟨qo, hqo, hato⟩ : ∃ q ∈ os, (os.map fun q => V.ref q.1)[r1]? = some (V.ref q.1) := ⟨os[r1], List.getElem_mem hr1', by rw [List.getElem?_map, List.getElem?_eq_getElem hr1']; rfl⟩
        have ho2 := I2.hO.1
        walk_at "go"
        refine ⟨b, g, _, rfl, I2.hB, by decide, fun r2 H3 hr2 hB3 hk3 => ?_⟩
        have I3 := I2.draw hB3 hk3
        have o3 := o2.trans (hk3.offD z o)
        obtain ⟨hqt, hqok⟩ := I3.hO.2 qo hqo
        obtain ⟨t, hat, ht⟩ := vs_at hqok (j := r2) (by omega)
        walk_at "go"
        refine ⟨z, al, l, v, t, ks, rfl, I3.hK, by omega, I3.hA, ht, fun ks' H4 hK4 hl4 hf4 hz4 => ?_⟩
        walk_at "go"
        exact k2 ks' os H4 (I3.kept hK4 hf4 hz4) (by omega) (by omega) (o3.trans (hz4.offD b g o))
      · refine ⟨b, g, _, rfl, I.hB, by rw [List.length_map]; omega, fun r1 H2 hr1 hB2 hk2 => ?_⟩
        have I2 := I.draw hB2 hk2
        have o2 := hk2.offD z o
        rw [List.length_map] at hr1
        have h1 := I.one
        have hr1' : r1 < os.length := by omega
        obtain ⟨qo, hqo, hato⟩ : ∃ q ∈ os, (os.map fun q => V.ref q.1)[r1]? = some (V.ref q.1) := ⟨os[r1], List.getElem_mem hr1', by rw [List.getElem?_map, List.getElem?_eq_getElem hr1']; rfl⟩
        have ho2 := I2.hO.1
        walk_at "go"
        refine ⟨b, g, _, rfl, I2.hB, by decide, fun r2 H3 hr2 hB3 hk3 => ?_⟩
        have I3 := I2.draw hB3 hk3
        have o3 := o2.trans (hk3.offD z o)
        obtain ⟨hqt, hqok⟩ := I3.hO.2 qo hqo
        obtain ⟨t, hat, ht⟩ := vs_at hqok (j := r2) (by omega)
        walk_at "go"
        refine ⟨z, al, l, v, t, ks, rfl, I3.hK, by omega, I3.hA, ht, fun ks' H4 hK4 hl4 hf4 hz4 => ?_⟩
        walk_at "go"
        exact k2 ks' os H4 (I3.kept hK4 hf4 hz4) (by omega) (by omega) (o3.trans (hz4.offD b g o))
      · exact k1 _ I (OffD.refl _ _ _ _ _)
    case h4 =>
      rintro ⟨D1, D2, D3, D4⟩ σ H ⟨b, g, z, o, al, l, v, ks, os, way, k, v6, v7, v9, x, e, rfl, I, hkm, hs1, hs2, hsw, h32, hx, he, k1⟩
      walk_at "go"
      · have hlen := (I.hK.each k hkm).len
        refine ⟨b, g, _, k.u, k.ps, way, rfl, I.hB, hs1, hs2, hsw, h32, (I.hK.each k hkm).rows, ⟨(I.us k hkm).1, (I.us k hkm).2.1⟩, by omega, fun x' e' H2 hx' he' hB2 hk2 => ?_⟩
        walk_at "go"
        exact k1 x' e' H2 (I.draw hB2 hk2) (hk2.offD z o) hx' he'
      · exact k1 x e H I (OffD.refl _ _ _ _ _) hx he
    obtain ⟨k, hk1, hkm, hki⟩ := I.hK.last
    have hz0 := I.hK.at_
    have hx0 := (I.hK.each k hkm).at_
    walk_at "go"
    refine ⟨b, g, z, o, al, l, v, ks, os, way, k, _, _, _, _, rfl, I, hkm, hkl, hol, fun H1 I1 o1 => ?_, kk⟩
    walk_at "go"
    refine ⟨b, g, z, o, al, l, v, ks, os, way, k, _, _, _, _, rfl, I1, hkl, hol, fun H2 I2 o2 => ?_, fun ks' os' H' c1 c2 c3 c4 => kk ks' os' H' c1 c2 c3 (o1.trans c4)⟩
    have o2 := o1.trans o2
    have hO2 := I2.hO.1
    have hone := I2.one
    obtain ⟨q, hq⟩ : ∃ q, os[os.length - 1]? = some q := ⟨_, List.getElem?_eq_getElem (by omega)⟩
    have hqm := List.mem_of_getElem? hq
    have hlast : atI (os.map fun q => V.ref q.1) (-1) = some (V.ref q.1) := atI_end (by rw [List.length_map]; omega) (by rw [List.length_map, List.getElem?_map, hq]; rfl)
    walk_at "go"
    refine ⟨b, g, z, o, al, l, v, ks, os, way, k, _, _, _, q.1, q.2, rfl, I2, hkm, hs1, hs2, hsw, h32, (I2.hO.2 q hqm).1, (I2.hO.2 q hqm).2, fun x e H3 I3 o3 hx he => ?_⟩
    have o3 := o2.trans o3
    have hO3 := I3.hO.1
    walk_at "go"
    refine ⟨o, _, _, rfl, rfl, hO3, by rw [List.length_map, sizeLine_eq]; omega, ?_⟩
    have I4 := I3.app hx he
    have o4 := o3.trans (OffD.updO b g z o H3 (.lst ((os.map fun q => V.ref q.1) ++ [.ref x])))
    have hxo : x ≠ o := fun e => by
      rw [e, hO3] at hx
      cases hx
    have hx4 : (upd H3 o (.lst ((os.map fun q => V.ref q.1) ++ [.ref x]))) x = some (.tup e.vs) := by rw [upd_ne hxo]; exact hx
    generalize upd H3 o (.lst ((os.map fun q => V.ref q.1) ++ [.ref x])) = H4 at I4 o4 hx4
    have hlen := (I4.hK.each k hkm).len
    have hok4 := (I4.hK.each k hkm).rows.2
    walk_at "go"
    refine ⟨45 :: srtL l, k.u, x, k.ps, e, rfl, (I4.hK.each k hkm).rows, by omega, hx4, he, fun qs p H5 hperm hsort hp hp5 s5 => ?_⟩
    have I5 := I4.same s5
    have o5 := o4.trans (Same.offD s5)
    have hx5 := s5 _ _ hx4
    have hpz : p ≠ z := (ne_of_none I4.hK.at_ hp).symm
    have hxz : x ≠ z := fun e => by
      rw [e, I5.hK.at_] at hx5
      cases hx5
    have hrok : ∀ r ∈ qs.map (·.2), r.ok := fun r hr => by
      obtain ⟨q, hq, rfl⟩ := List.mem_map.mp hr
      exact (hok4 q (hperm.mem_iff.mp hq)).2
    walk_at "go"
    refine ⟨z, x, al, l, v, ks, e, rfl, I5.hK, by omega, I5.hA, hx5, he, fun ks6 H6 hK6 hl6 hf6 hz6 => ?_⟩
    have I6 := I5.kept hK6 hf6 hz6
    have o6 := o5.trans (hz6.offD b g o)
    have hp6 := hz6 _ _ hpz hp5
    have hx6 := hz6 _ _ hxz hx5
    walk_at "go"
    rename_i p7 hp7
    have s7 : Same H6 (upd H6 p7 (.lst [])) := upd_laid hp7
    have I7 := I6.same s7
    have o7 := o6.trans (Same.offD s7)
    have hp67 := s7 _ _ hp6
    have hx7 := s7 _ _ hx6
    refine ⟨.list (dueD (45 :: srtL l) e (qs.map (·.2))), .list [], .lst (SqL.of hp67) due_dp, .lst (SqL.of upd_same) .nil, due_shaped he hrok, shaped_nil, ?_⟩
    rw [eqv_nil]
    generalize upd H6 p7 (.lst []) = H7 at I7 o7 hp67 hx7
    refine ⟨_, rfl, ite2 (fun h => ?_) (fun h => ?_)⟩
    · walk_at "go"
      exact kk ks6 _ H7 I7 (by omega) (by rw [List.length_append]; exact Nat.le_refl _) o7
    · have hne : dueA (45 :: srtL l) e (qs.map (·.2)) ≠ [] := fun z => by
        apply h
        obtain ⟨g1, g2⟩ : (qs.map (·.2)).length < 8 ∧ faultL (45 :: srtL l) e (qs.map (·.2)) = [] := by
          unfold dueA at z
          split at z
          · cases z
          · exact ⟨by omega, List.map_eq_nil_iff.mp z⟩
        exact due_none.mpr ⟨g1, g2⟩
      obtain ⟨h0, rest, hd, hl0⟩ := (due_shape (sg := 45 :: srtL l) he hrok).resolve_left hne
      generalize dueA (45 :: srtL l) e (qs.map (·.2)) = ds at hd hl0 hp67
      subst hd
      have h00 : atI (V.str (S h0) :: rest) 0 = some (V.str (S h0)) := atI_nat (j := 0) rfl
      walk_at "go"
      · rename_i p8 hp8 hb
        have s8 : Same H7 (upd H7 p8 (.lst [V.str (S kStrD33_1), V.str (S kStrD33_0)])) := upd_laid hp8
        exact kk ks6 _ _ (I7.same s8) (by omega) (by rw [List.length_append]; exact Nat.le_refl _) (o7.trans (Same.offD s8))
      · rename_i p8 hp8 hb
        have s8 : Same H7 (upd H7 p8 (.lst [V.str (S kStrD33_1), V.str (S kStrD33_0)])) := upd_laid hp8
        have I8 := I7.same s8
        have o8 := o7.trans (Same.offD s8)
        have hp9 := s8 _ _ hp67
        have hx8 := s8 _ _ hx7
        have ek : [kStrD33_1, kStrD33_0] = [Lt "DuplicateName", Lt "Conflict"] := by decide +kernel
        rw [ek] at hb
        obtain ⟨t, hat, ht⟩ := hl0 hb
        generalize upd H7 p8 (.lst [V.str (S kStrD33_1), V.str (S kStrD33_0)]) = H8 at I8 o8 hp9 hx8
        walk_at "go"
        refine ⟨z, al, l, v, t, ks6, rfl, I8.hK, by omega, I8.hA, ht, fun ks9 H9 hK9 hl9 hf9 hz9 => ?_⟩
        have I9 := I8.kept hK9 hf9 hz9
        have o9 := o8.trans (hz9.offD b g o)
        have hx9 := hz9 _ _ hxz hx8
        walk_at "go"
        refine ⟨z, x, al, l, v, ks9, e, rfl, I9.hK, by omega, I9.hA, hx9, he, fun ks10 H10 hK10 hl10 hf10 hz10 => ?_⟩
        walk_at "go"
        exact kk ks10 _ H10 (I9.kept hK10 hf10 hz10) (by omega) (by rw [List.length_append]; exact Nat.le_refl _) (o9.trans (hz10.offD b g o))
end
end
section
set_option Elab.async false
set_option linter.all false
set_option maxRecDepth 100000
set_option maxHeartbeats 8000000
open PySem PySem.Spec PyProof.Rows L2

def kStrD34_0 : List Nat := [101, 110, 116, 114, 121]
theorem kStrD34_0_eq : PySem.Str.ofString "entry" = S kStrD34_0 := by decide +kernel
def kStrD34_1 : List Nat := [85, 110, 107, 110, 111, 119, 110, 78, 97, 109, 101]
theorem kStrD34_1_eq : PySem.Str.ofString "UnknownName" = S kStrD34_1 := by decide +kernel
def stH (bk p1 ww D2 : Addr) (v4 v5 v6 v7 : Option V) : L2.St := [some (.ref bk), some (.ref p1), some (.ref ww), some (.ref D2), v4, v5, v6, v7]
theorem same_upd {H H' : Hp} {p : Addr} {o : HO} (s : Same H H') (hn : H p = none) : Same H (upd H' p o) := fun c u h => by
  rw [upd_ne (ne_of_none h hn)]
  exact s c u h
theorem shaped_row {r : Row} (h : r.ok) : SeqAt.shaped r.py = true := by
  unfold SeqAt.shaped
  rw [Bool.and_eq_true_iff]
  refine ⟨can_row h, decide_eq_true ?_⟩
  rw [dep_row]
  omega
theorem row_refl {r : Row} (h : r.ok) : PyData.eqv r.py r.py = true := SeqAt.eqv_refl _ (can_row h)
section
variable {P : Program} {w : World} {K : PySem.W.Frag} {mg : Str → Option Value} {base : Heap} {a : Ad} {d : Fd} {CB fN fE fL fC : Addr} {fdN fdE fdL fdC : FuncData} {mcB : Value} {tmB : Tok}
def spHolds (CB : Addr) : Sp := fun vs H Q _ => ∃ (bk al u ww : Addr) (ps qs : List (Addr × Row)) (ts : List (List Nat)), vs = [.ref bk, .ref u, .ref ww] ∧ RowsAt H u ps ∧ ps.length ≤ 10 ∧ IsBook CB bk al H qs ∧ qs.Perm ps ∧ sortedR qs ∧ (ps.map fun q => q.2.n).Nodup ∧
  H ww = some (.lst (ts.map fun t => V.str (S t))) ∧ ts.length ≤ 400 ∧ (∀ t ∈ ts, Tx t) ∧ ∀ H', Same H H' → Q (.bl true) H'
theorem scHolds : FnScope ["_law_book_here", "_law_rows_here", "_law_words", "_law_names", "_law_row", "_law_turn", "_law_told", "_law_word_here"] ["_law_book_here", "_law_rows_here", "_law_words"] (defScope sHolds) := ⟨rfl, rfl, rfl, by decide +kernel, rfl, by decide +kernel, by decide +kernel⟩
theorem ok_holds (T : Fns K mg a d) (BV : BkV K mg CB mcB tmB) (mN : Meth K CB "names" fN) (GN : FnOk P w K mg base CX0 1 fN fdN ["self"] (spNames CB)) (bN : Binds K fdN ["self"] []) (mE : Meth K CB "entries" fE) (GE : FnOk P w K mg base CX0 1 fE fdE ["self"] (spEntries CB)) (bE : Binds K fdE ["self"] [])
    (hsL : PySem.W.findIn K (.ref CB) "__len__" = some (some (.ref fL))) (hfL : PySem.W.isFn K (.ref fL) = true) (GL : FnOk P w K mg base CX0 1 fL fdL ["self"] (spLenB CB)) (bL : Binds K fdL ["self"] [])
    (hsC : PySem.W.findIn K (.ref CB) "__contains__" = some (some (.ref fC))) (hfC : PySem.W.isFn K (.ref fC) = true) (GC : FnOk P w K mg base CX0 1 fC fdC ["self", "name"] (spHas CB)) (bC : Binds K fdC ["self", "name"] [])
    (GItem : FnOk P w K mg base CX0 5 a.aItem d.dItem ["_law_book_here", "_law_name"] (spItemL CB)) :
    FnOk P w K mg base CX0 6 a.aHolds d.dHolds ["_law_book_here", "_law_rows_here", "_law_words"] (spHolds CB) := by
  have GAlikeL : FnOk P w K mg base CX0 1 a.aAlikeL d.dAlikeL ["_law_told", "_law_due_here"] spAlikeL := ok_alikeL T
  refine T.FHolds.ok scHolds (fun vs H Q E h => ?_) (fun cdv A0 outer s H vs Q E hr h => ?_)
  · obtain ⟨bk, al, u, ww, ps, qs, ts, rfl, _⟩ := h
    rfl
  · obtain ⟨bk, al, u, ww, ps, qs, ts, rfl, hR, hps, hB, hperm, hsort, hnd, hw, hwl, hwt, k⟩ := h
    refine ⟨_, ((pss_cons (ps_set (i := 1) scHolds.nd rfl (Or.inl rfl) (pe_callB cr_sort4 (by rfl) T.z_sorted (by decide +kernel) (pa_cons (pv 1) pa_nil)))
      (pss_cons (ps_setLc (i := 3) (own := [("_law_row", 4)]) (g := gName 4) (by rfl) scHolds.nd rfl rfl (by rfl) (pi_list (pv 1)) (blkOk_by (own := [("_law_row", 4)]) (N := ["_law_book_here", "_law_rows_here", "_law_words", "_law_names", "_law_row", "_law_turn", "_law_told", "_law_word_here"]) (sc := defScope sHolds) (by decide +kernel)) (fun _ _ _ _ _ => pg_name (i := 4) scHolds.nd rfl (Or.inl rfl)) (fun _ _ _ _ _ => pts_nil) (fun _ _ _ _ _ => (pe_ix (r := rIxT K) ix_tup (pv 4) pe_int (fun _ _ => rfl))))
      (pss_cons (ps_for PassesOwn.never rfl (pi_range1 (by rfl) T.z_range (pa_cons pe_int pa_nil)) (pg_name (i := 5) scHolds.nd rfl (Or.inl rfl)) (pss_cons (ps_set (i := 6) scHolds.nd rfl (Or.inl rfl) (pe_meth0 (pv 0) BV.cl mN GN (hr.mono (by decide)) bN .nil pass0))
      (pss_cons (ps_if (PW.pt (pw_or (pt_not (pt_val (pe_callB call_isi (by rfl) T.z_isinstance (by decide +kernel) (pa_cons (pv 6) (pa_cons (pe_bltn (v := .ty "list") (by rfl) T.z_list (by decide +kernel) rfl) pa_nil))))) (pw_or1 (pt_cmpR (op_neD hr.units) (pv 6) (pv 3) (nomark _))))) (pss_one (ps_ret pe_bl)) pss_nil)
      (pss_cons (ps_expr (pe_bm PySem.F.plainAttrs_list PySem.F.slot_list_append PySem.F.type_list_append mt_append (pv 6) (pa_cons (pe_strS (l := []) (by decide +kernel)) pa_nil)))
      (pss_cons (ps_set (i := 6) scHolds.nd rfl (Or.inl rfl) (pe_meth0 (pv 0) BV.cl mE GE (hr.mono (by decide)) bE .nil pass0))
      (pss_cons (ps_if (PW.pt (pw_or (pt_not (pt_val (pe_callB call_isi (by rfl) T.z_isinstance (by decide +kernel) (pa_cons (pv 6) (pa_cons (pe_bltn (v := .ty "list") (by rfl) T.z_list (by decide +kernel) rfl) pa_nil))))) (pw_or1 (pt_cmpR (op_neD hr.units) (pv 6) (pv 1) (nomark _))))) (pss_one (ps_ret pe_bl)) pss_nil)
      (pss_one (ps_expr (pe_bm PySem.F.plainAttrs_list PySem.F.slot_list_insert PySem.F.type_list_insert mt_insert (pv 6) (pa_cons pe_int (pa_cons (pe_tup (pa_cons (pe_strS (l := [97]) (by decide +kernel)) (pa_cons (pe_strS (l := [45]) (by decide +kernel)) (pa_cons (pe_strS (l := [45]) (by decide +kernel)) (pa_cons (pe_strS (l := [97, 110, 121]) (by decide +kernel)) pa_nil))))) pa_nil)))))))))))
      (pss_cons (ps_for PassesOwn.never rfl (pi_list (pv 2)) (pg_name (i := 7) scHolds.nd rfl (Or.inl rfl)) (pss_cons (ps_set (i := 6) scHolds.nd rfl (Or.inl rfl) (pe_call GItem (hr.mono (by decide)) (by rfl) T.gItem T.FItem.kp T.bItem .nil pass0 (pa_cons (pv 0) (pa_cons (pv 7) pa_nil))))
      (pss_cons (ps_if (pt_cmpR op_ne (pe_cmpR (op_inI hsC hfC GC (hr.mono (by decide)) bC pass0) (pv 7) (pv 0) rfl) (pe_cmpR op_in_seq (pv 7) (pv 3) rfl) (nomark _)) (pss_one (ps_ret pe_bl)) pss_nil)
      (pss_one (ps_if (pt_cmpR op_in_seq (pv 7) (pv 3) rfl) (pss_one (ps_if (PW.pt (pw_or (pt_cmpR op_ne (pe_ix (r := rIxL K) ix_list (pv 6) pe_int (fun _ _ => rfl)) (pe_strS (l := kStrD34_0) kStrD34_0_eq) (nomark _)) (pw_or1 (pt_cmpR (op_neD hr.units) (pe_ix (r := rIxL K) ix_list (pv 6) pe_int (fun _ _ => rfl)) (pe_ix (r := rIxL K) ix_list (pv 1) (pe_bm PySem.F.plainAttrs_list PySem.F.slot_list_index PySem.F.type_list_index mt_index (pv 3) (pa_cons (pv 7) pa_nil)) (fun _ _ => rfl)) (nomark _))))) (pss_one (ps_ret pe_bl)) pss_nil)) (pss_one (ps_if (pt_not (pt_val (pe_call GAlikeL (hr.mono (by decide)) (by rfl) T.gAlikeL T.FAlikeL.kp T.bAlikeL .nil pass0 (pa_cons (pv 6) (pa_cons (pe_lst (pa_cons (pe_strS (l := kStrD34_1) kStrD34_1_eq) (pa_cons (pv 7) pa_nil))) pa_nil))))) (pss_one (ps_ret pe_bl)) pss_nil)))))))
      (pss_one (ps_ret (pe_cmpR op_eq (pe_callB (call_lenBook hsL hfL GL bL (hr.mono (by decide))) (by rfl) T.z_len (by decide +kernel) (pa_cons (pv 0) pa_nil)) (pe_callB call_len_seq (by rfl) T.z_len (by decide +kernel) (pa_cons (pv 1) pa_nil)) (nomark _))))))))), ?_⟩
    have hql : qs.length ≤ 10 := by rw [hperm.length_eq]; exact hps
    have hndq : (qs.map fun q => q.2.n).Nodup := (hperm.map fun q : Addr × Row => q.2.n).nodup_iff.mpr hnd
    obtain ⟨dx, DD, hb0, _⟩ := id hB
    have hu0 := hR.1
    walk_at "go"
    refine ⟨u, ps, rfl, SqL.of hR.1, fun q hq => (hR.2 q hq).1, fun rs p1 hpr hsr hn1 => ?_⟩
    have hrs := rows_eq hsort hsr hperm hpr hnd
    subst hrs
    have s1 : Same H (upd H p1 (.lst (qs.map fun q => V.ref q.1))) := upd_laid hn1
    have hp1 : (upd H p1 (.lst (qs.map fun q => V.ref q.1))) p1 = some (.lst (qs.map fun q => V.ref q.1)) := upd_same
    generalize upd H p1 (.lst (qs.map fun q => V.ref q.1)) = H1 at s1 hp1
    have okr : ∀ q ∈ qs, q.2.ok := fun q hq => (hR.2 q (hperm.mem_iff.mp hq)).2
    have tup0 : ∀ q ∈ qs, H q.1 = some (.tup q.2.vs) := fun q hq => (hR.2 q (hperm.mem_iff.mp hq)).1
    walk_at "go"
    rename_i D2 hD2
    refine lc_lst (fun q : Addr × Row => V.ref q.1) (fun _ => true) (fun q => V.str (S q.2.n)) (by omega) hp1 hD2 (fun _ => rfl) (fun _ _ _ _ _ q => q) (fun q hq _ H3 Q3 off k3 => ⟨_, rfl, q.1, _, 0, _, rfl, rfl, SqT.of ((off q.1 (ne_of_none (s1 _ _ (tup0 q hq)) hD2)).trans (s1 _ _ (tup0 q hq))), rfl, k3⟩) ?_
    rw [col_map]
    have s2 := Same.trans s1 (upd_laid (o := .lst (qs.map fun q => V.str (S q.2.n))) hD2)
    have hp2 := (upd_laid (o := .lst (qs.map fun q => V.str (S q.2.n))) hD2) _ _ hp1
    have hD3 : (upd H1 D2 (.lst (qs.map fun q => V.str (S q.2.n)))) D2 = some (.lst ((qs.map fun q => q.2.n).map fun t => V.str (S t))) := by
      rw [upd_same, List.map_map]
      rfl
    generalize upd H1 D2 (.lst (qs.map fun q => V.str (S q.2.n))) = H2 at s2 hp2 hD3
    have okn : ∀ y ∈ (qs.map fun q => S q.2.n), PyData.strOk y = true := fun y hy => by
      obtain ⟨q, hq, rfl⟩ := List.mem_map.mp hy
      exact tx_ok (okr q hq).1
    have shn := shaped_strs okn
    have eqn : PyData.eqv (.list ((qs.map fun q => S q.2.n).map PyData.str)) (.list ((qs.map fun q => S q.2.n).map PyData.str)) = true := SeqAt.eqv_refl _ (by
      unfold PyData.canLay0
      exact can_strs _ okn)
    have nm : ∀ y : List (Addr × Row), (y.map fun q => V.str (S q.2.n)) = (y.map fun q => S q.2.n).map V.str := fun y => by rw [List.map_map]; rfl
    have nm2 : ∀ y : List (Addr × Row), ((y.map fun q => q.2.n).map fun t => V.str (S t)) = (y.map fun q => S q.2.n).map V.str := fun y => by rw [List.map_map, List.map_map]; rfl
    have shr := shaped_rows okr
    have eqr : PyData.eqv (.list (qs.map fun q => q.2.py)) (.list (qs.map fun q => q.2.py)) = true := SeqAt.eqv_refl _ (by
      unfold PyData.canLay0
      exact can_rows _ okr)
    walk_at "go"
    refine for_R (fun i σ H' => Stop (∃ v5 v6, σ = stH bk p1 ww D2 none v5 v6 none ∧ Same H2 H')) ⟨_, _, rfl, fun _ _ h => h⟩ ?_ ?_
    · rintro i σ H' hi ⟨v5, v6, rfl, s3⟩
      have s03 := Same.trans s2 s3
      have hb3 := s03 _ _ hb0
      walk_at "go"
      refine ⟨bk, al, qs, rfl, hB.same s03, fun p3 hp3 => ?_⟩
      have s4 : Same H2 (upd H' p3 (.lst (qs.map fun q => V.str (S q.2.n)))) := Same.trans s3 (upd_laid hp3)
      have hq4 : (upd H' p3 (.lst (qs.map fun q => V.str (S q.2.n)))) p3 = some (.lst ((qs.map fun q => S q.2.n).map V.str)) := by rw [upd_same, nm]
      have n3 : H2 p3 = none := none_back s3 hp3
      generalize upd H' p3 (.lst (qs.map fun q => V.str (S q.2.n))) = H4 at s4 hq4
      walk_at "go"
      have s04 := Same.trans s2 s4
      refine ⟨_, _, _, _, true, rfl, .ty "list", .base (.lst hq4), rfl, _, rfl, iteF ?_⟩
      walk_at "go"
      refine ⟨_, _, dp_strs (SqL.of hq4), dp_strs (SqL.of (by rw [← nm2]; exact s4 _ _ hD3)), shn, shn, ?_⟩
      rw [eqn]
      refine ⟨_, rfl, iteF ?_⟩
      walk_at "go"
      refine ⟨p3, _, _, rfl, rfl, hq4, by simp only [List.length_map, sizeLine_eq]; omega, ?_⟩
      have s5 : Same H2 (upd H4 p3 (.lst (((qs.map fun q => S q.2.n).map V.str) ++ [V.str (S [])]))) := same_upd s4 n3
      generalize upd H4 p3 (.lst (((qs.map fun q => S q.2.n).map V.str) ++ [V.str (S [])])) = H5 at s5
      have s05 := Same.trans s2 s5
      have hb5 := s05 _ _ hb0
      walk_at "go"
      refine ⟨bk, al, qs, rfl, hB.same s05, hndq, by omega, fun p5 H6 hp5 hq6 s56 => ?_⟩
      have s6 := Same.trans s5 s56
      have s06 := Same.trans s2 s6
      have n5 : H2 p5 = none := none_back s5 hp5
      walk_at "go"
      refine ⟨_, _, _, _, true, rfl, .ty "list", .base (.lst hq6), rfl, _, rfl, iteF ?_⟩
      walk_at "go"
      have tup6 : ∀ q ∈ qs, H6 q.1 = some (.tup q.2.vs) := fun q hq => s06 _ _ (tup0 q hq)
      refine ⟨.list (qs.map fun q => q.2.py), .list (qs.map fun q => q.2.py), .lst (SqL.of hq6) (dp_rows qs tup6), .lst (SqL.of (s6 _ _ hp2)) (dp_rows qs tup6), shr, shr, ?_⟩
      rw [eqr]
      refine ⟨_, rfl, iteF ?_⟩
      walk_at "go"
      rename_i p7 hp7
      have hq7 := (upd_laid (o := .tup [V.str (S [97]), V.str (S [45]), V.str (S [45]), V.str (S [97, 110, 121])]) hp7) _ _ hq6
      have s7 := Same.trans s6 (upd_laid (o := .tup [V.str (S [97]), V.str (S [45]), V.str (S [45]), V.str (S [97, 110, 121])]) hp7)
      generalize upd H6 p7 (.tup [V.str (S [97]), V.str (S [45]), V.str (S [45]), V.str (S [97, 110, 121])]) = H7 at hq7 s7
      exact ⟨by simp only [List.length_map, sizeLine_eq]; omega, by decide, by decide, _, _, rfl, same_upd s7 n5⟩
    · rintro σ H3 ⟨v5, v6, rfl, s3⟩
      have s03 := Same.trans s2 s3
      have hw3 := s03 _ _ hw
      walk_at "go"
      refine for_L (xs := ts.map fun t => V.str (S t)) (fun i σ H' => Stop (∃ v6 v7, σ = stH bk p1 ww D2 none v5 v6 v7 ∧ Same H3 H')) ⟨_, _, rfl, fun _ _ h => h⟩ (fun i σ H' hi hP => ?_) ?_ ?_
      · obtain ⟨v6, v7, rfl, s4⟩ := hP
        exact SqL.of (s4 _ _ hw3)
      · rintro i x σ H' hx ⟨v6, v7, rfl, s4⟩
        rw [List.getElem?_map] at hx
        obtain ⟨t, ht, rfl⟩ := Option.map_eq_some_iff.mp hx
        have htx := hwt t (List.mem_of_getElem? ht)
        have s04 := Same.trans s03 s4
        walk_at "go"
        refine ⟨bk, al, t, qs, rfl, hB.same s04, htx, hndq, fun q hq e p H5 hp hp5 s5 => ?_, fun hn p H5 hp hp5 s5 => ?_⟩
        · have s05 := Same.trans s04 s5
          have hm : t ∈ qs.map fun q => q.2.n := List.mem_map.mpr ⟨q, hq, e⟩
          obtain ⟨j, hj⟩ := List.getElem?_of_mem hq
          have hD5 := s5 _ _ (s4 _ _ (s3 _ _ hD3))
          have hp1' := s5 _ _ (s4 _ _ (s3 _ _ hp2))
          rw [show (PySem.Str.ofString "entry") = S kStrD34_0 from kStrD34_0_eq] at hp5
          walk_at "go"
          refine ⟨bk, dx, _, rfl, s05 _ _ hb0, bk, al, qs, t, rfl, hB.same s05, _, rfl, ?_⟩
          walk_at "go"
          refine ⟨D2, _, .str (S t), j, .str (S t), rfl, rfl, SqL.of hD5, rfl, flat_strs _, by rw [List.getElem?_map, List.getElem?_map, hj, ← e]; rfl, beq_self_eq_true _, fun m z' hm' hz => ?_, ?_⟩
          · rw [List.getElem?_map] at hz
            obtain ⟨t', ht', rfl⟩ := Option.map_eq_some_iff.mp hz
            have hne : t' ≠ t := fun e' => by
              have hjt : (qs.map fun q => q.2.n)[j]? = some t := by rw [List.getElem?_map, hj, ← e]; rfl
              have hlt : m < (qs.map fun q => q.2.n).length := (List.getElem?_eq_some_iff.mp ht').1
              have := (List.getElem?_inj (j := j) hlt hndq).mp (by rw [ht', hjt, e'])
              omega
            exact beq_eq_false_iff_ne.mpr fun e' => hne (S_inj.mp e')
          have hato : (qs.map fun q => V.ref q.1)[j]? = some (V.ref q.1) := by rw [List.getElem?_map, hj]; rfl
          walk_at "go"
          refine ⟨q.2.py, q.2.py, dp_row (s05 _ _ (tup0 q hq)), dp_row (s05 _ _ (tup0 q hq)), shaped_row (okr q hq), shaped_row (okr q hq), ?_⟩
          rw [row_refl (okr q hq)]
          refine ⟨_, rfl, iteF ?_⟩
          walk_at "go"
          exact ⟨_, _, rfl, Same.trans s4 s5⟩
        · have s05 := Same.trans s04 s5
          have hD5 := s5 _ _ (s4 _ _ (s3 _ _ hD3))
          rw [show (PySem.Str.ofString "UnknownName") = S kStrD34_1 from kStrD34_1_eq] at hp5
          walk_at "go"
          refine ⟨bk, dx, _, rfl, s05 _ _ hb0, bk, al, qs, t, rfl, hB.same s05, _, rfl, ?_⟩
          walk_at "go"
          rename_i p9 hp9
          have s9 : Same H5 (upd H5 p9 (.lst [V.str (S kStrD34_1), V.str (S t)])) := upd_laid hp9
          have hp59 := s9 _ _ hp5
          have hp99 : (upd H5 p9 (.lst [V.str (S kStrD34_1), V.str (S t)])) p9 = some (.lst [V.str (S kStrD34_1), V.str (S t)]) := upd_same
          have s39 := Same.trans s4 (Same.trans s5 s9)
          generalize upd H5 p9 (.lst [V.str (S kStrD34_1), V.str (S t)]) = H9 at hp59 hp99 s39
          refine ⟨p, p9, _, rfl, hp59, hp99, by show 2 ≤ 10; decide, fun y hy => ?_, ?_⟩
          · rcases List.mem_cons.mp hy with e | hy
            · exact .inl ⟨_, e⟩
            · exact .inl ⟨_, List.mem_singleton.mp hy⟩
          walk_at "go"
          exact ⟨_, _, rfl, s39⟩
      · rintro σ H' ⟨v6, v7, rfl, s4⟩
        have s04 := Same.trans s03 s4
        have hp1' := s4 _ _ (s3 _ _ hp2)
        walk_at "go"
        refine ⟨bk, dx, _, rfl, s04 _ _ hb0, bk, al, qs, rfl, hB.same s04, qs.length, rfl, by omega, ?_⟩
        walk_at "go"
        rw [List.length_map, decide_eq_true rfl]
        exact k _ s04
end
end
section
set_option Elab.async false
set_option linter.all false
set_option maxRecDepth 100000
set_option maxHeartbeats 8000000
open PySem PySem.Spec PyProof.Rows L2
def spLaw (K : PySem.W.Frag) : Sp := fun vs H Q _ => ∃ (a : Addr) (ns : List Int), vs = [.ref a] ∧ SqL K H a (ns.map V.int) ∧ ns.length ≤ 63 ∧ ∀ H', Q (.bl true) H'
theorem passE {X : Cx} {P : Program} {w : World} : Passes (L2.CX P w) X (fun _ _ _ => False) := fun _ _ _ _ _ _ _ h => by
  obtain ⟨_, _, _, _, _, _, _, _, _, _, _, _, z⟩ := h
  exact z.elim
theorem ins_box {H : Hp} {b g x C dx : Addr} {fs : List (Str × V)} (hB : BoxB H b g) (h : H x = some (.ins C dx fs)) : x ≠ b ∧ x ≠ g := by
  obtain ⟨_, _, _, _, h1, h2, _⟩ := hB
  exact ⟨fun z => (by rw [z, h1] at h; cases h), fun z => (by rw [z, h2] at h; cases h)⟩
theorem IsAl.kp {C al b g : Addr} {H H' : Hp} {l v : List Nat} (h : IsAl C H al l v) (hB : BoxB H b g) (k : Kp2 b g H H') : IsAl C H' al l v := by
  obtain ⟨dx, h⟩ := h
  obtain ⟨n1, n2⟩ := ins_box hB h
  exact ⟨dx, k _ _ n1 n2 h⟩
theorem kp_newB {H H' : Hp} {x dx C : Addr} {o : HO} (hx : H x = none) (hd : H dx = none) (k : Kp x (upd (upd H dx o) x (.ins C dx [])) H') : Same H H' := fun c u e => by
  have h1 : c ≠ x := ne_of_none e hx
  have h2 : c ≠ dx := ne_of_none e hd
  exact k c u h1 (by rw [upd_ne h1, upd_ne h2]; exact e)
abbrev rLenS (K : PySem.W.Frag) : List V → Hp → VK → Prop := fun xs H Q => ∃ p ys, xs = [V.ref p] ∧ (SqL K H p ys ∨ SqT K H p ys) ∧ Q (.int ys.length) H
/-- the rows drawn are good -/
theorem good_drawn {sg : List Nat} {m : Nat} {ps : List (Addr × Row)} (hm : m ≤ 6) (h1 : ∀ q ∈ ps, RowW sg m q.2) (h2 : (ps.map (·.2)).Pairwise Apart) : GoodRs sg (ps.map (·.2)) := by
  refine ⟨fun r hr => ?_, h2⟩
  obtain ⟨q, hq, rfl⟩ := List.mem_map.mp hr
  obtain ⟨a1, a2, a3, a4⟩ := h1 q hq
  exact ⟨a1, ⟨a2.1, Nat.le_trans a2.2.1 hm, a2.2.2⟩, ⟨a3.1, Nat.le_trans a3.2.1 hm, a3.2.2⟩, a4⟩
theorem top_eight {s m : Nat} (hs : 2 ≤ s) (hm : 3 ≤ m) : 8 ≤ Fw.top s m := by
  refine Nat.le_trans ?_ (Fw.top_mono s hm)
  show 8 ≤ ((0 * s + s) * s + s) * s + s
  have h1 : 4 ≤ (0 * s + s) * s := by
    rw [Nat.zero_mul, Nat.zero_add]
    exact Nat.mul_le_mul hs hs
  have h2 : 2 ≤ s := hs
  have h3 : (4 + 2) * 2 ≤ ((0 * s + s) * s + s) * s := Nat.mul_le_mul (Nat.add_le_add h1 h2) hs
  omega
/-- the strange vowels are others -/
theorem al_strange {l t : List Nat} (hl : 1 ≤ l.length) : AlEq l t l (l.filter fun c => !decide (c ∈ t)) = false := by
  unfold AlEq
  rw [Bool.and_eq_false_iff]
  refine .inr (decide_eq_false fun e => ?_)
  obtain ⟨c, r, rfl⟩ : ∃ c r, l = c :: r := by
    cases l with
    | nil => cases hl
    | cons c r => exact ⟨c, r, rfl⟩
  have h : c ∈ srtL t ↔ c ∈ srtL ((c :: r).filter fun c => !decide (c ∈ t)) := by rw [e]
  rw [srtL_mem, srtL_mem, List.mem_filter] at h
  by_cases hc : c ∈ t
  · have := (h.mp hc).2
    simp [hc] at this
  · exact hc (h.mpr ⟨List.mem_cons_self, by simp [hc]⟩)
theorem al_same (l t : List Nat) : AlEq l t l t = true := by
  unfold AlEq
  rw [decide_eq_true rfl, decide_eq_true rfl]
  rfl
theorem due_al {l t : List Nat} (h1 : 1 ≤ l.length) (h4 : l.length ≤ 4) (hd : Differ l azL) (hts : t.Sublist l) : dueT l t = "" := by
  unfold dueT
  rw [if_neg (by
    rintro (h | h | h)
    · omega
    · omega
    · exact h hd), if_neg (fun h => h ⟨hd.1.sublist hts, fun c hc => hts.subset hc⟩)]
/-- what may be said of the signs -/
theorem signs_ok {l : List Nat} (h1 : 1 ≤ l.length) (h4 : l.length ≤ 4) (hd : Differ l azL) : 2 ≤ (45 :: srtL l).length ∧ (45 :: srtL l).length ≤ 5 ∧ WideOk (45 :: srtL l) ∧ 32 ∉ 45 :: srtL l ∧ (45 :: srtL l).Nodup := by
  have hin : ∀ c ∈ 45 :: srtL l, c = 45 ∨ c ∈ azL := fun c hc => by
    rcases List.mem_cons.mp hc with h | h
    · exact .inl h
    · exact .inr (hd.2 c ((srtL_perm l).mem_iff.mp h))
  refine ⟨by rw [List.length_cons, srtL_len]; omega, by rw [List.length_cons, srtL_len]; omega, fun c hc => ?_, fun h => ?_, ?_⟩
  · rcases hin c hc with rfl | h
    · decide
    · exact az_ok c h
  · rcases hin 32 h with h | h
    · cases h
    · exact az32 h
  · refine List.nodup_cons.mpr ⟨fun h => ?_, srtL_nodup.mpr hd.1⟩
    have := hd.2 45 (srtL_mem.mp h)
    revert this
    decide +kernel
def shortL (l : List Nat) : List Nat := (l.drop (HT.sIx l.length 0 none)).take (HT.sIx l.length l.length (some (-1)) - HT.sIx l.length 0 none)
theorem shortL_sub (l : List Nat) : (shortL l).Sublist l := (List.take_sublist _ _).trans (List.drop_sublist _ _)
theorem tx_sub {t u : List Nat} (h : Tx t) (hs : u.Sublist t) : Tx u := ⟨Nat.le_trans hs.length_le h.1, fun c hc => h.2 c (hs.subset hc)⟩
end
section
set_option Elab.async false
set_option linter.all false
set_option maxRecDepth 100000
set_option maxHeartbeats 8000000
open PySem PySem.Spec PyProof.Rows L2


def stW (x b : Addr) (l t : List Nat) (al u z o : Addr) (v10 v11 v13 v14 v15 v16 v17 : Option V) : L2.St := [some (.ref x), some (.ref b), some (.str (S l)), some (.str (S (45 :: srtL l))), some (.str (S t)), none, some (.ref al), some (.ref u), some (.ref z), some (.ref o), v10, v11, none, v13, v14, v15, v16, v17]
structure LwI (C CB b g z o al u : Addr) (l t : List Nat) (H : Hp) (ks : List K1) (os ps : List (Addr × Row)) : Prop where
  I : DeI C CB b g z o al l t H ks os
  hR : RowsAt H u ps
  l1 : 1 ≤ l.length
  l4 : l.length ≤ 4
  hd : Differ l azL
  ts : t.Sublist l
  p8 : ps.length ≤ 8
  nu : u ≠ b ∧ u ≠ g ∧ u ≠ z ∧ u ≠ o
theorem LwI.same {C CB b g z o al u : Addr} {l t : List Nat} {H H' : Hp} {ks : List K1} {os ps : List (Addr × Row)} (h : LwI C CB b g z o al u l t H ks os ps) (s : Same H H') : LwI C CB b g z o al u l t H' ks os ps :=
  ⟨h.I.same s, h.hR.same s, h.l1, h.l4, h.hd, h.ts, h.p8, h.nu⟩
theorem LwI.off {C CB b g z o al u : Addr} {l t : List Nat} {H H' : Hp} {ks ks' : List K1} {os os' ps : List (Addr × Row)} (h : LwI C CB b g z o al u l t H ks os ps) (I : DeI C CB b g z o al l t H' ks' os') (f : OffD b g z o H H') : LwI C CB b g z o al u l t H' ks' os' ps := by
  refine ⟨I, ⟨f _ _ h.nu.1 h.nu.2.1 h.nu.2.2.1 h.nu.2.2.2 h.hR.1, fun q hq => ⟨?_, (h.hR.2 q hq).2⟩⟩, h.l1, h.l4, h.hd, h.ts, h.p8, h.nu⟩
  have hq1 := (h.hR.2 q hq).1
  obtain ⟨n1, n2⟩ := tup_box h.I.hB hq1
  refine f _ _ n1 n2 (fun e => ?_) (fun e => ?_) hq1
  · rw [e, h.I.hK.at_] at hq1
    cases hq1
  · rw [e, h.I.hO.1] at hq1
    cases hq1
def tL8 (C CB : Addr) : TS := fun D σ H => ∃ (x b g z o al u : Addr) (l t : List Nat) (ks : List K1) (os ps : List (Addr × Row)), σ = stW x b l t al u z o none none none none none none none ∧ LwI C CB b g z o al u l t H ks os ps ∧ ks.length = 1 ∧ os.length = 1 ∧
  ∀ (ks' : List K1) (os' : List (Addr × Row)) (H' : Hp) (v10 : Option V), LwI C CB b g z o al u l t H' ks' os' ps → ks'.length ≤ 30 → os'.length ≤ 10 → D.nx (stW x b l t al u z o v10 none none none none none none) H'
def tL9 (C CB : Addr) : TS := fun D σ H => ∃ (x b g z o al u : Addr) (l t : List Nat) (ks : List K1) (os ps : List (Addr × Row)) (v10 : Option V), σ = stW x b l t al u z o v10 none none none none none none ∧ LwI C CB b g z o al u l t H ks os ps ∧ os.length ≤ 10 ∧
  ∀ (ww : Addr) (ts : List (List Nat)) (H' : Hp), Same H H' → H' ww = some (.lst (ts.map fun t => V.str (S t))) → ts.length ≤ 100 → (∀ t ∈ ts, Tx t) → D.nx (stW x b l t al u z o v10 (some (.ref ww)) none none none none none) H'
def tL10 (C : Addr) : TS := fun D σ H => ∃ (x b z o al u : Addr) (l t : List Nat) (v10 v11 : Option V), σ = stW x b l t al u z o v10 v11 none none none none none ∧ 1 ≤ l.length ∧ l.length ≤ 4 ∧ Differ l azL ∧
  ∀ (al2 : Addr) (H' : Hp), Same H H' → IsAl C H' al2 l (l.filter fun c => !decide (c ∈ t)) → D.nx (stW x b l t al u z o v10 v11 (some (.ref al2)) none none none none) H'
def tL11 (C CB : Addr) : TS := fun D σ H => ∃ (x b g z o al u ww : Addr) (l t : List Nat) (ks : List K1) (os ps : List (Addr × Row)) (ts : List (List Nat)) (v10 v13 : Option V), σ = stW x b l t al u z o v10 (some (.ref ww)) v13 none none none none ∧ LwI C CB b g z o al u l t H ks os ps ∧ ks.length ≤ 30 ∧
  H ww = some (.lst (ts.map fun t => V.str (S t))) ∧ ts.length ≤ 100 ∧ (∀ t ∈ ts, Tx t) ∧
  ∀ (u' : Addr) (v14 v15 v16 : Option V) (H' : Hp), Same H H' → D.nx (stW x b l t al u' z o v10 (some (.ref ww)) v13 v14 v15 v16 none) H'
def tL12 (C CB : Addr) : TS := fun D σ H => ∃ (x b g z o al u u' : Addr) (l t : List Nat) (ks : List K1) (os ps : List (Addr × Row)) (v10 v11 v13 v14 v15 v16 : Option V), σ = stW x b l t al u' z o v10 v11 v13 v14 v15 v16 none ∧ LwI C CB b g z o al u l t H ks os ps ∧
  ∀ k ∈ ks, D.nx (stW x b l t al k.u z o v10 v11 v13 v14 (some (.ref k.bk)) v16 none) H
def tL13 : TS := fun D σ H => ∃ (x b z o al u : Addr) (l t : List Nat) (ps : List (Addr × Row)) (v10 v11 v13 v14 v15 v16 : Option V), σ = stW x b l t al u z o v10 v11 v13 v14 v15 v16 none ∧ RowsAt H u ps ∧ ps.length ≤ 8 ∧
  ∀ (tw : Addr) (H' : Hp), Same H H' → RowsAt H' tw ps.reverse → D.nx (stW x b l t al u z o v10 v11 v13 v14 v15 v16 (some (.ref tw))) H'
def tL14 (C CB : Addr) : TS := fun D σ H => ∃ (x b g z o al u tw : Addr) (l t : List Nat) (ks : List K1) (os ps : List (Addr × Row)) (k : K1) (v10 v11 v13 v14 v16 : Option V), σ = stW x b l t al k.u z o v10 v11 v13 v14 (some (.ref k.bk)) v16 (some (.ref tw)) ∧ LwI C CB b g z o al u l t H ks os ps ∧ k ∈ ks ∧ RowsAt H tw k.ps.reverse ∧
  ∀ (H' : Hp), Same H H' → D.nx (stW x b l t al k.u z o v10 v11 v13 v14 (some (.ref k.bk)) v16 (some (.ref tw))) H'
def tL15 (C CB : Addr) : TS := fun D σ H => ∃ (x b g z o al u al2 : Addr) (l t : List Nat) (ks : List K1) (os ps : List (Addr × Row)) (k : K1) (v10 v11 v14 v16 v17 : Option V), σ = stW x b l t al k.u z o v10 v11 (some (.ref al2)) v14 (some (.ref k.bk)) v16 v17 ∧ LwI C CB b g z o al u l t H ks os ps ∧ k ∈ ks ∧
  IsAl C H al2 l (l.filter fun c => !decide (c ∈ t)) ∧ ∀ (H' : Hp), D.rt (.bl true) H'
section
variable {P : Program} {w : World} {K : PySem.W.Frag} {mg : Str → Option Value} {base : Heap} {a : Ad} {d : Fd} {c : Er} {C B CB fA fBq : Addr} {fdA fdBq : FuncData} {mc mcB : Value} {tm tj tl tmB : Tok}
theorem scLaw : FnScope ["_law_script", "_law_box_here", "_law_letters_here", "_law_signs", "_law_vowels", "_law_sign", "_law_alphabet", "_law_rows_here", "_law_kept", "_law_offered", "_law_turn", "_law_words", "_law_row", "_law_strange", "_law_k", "_law_book_here", "_law_other", "_law_twin"] ["_law_script"] (defScope sLaw) := ⟨rfl, rfl, rfl, by decide +kernel, rfl, by decide +kernel, by decide +kernel⟩
theorem ok_law (T : Fns K mg a d) (AV : AlV K mg C mc tm tj tl) (MA : Mk K C fA) (BV : BkV K mg CB mcB tmB)
    (GA : FnOk P w K mg base (L2.CX P w) 3 fA fdA ["self", "letters", "vowels"] (spAl C B)) (bA : Binds K fdA ["self", "letters", "vowels"] []) (GBoxB : FnOk P w K mg base CX0 1 a.aBoxB d.dBoxB ["_law_script"] (spBoxB K))
    (GBookL : FnOk P w K mg base (L2.CX P w) 6 a.aBookL d.dBookL ["_law_alphabet", "_law_rows_here"] (spBookL C CB c))
    (GDeed : FnOk P w K mg base CX0 9 a.aDeed d.dDeed ["_law_box_here", "_law_signs", "_law_kept", "_law_offered", "_law_way"] (spDeed C CB))
    (GHolds : FnOk P w K mg base CX0 6 a.aHolds d.dHolds ["_law_book_here", "_law_rows_here", "_law_words"] (spHolds CB))
    (hsB : PySem.W.findIn K (.ref CB) "__eq__" = some (some (.ref fBq))) (hfB : PySem.W.isFn K (.ref fBq) = true) (GBq : FnOk P w K mg base CX0 2 fBq fdBq ["self", "other"] (spBEq C CB)) (bBq : Binds K fdBq ["self", "other"] []) (nB : PySem.W.notFirst K CB (.ref CB) = true) :
    FnOk P w K mg base CX0 10 a.aLaw d.dLaw ["_law_script"] (spLaw K) := by
  have GDraw : FnOk P w K mg base CX0 1 a.aDraw d.dDraw ["_law_box_here", "_law_many"] spDraw := gDraw T
  have GLetters := ok_letters (P := P) (w := w) (base := base) T
  have GRows := ok_rows (P := P) (w := w) (base := base) T
  refine T.FLaw.ok scLaw (fun vs H Q E h => ?_) (fun cdv A0 outer s H vs Q E hr h => ?_)
  · obtain ⟨x, ns, rfl, _⟩ := h
    rfl
  · obtain ⟨x, ns, rfl, hS, hl63, k⟩ := h
    refine ⟨_, ((pss_cons (ps_set (i := 1) scLaw.nd rfl (Or.inr rfl) (pe_call GBoxB (hr.mono (by decide)) (by rfl) T.gBoxB T.FBoxB.kp T.bBoxB .nil pass0 (pa_cons (pv 0) pa_nil)))
      (pss_cons (ps_set (i := 2) scLaw.nd rfl (Or.inl rfl) (pe_call GLetters (hr.mono (by decide)) (by rfl) T.gLetters T.FLetters.kp T.bLetters .nil pass0 (pa_cons (pv 1) (pa_cons (pe_ix (r := rIxL K) ix_list (pe_lst (pa_cons pe_int (pa_cons pe_int (pa_cons pe_int (pa_cons pe_int pa_nil))))) (pe_call GDraw (hr.mono (by decide)) (by rfl) T.gDraw T.FDraw.kp T.bDraw .nil pass0 (pa_cons (pv 1) (pa_cons pe_int pa_nil))) (fun _ _ => rfl)) pa_nil))))
      (pss_cons (ps_set (i := 3) scLaw.nd rfl (Or.inl rfl) (pe_op op_addS (pe_strS (l := [45]) (by decide +kernel)) (pe_join (pe_strS (l := []) (by decide +kernel)) (pe_callB (cr_sortT rfl) (by rfl) T.z_sorted (by decide +kernel) (pa_cons (pv 2) pa_nil)))))
      (pss_cons (ps_set (i := 4) scLaw.nd rfl (Or.inr rfl) (pe_join (pe_strS (l := []) (by decide +kernel)) (pe_lc (own := [("_law_sign", 5)]) (g := gName 5) (by rfl) scLaw.nd (pi_str (pv 2)) (blkOk_by (own := [("_law_sign", 5)]) (N := ["_law_script", "_law_box_here", "_law_letters_here", "_law_signs", "_law_vowels", "_law_sign", "_law_alphabet", "_law_rows_here", "_law_kept", "_law_offered", "_law_turn", "_law_words", "_law_row", "_law_strange", "_law_k", "_law_book_here", "_law_other", "_law_twin"]) (sc := defScope sLaw) (by decide +kernel)) (fun _ _ _ _ _ => pg_name (i := 5) scLaw.nd rfl (Or.inl rfl)) (fun _ _ _ _ _ => (pts_one (pt_cmpR op_eq (pe_call GDraw (hr.mono (by decide)) (by rfl) T.gDraw T.FDraw.kp T.bDraw .nil pass0 (pa_cons (pv 1) (pa_cons pe_int pa_nil))) pe_int (nomark _)))) (fun _ _ _ _ _ => (pv 5)))))
      (pss_cons (ps_set (i := 6) scLaw.nd rfl (Or.inl rfl) (pe_make MA GA (hr.mono (by decide)) (by rfl) AV.gC bA .nil passE (pa_cons (pv 2) (pa_cons (pv 4) pa_nil))))
      (pss_cons (ps_set (i := 7) scLaw.nd rfl (Or.inr rfl) (pe_call GRows (hr.mono (by decide)) (by rfl) T.gRows T.FRows.kp T.bRows .nil pass0 (pa_cons (pv 1) (pa_cons (pv 3) (pa_cons (pe_ix (r := rIxL K) ix_list (pe_lst (pa_cons pe_int (pa_cons pe_int (pa_cons pe_int (pa_cons pe_int (pa_cons pe_int (pa_cons pe_int (pa_cons pe_int (pa_cons pe_int pa_nil))))))))) (pe_call GDraw (hr.mono (by decide)) (by rfl) T.gDraw T.FDraw.kp T.bDraw .nil pass0 (pa_cons (pv 1) (pa_cons pe_int pa_nil))) (fun _ _ => rfl)) (pa_cons (pe_ix (r := rIxL K) ix_list (pe_lst (pa_cons pe_int (pa_cons pe_int pa_nil))) (pe_call GDraw (hr.mono (by decide)) (by rfl) T.gDraw T.FDraw.kp T.bDraw .nil pass0 (pa_cons (pv 1) (pa_cons pe_int pa_nil))) (fun _ _ => rfl)) pa_nil))))))
      (pss_cons (ps_set (i := 8) scLaw.nd rfl (Or.inl rfl) (pe_lst (pa_cons (pe_lst (pa_cons (pe_call GBookL (hr.mono (by decide)) (by rfl) T.gBookL T.FBookL.kp T.bBookL .nil passE (pa_cons (pv 6) (pa_cons (pv 7) pa_nil))) (pa_cons (pv 7) pa_nil))) pa_nil)))
      (pss_cons (ps_set (i := 9) scLaw.nd rfl (Or.inl rfl) (pe_lst (pa_cons (pe_tup (pa_cons (pe_strS (l := [97, 97]) (by decide +kernel)) (pa_cons (pv 3) (pa_cons (pe_ix ix_str (pv 3) pe_int (fun _ _ => rfl)) (pa_cons (pe_strS (l := [97, 110, 121]) (by decide +kernel)) pa_nil))))) pa_nil)))
      (pss_cons (PS.imp (t' := tL8 C CB) (ps_for PassesOwn.never rfl (pi_range1 (by rfl) T.z_range (pa_cons (pe_ix (r := rIxL K) ix_list (pe_lst (pa_cons pe_int (pa_cons pe_int (pa_cons pe_int (pa_cons pe_int (pa_cons pe_int (pa_cons pe_int (pa_cons pe_int (pa_cons pe_int pa_nil))))))))) (pe_call GDraw (hr.mono (by decide)) (by rfl) T.gDraw T.FDraw.kp T.bDraw .nil pass0 (pa_cons (pv 1) (pa_cons pe_int pa_nil))) (fun _ _ => rfl)) pa_nil)) (pg_name (i := 10) scLaw.nd rfl (Or.inl rfl)) (pss_one (ps_if (pt_not (pt_val (pe_call GDeed (hr.mono (by decide)) (by rfl) T.gDeed T.FDeed.kp T.bDeed .nil pass0 (pa_cons (pv 1) (pa_cons (pv 3) (pa_cons (pv 8) (pa_cons (pv 9) (pa_cons (pe_op op_mod (pe_callTy call_int1 (by rfl) T.z_int (by decide +kernel) (pa_cons (pe_op op_add (pe_call GDraw (hr.mono (by decide)) (by rfl) T.gDraw T.FDraw.kp T.bDraw .nil pass0 (pa_cons (pv 1) (pa_cons pe_int pa_nil))) (pv 10)) pa_nil)) pe_int) pa_nil)))))))) (pss_one (ps_ret pe_bl)) pss_nil))) ?h8)
      (pss_cons (PS.imp (t' := tL9 C CB) (ps_set (i := 11) scLaw.nd rfl (Or.inl rfl) (pe_op op_cat (pe_op op_cat (pe_op op_cat (pe_lst (pa_cons (pe_strS (l := []) (by decide +kernel)) (pa_cons (pe_strS (l := [65]) (by decide +kernel)) pa_nil))) (pe_lc (own := [("_law_row", 12)]) (g := gName 12) (by rfl) scLaw.nd (pi_list (pe_op op_cat (pv 7) (pv 9))) (blkOk_by (own := [("_law_row", 12)]) (N := ["_law_script", "_law_box_here", "_law_letters_here", "_law_signs", "_law_vowels", "_law_sign", "_law_alphabet", "_law_rows_here", "_law_kept", "_law_offered", "_law_turn", "_law_words", "_law_row", "_law_strange", "_law_k", "_law_book_here", "_law_other", "_law_twin"]) (sc := defScope sLaw) (by decide +kernel)) (fun _ _ _ _ _ => pg_name (i := 12) scLaw.nd rfl (Or.inl rfl)) (fun _ _ _ _ _ => pts_nil) (fun _ _ _ _ _ => (pe_ix (r := rIxT K) ix_tup (pv 12) pe_int (fun _ _ => rfl))))) (pe_lc (own := [("_law_row", 12)]) (g := gName 12) (by rfl) scLaw.nd (pi_list (pv 7)) (blkOk_by (own := [("_law_row", 12)]) (N := ["_law_script", "_law_box_here", "_law_letters_here", "_law_signs", "_law_vowels", "_law_sign", "_law_alphabet", "_law_rows_here", "_law_kept", "_law_offered", "_law_turn", "_law_words", "_law_row", "_law_strange", "_law_k", "_law_book_here", "_law_other", "_law_twin"]) (sc := defScope sLaw) (by decide +kernel)) (fun _ _ _ _ _ => pg_name (i := 12) scLaw.nd rfl (Or.inl rfl)) (fun _ _ _ _ _ => pts_nil) (fun _ _ _ _ _ => (pe_slice sl_str (pe_ix (r := rIxT K) ix_tup (pv 12) pe_int (fun _ _ => rfl)) po_none (po_some (pe_un un_neg pe_int)))))) (pe_lc (own := [("_law_row", 12)]) (g := gName 12) (by rfl) scLaw.nd (pi_list (pv 7)) (blkOk_by (own := [("_law_row", 12)]) (N := ["_law_script", "_law_box_here", "_law_letters_here", "_law_signs", "_law_vowels", "_law_sign", "_law_alphabet", "_law_rows_here", "_law_kept", "_law_offered", "_law_turn", "_law_words", "_law_row", "_law_strange", "_law_k", "_law_book_here", "_law_other", "_law_twin"]) (sc := defScope sLaw) (by decide +kernel)) (fun _ _ _ _ _ => pg_name (i := 12) scLaw.nd rfl (Or.inl rfl)) (fun _ _ _ _ _ => pts_nil) (fun _ _ _ _ _ => (pe_ix (r := rIxT K) ix_tup (pv 12) pe_int (fun _ _ => rfl)))))) ?h9)
      (pss_cons (PS.imp (t' := tL10 C) (ps_set (i := 13) scLaw.nd rfl (Or.inl rfl) (pe_make MA GA (hr.mono (by decide)) (by rfl) AV.gC bA .nil passE (pa_cons (pv 2) (pa_cons (pe_join (pe_strS (l := []) (by decide +kernel)) (pe_lc (own := [("_law_sign", 5)]) (g := gName 5) (by rfl) scLaw.nd (pi_str (pv 2)) (blkOk_by (own := [("_law_sign", 5)]) (N := ["_law_script", "_law_box_here", "_law_letters_here", "_law_signs", "_law_vowels", "_law_sign", "_law_alphabet", "_law_rows_here", "_law_kept", "_law_offered", "_law_turn", "_law_words", "_law_row", "_law_strange", "_law_k", "_law_book_here", "_law_other", "_law_twin"]) (sc := defScope sLaw) (by decide +kernel)) (fun _ _ _ _ _ => pg_name (i := 5) scLaw.nd rfl (Or.inl rfl)) (fun _ _ _ _ _ => (pts_one (pt_cmpR op_notInS (pv 5) (pv 4) rfl))) (fun _ _ _ _ _ => (pv 5)))) pa_nil)))) ?h10)
      (pss_cons (PS.imp (t' := tL11 C CB) (ps_for PassesOwn.never rfl (pi_range1 (by rfl) T.z_range (pa_cons (pe_callB call_len_seq (by rfl) T.z_len (by decide +kernel) (pa_cons (pv 8) pa_nil)) pa_nil)) (pg_name (i := 14) scLaw.nd rfl (Or.inl rfl)) (pss_cons (ps_asg (pe_ix (r := rIxL K) ix_list (pv 8) (pv 14) (fun _ _ => rfl)) (pg_lst rfl (pgs_cons (pg_name (i := 15) scLaw.nd rfl (Or.inl rfl)) (pgs_cons (pg_name (i := 7) scLaw.nd rfl (Or.inr rfl)) pgs_nil))))
      (pss_cons (ps_if (pt_not (pt_val (pe_call GHolds (hr.mono (by decide)) (by rfl) T.gHolds T.FHolds.kp T.bHolds .nil pass0 (pa_cons (pv 15) (pa_cons (pv 7) (pa_cons (pv 11) pa_nil)))))) (pss_one (ps_ret pe_bl)) pss_nil)
      (pss_one (ps_for PassesOwn.never rfl (pi_list (pe_slice sl_list (pv 8) po_none (po_some (pv 14)))) (pg_name (i := 16) scLaw.nd rfl (Or.inl rfl)) (pss_one (ps_if (pt_cmpR op_ne (pe_cmpR (op_ownI (fun _ _ => rfl) hsB hfB GBq (hr.mono (by decide)) bBq pass0) (pv 15) (pe_ix (r := rIxL K) ix_list (pv 16) pe_int (fun _ _ => rfl)) (nomark _)) (pe_cmpR (op_eqD hr.units) (pe_callB cr_sort4 (by rfl) T.z_sorted (by decide +kernel) (pa_cons (pv 7) pa_nil)) (pe_callB cr_sort4 (by rfl) T.z_sorted (by decide +kernel) (pa_cons (pe_ix (r := rIxL K) ix_list (pv 16) pe_int (fun _ _ => rfl)) pa_nil)) (nomark _)) (nomark _)) (pss_one (ps_ret pe_bl)) pss_nil))))))) ?h11)
      (pss_cons (PS.imp (t' := tL12 C CB) (ps_asg (pe_ix (r := rIxL K) ix_list (pv 8) (pe_un un_neg pe_int) (fun _ _ => rfl)) (pg_lst rfl (pgs_cons (pg_name (i := 15) scLaw.nd rfl (Or.inl rfl)) (pgs_cons (pg_name (i := 7) scLaw.nd rfl (Or.inr rfl)) pgs_nil)))) ?h12)
      (pss_cons (PS.imp (t' := tL13) (ps_setLc (i := 17) (own := [("_law_k", 14)]) (g := gName 14) (by rfl) scLaw.nd rfl rfl (by rfl) (pi_range1 (by rfl) T.z_range (pa_cons (pe_callB call_len_seq (by rfl) T.z_len (by decide +kernel) (pa_cons (pv 7) pa_nil)) pa_nil)) (blkOk_by (own := [("_law_k", 14)]) (N := ["_law_script", "_law_box_here", "_law_letters_here", "_law_signs", "_law_vowels", "_law_sign", "_law_alphabet", "_law_rows_here", "_law_kept", "_law_offered", "_law_turn", "_law_words", "_law_row", "_law_strange", "_law_k", "_law_book_here", "_law_other", "_law_twin"]) (sc := defScope sLaw) (by decide +kernel)) (fun _ _ _ _ _ => pg_name (i := 14) scLaw.nd rfl (Or.inl rfl)) (fun _ _ _ _ _ => pts_nil) (fun _ _ _ _ _ => (pe_ix (r := rIxL K) ix_list (pv 7) (pe_op op_sub (pe_op op_sub (pe_callB (id := "len") (r := rLenS K) call_len_seq (by rfl) T.z_len (by decide +kernel) (pa_cons (pv 7) pa_nil)) pe_int) (pv 14)) (fun _ _ => rfl)))) ?h13)
      (pss_cons (PS.imp (t' := tL14 C CB) (ps_if (pt_not (pt_cmpR (op_ownI (fun _ _ => rfl) hsB hfB GBq (hr.mono (by decide)) bBq pass0) (pv 15) (pe_call GBookL (hr.mono (by decide)) (by rfl) T.gBookL T.FBookL.kp T.bBookL .nil passE (pa_cons (pv 6) (pa_cons (pv 17) pa_nil))) (nomark _))) (pss_one (ps_ret pe_bl)) pss_nil) ?h14)
      (pss_one (PS.imp (t' := tL15 C CB) (ps_ret (pe_not (pe_cmpR (op_ownI (fun _ _ => rfl) hsB hfB GBq (hr.mono (by decide)) bBq pass0) (pv 15) (pe_call GBookL (hr.mono (by decide)) (by rfl) T.gBookL T.FBookL.kp T.bBookL .nil passE (pa_cons (pv 13) (pa_cons (pv 7) pa_nil))) (nomark _)))) ?h15)))))))))))))))))), ?_⟩
    case h8 =>
      rintro ⟨D1, D2, D3, D4⟩ σ H ⟨x, b, g, z, o, al, u, l, t, ks, os, ps, rfl, I, hkl, hol, kk⟩
      --H8
      walk_at "go"
      rename_i L hL
      have s1 : Same H (upd H L (.lst [V.int 6, V.int 1, V.int 2, V.int 3, V.int 4, V.int 5, V.int 7, V.int 8])) := upd_laid hL
      have hL1 : (upd H L (.lst [V.int 6, V.int 1, V.int 2, V.int 3, V.int 4, V.int 5, V.int 7, V.int 8])) L = some (.lst [V.int 6, V.int 1, V.int 2, V.int 3, V.int 4, V.int 5, V.int 7, V.int 8]) := upd_same
      have I1 := I.same s1
      obtain ⟨⟨ob, hob⟩, ⟨og, hog⟩⟩ := I.I.hB.al
      have nL : L ≠ b ∧ L ≠ g := ⟨(ne_of_none hob hL).symm, (ne_of_none hog hL).symm⟩
      generalize upd H L (.lst [V.int 6, V.int 1, V.int 2, V.int 3, V.int 4, V.int 5, V.int 7, V.int 8]) = H1 at s1 hL1 I1
      refine ⟨b, g, _, rfl, I1.I.hB, by decide, fun r H2 hr hB2 hk2 => ?_⟩
      obtain ⟨n, hn, hn8⟩ : ∃ n : Nat, ([V.int 6, V.int 1, V.int 2, V.int 3, V.int 4, V.int 5, V.int 7, V.int 8] : List V)[r]? = some (.int (n : Int)) ∧ n ≤ 8 := by
        match r, (by omega : r < 8) with
        | 0, _ => exact ⟨6, rfl, by decide⟩
        | 1, _ => exact ⟨1, rfl, by decide⟩
        | 2, _ => exact ⟨2, rfl, by decide⟩
        | 3, _ => exact ⟨3, rfl, by decide⟩
        | 4, _ => exact ⟨4, rfl, by decide⟩
        | 5, _ => exact ⟨5, rfl, by decide⟩
        | 6, _ => exact ⟨7, rfl, by decide⟩
        | 7, _ => exact ⟨8, rfl, by decide⟩
      have I2 := I1.off (I1.I.draw hB2 hk2) (hk2.offD z o)
      have hL2 := hk2 _ _ nL.1 nL.2 hL1
      obtain ⟨sg1, sg2, sgw, sg32, sgn⟩ := signs_ok I.l1 I.l4 I.hd
      walk_at "go"
      rw [Int.toNat_natCast]
      refine for_R (fun i σ H' => Stop (∃ (ks' : List K1) (os' : List (Addr × Row)) (v10 : Option V), σ = stW x b l t al u z o v10 none none none none none none ∧ LwI C CB b g z o al u l t H' ks' os' ps ∧ ks'.length ≤ 1 + 3 * i ∧ os'.length ≤ 1 + i)) ⟨ks, os, none, rfl, I2, by omega, by omega⟩ ?_ ?_
      · rintro i σ H' hi ⟨ks', os', v10, rfl, I', h1, h2⟩
        walk_at "go"
        refine ⟨b, g, _, rfl, I'.I.hB, by decide, fun r3 H3 hr3 hB3 hk3 => ?_⟩
        have I3 := I'.off (I'.I.draw hB3 hk3) (hk3.offD z o)
        walk_at "go"
        obtain ⟨way, hway⟩ : ∃ way : Nat, ((r3 : Int) + (0 + (i : Int))) % 6 = (way : Int) := ⟨(((r3 : Int) + (0 + (i : Int))) % 6).toNat, by omega⟩
        rw [hway]
        refine ⟨b, g, z, o, al, l, t, ks', os', way, rfl, I3.I, by omega, by omega, by omega, by omega, sgw, sg32, fun ks4 os4 H4 I4 a1 a2 a3 => ?_⟩
        walk_at "go"
        exact ⟨ks4, os4, _, rfl, I3.off I4 a3, by omega, by omega⟩
      · rintro σ H' ⟨ks', os', v10, rfl, I', h1, h2⟩
        exact kk ks' os' H' v10 I' (by omega) (by omega)
    case h9 =>
      rintro ⟨D1, D2, D3, D4⟩ σ H ⟨x, b, g, z, o, al, u, l, t, ks, os, ps, v10, rfl, I, hol, kk⟩
      --H9
      walk_at "go"
      rename_i p1 hp1
      have s1 : Same H (upd H p1 (.lst [V.str (S []), V.str (S [65])])) := upd_laid hp1
      have hp11 : (upd H p1 (.lst [V.str (S []), V.str (S [65])])) p1 = some (.lst ([[], [65]].map fun t => V.str (S t))) := upd_same
      have I1 := I.same s1
      generalize upd H p1 (.lst [V.str (S []), V.str (S [65])]) = H1 at s1 hp11 I1
      have pl := I.p8
      refine ⟨u, o, _, _, rfl, rfl, I1.hR.1, I1.I.hO.1, by rw [List.length_map, List.length_map, sizeLine_eq]; omega, fun p2 hp2 => ?_⟩
      have s2 := Same.trans s1 (upd_laid (o := .lst ((ps.map fun q => V.ref q.1) ++ os.map fun q => V.ref q.1)) hp2)
      have hp21 := (upd_laid (o := .lst ((ps.map fun q => V.ref q.1) ++ os.map fun q => V.ref q.1)) hp2) _ _ hp11
      have hp22 : (upd H1 p2 (.lst ((ps.map fun q => V.ref q.1) ++ os.map fun q => V.ref q.1))) p2 = some (.lst ((ps ++ os).map fun q => V.ref q.1)) := by rw [upd_same, List.map_append]
      have I2 := I.same s2
      generalize upd H1 p2 (.lst ((ps.map fun q => V.ref q.1) ++ os.map fun q => V.ref q.1)) = H2 at s2 hp21 hp22 I2
      have tup : ∀ q ∈ ps ++ os, H q.1 = some (.tup q.2.vs) ∧ q.2.ok := fun q hq => by
        rcases List.mem_append.mp hq with m | m
        · exact I.hR.2 q m
        · exact I.I.hO.2 q m
      walk_at "go"
      rename_i D3 hD3
      have offH : ∀ {H2 : Hp} {D : Addr} {q : Addr × Row} {H3 : Hp}, Same H H2 → H2 D = none → q ∈ ps ++ os → (∀ b, b ≠ D → H3 b = H2 b) → H3 q.1 = some (.tup q.2.vs) := fun {H2 D q H3} s hD hq off => (off q.1 (ne_of_none (s _ _ (tup q hq).1) hD)).trans (s _ _ (tup q hq).1)
      refine lc_lst (fun q : Addr × Row => V.ref q.1) (fun _ => true) (fun q => V.str (S q.2.n)) (by rw [List.length_append]; omega) hp22 hD3 (fun _ => rfl) (fun _ _ _ _ _ q => q) (fun q hq _ H3 Q3 off k3 => ⟨_, rfl, q.1, _, 0, _, rfl, rfl, SqT.of (offH s2 hD3 hq off), rfl, k3⟩) ?_
      rw [col_map]
      have s3 := Same.trans s2 (upd_laid (o := .lst ((ps ++ os).map fun q => V.str (S q.2.n))) hD3)
      have h31 := (upd_laid (o := .lst ((ps ++ os).map fun q => V.str (S q.2.n))) hD3) _ _ hp21
      have h32 : (upd H2 D3 (.lst ((ps ++ os).map fun q => V.str (S q.2.n)))) D3 = some (.lst (((ps ++ os).map fun q : Addr × Row => q.2.n).map fun t => V.str (S t))) := by
        rw [upd_same, List.map_map]
        rfl
      generalize upd H2 D3 (.lst ((ps ++ os).map fun q => V.str (S q.2.n))) = H3 at s3 h31 h32
      refine ⟨p1, D3, _, _, rfl, rfl, h31, h32, by simp only [List.length_map, List.length_append, List.length_cons, List.length_nil, sizeLine_eq]; omega, fun p4 hp4 => ?_⟩
      rw [← List.map_append]
      have s4 := Same.trans s3 (upd_laid (o := .lst (([[], [65]] ++ (ps ++ os).map fun q : Addr × Row => q.2.n).map fun t => V.str (S t))) hp4)
      have h4 : (upd H3 p4 (.lst (([[], [65]] ++ (ps ++ os).map fun q : Addr × Row => q.2.n).map fun t => V.str (S t)))) p4 = some (.lst (([[], [65]] ++ (ps ++ os).map fun q : Addr × Row => q.2.n).map fun t => V.str (S t))) := upd_same
      have ht4 : ∀ t ∈ ([[], [65]] ++ (ps ++ os).map fun q : Addr × Row => q.2.n), Tx t := fun t ht => by
        rcases List.mem_append.mp ht with m | m
        · rcases List.mem_cons.mp m with rfl | m
          · exact ⟨by decide, by decide⟩
          · rw [List.mem_singleton] at m
            subst m
            exact ⟨by decide, by decide⟩
        · obtain ⟨q, hq, rfl⟩ := List.mem_map.mp m
          exact (tup q hq).2.1
      have hl4 : ([[], [65]] ++ (ps ++ os).map fun q : Addr × Row => q.2.n).length ≤ 20 := by
        simp only [List.length_map, List.length_append, List.length_cons, List.length_nil]
        omega
      generalize ([[], [65]] ++ (ps ++ os).map fun q : Addr × Row => q.2.n) = ts4 at h4 ht4 hl4 s4
      generalize upd H3 p4 (.lst (ts4.map fun t => V.str (S t))) = H4 at s4 h4
      have hR4 := (I.hR.same s4).1
      walk_at "go"
      rename_i D5 hD5
      refine lc_lst (fun q : Addr × Row => V.ref q.1) (fun _ => true) (fun q => V.str (S (shortL q.2.n))) (by omega) hR4 hD5 (fun _ => rfl) (fun _ _ _ _ _ q => q) (fun q hq _ H3 Q3 off k3 => ?el) ?_
      case el =>
        have hq3 := offH s4 hD5 (List.mem_append_left os hq) off
        have hln := (tup q (List.mem_append_left os hq)).2.1.1
        have k4 : Q3 (.str (cutS (S q.2.n) none (some (-1)))) H3 := by
          rw [S_cut]
          exact k3
        walk_at "go"
        exact k4
      rw [col_map]
      have s5 := Same.trans s4 (upd_laid (o := .lst (ps.map fun q => V.str (S (shortL q.2.n)))) hD5)
      have h51 := (upd_laid (o := .lst (ps.map fun q => V.str (S (shortL q.2.n)))) hD5) _ _ h4
      have h52 : (upd H4 D5 (.lst (ps.map fun q => V.str (S (shortL q.2.n))))) D5 = some (.lst ((ps.map fun q : Addr × Row => shortL q.2.n).map fun t => V.str (S t))) := by
        rw [upd_same, List.map_map]
        rfl
      generalize upd H4 D5 (.lst (ps.map fun q => V.str (S (shortL q.2.n)))) = H5 at s5 h51 h52
      refine ⟨p4, D5, _, _, rfl, rfl, h51, h52, by simp only [List.length_map, sizeLine_eq]; omega, fun p6 hp6 => ?_⟩
      rw [← List.map_append]
      have s6 := Same.trans s5 (upd_laid (o := .lst ((ts4 ++ ps.map fun q : Addr × Row => shortL q.2.n).map fun t => V.str (S t))) hp6)
      have h6 : (upd H5 p6 (.lst ((ts4 ++ ps.map fun q : Addr × Row => shortL q.2.n).map fun t => V.str (S t)))) p6 = some (.lst ((ts4 ++ ps.map fun q : Addr × Row => shortL q.2.n).map fun t => V.str (S t))) := upd_same
      have ht6 : ∀ t ∈ (ts4 ++ ps.map fun q : Addr × Row => shortL q.2.n), Tx t := fun t ht => by
        rcases List.mem_append.mp ht with m | m
        · exact ht4 t m
        · obtain ⟨q, hq, rfl⟩ := List.mem_map.mp m
          exact tx_sub (tup q (List.mem_append_left os hq)).2.1 (shortL_sub _)
      have hl6 : (ts4 ++ ps.map fun q : Addr × Row => shortL q.2.n).length ≤ 28 := by
        simp only [List.length_map, List.length_append]
        omega
      generalize (ts4 ++ ps.map fun q : Addr × Row => shortL q.2.n) = ts6 at h6 ht6 hl6 s6
      generalize upd H5 p6 (.lst (ts6.map fun t => V.str (S t))) = H6 at s6 h6
      have hR6 := (I.hR.same s6).1
      walk_at "go"
      rename_i D7 hD7
      refine lc_lst (fun q : Addr × Row => V.ref q.1) (fun _ => true) (fun q => V.str (S q.2.l)) (by omega) hR6 hD7 (fun _ => rfl) (fun _ _ _ _ _ q => q) (fun q hq _ H3 Q3 off k3 => ⟨_, rfl, q.1, _, 1, _, rfl, rfl, SqT.of (offH s6 hD7 (List.mem_append_left os hq) off), rfl, k3⟩) ?_
      rw [col_map]
      have s7 := Same.trans s6 (upd_laid (o := .lst (ps.map fun q => V.str (S q.2.l))) hD7)
      have h71 := (upd_laid (o := .lst (ps.map fun q => V.str (S q.2.l))) hD7) _ _ h6
      have h72 : (upd H6 D7 (.lst (ps.map fun q => V.str (S q.2.l)))) D7 = some (.lst ((ps.map fun q : Addr × Row => q.2.l).map fun t => V.str (S t))) := by
        rw [upd_same, List.map_map]
        rfl
      generalize upd H6 D7 (.lst (ps.map fun q => V.str (S q.2.l))) = H7 at s7 h71 h72
      refine ⟨p6, D7, _, _, rfl, rfl, h71, h72, by simp only [List.length_map, sizeLine_eq]; omega, fun p8 hp8 => ?_⟩
      rw [← List.map_append]
      have s8 := Same.trans s7 (upd_laid (o := .lst ((ts6 ++ ps.map fun q : Addr × Row => q.2.l).map fun t => V.str (S t))) hp8)
      have ht8 : ∀ t ∈ (ts6 ++ ps.map fun q : Addr × Row => q.2.l), Tx t := fun t ht => by
        rcases List.mem_append.mp ht with m | m
        · exact ht6 t m
        · obtain ⟨q, hq, rfl⟩ := List.mem_map.mp m
          exact (tup q (List.mem_append_left os hq)).2.2.1
      walk_at "go"
      exact kk p8 _ _ s8 upd_same (by simp only [List.length_map, List.length_append]; omega) ht8
    case h10 =>
      rintro ⟨D1, D2, D3, D4⟩ σ H ⟨x, b, z, o, al, u, l, t, v10, v11, rfl, l1, l4, hdl, kk⟩
      --H10
      walk_at "go"
      unfold tMake
      walk_at "go"
      rename_i D hD
      have h1z : ([0] : List Nat).length = 1 := rfl
      refine lc_text (fun c => !decide (c ∈ t)) (fun c => V.str (S [c])) (by omega) (fun _ => rfl) (fun cc hc H2 Q2 off q => ?tt) (fun cc hc hp H2 Q2 off q => ?ee) ?_
      case tt =>
        walk_at "go"
        exact q
      case ee =>
        walk_at "go"
        exact q
      have s1 : Same H (upd H D (.lst ((l.filter fun c => !decide (c ∈ t)).map fun c => V.str (S [c])))) := upd_laid hD
      have h1 : (upd H D (.lst ((l.filter fun c => !decide (c ∈ t)).map fun c => V.str (S [c])))) D = some (.lst ((l.filter fun c => !decide (c ∈ t)).map fun c => V.str (S [c]))) := upd_same
      have hts : (l.filter fun c => !decide (c ∈ t)).Sublist l := List.filter_sublist
      generalize ht2 : (l.filter fun c => !decide (c ∈ t)) = t2 at s1 h1 hts kk
      generalize upd H D (.lst (t2.map fun c => V.str (S [c]))) = H1 at s1 h1
      have htl := hts.length_le
      have e0 : PySem.Str.ofString "" = S [] := by decide +kernel
      obtain ⟨b2, e3⟩ := joinedL (l := t2) (by omega)
      rw [e0] at b2 e3
      have hdue := due_al l1 l4 hdl hts
      refine ⟨_, D, t2.map fun c => S [c], rfl, rfl, .inl (SqL.of (by rw [h1, List.map_map]; rfl)), b2, ?_⟩
      rw [e3]
      walk_at "go"
      refine fun al2 d8 hx8 hd8 _ => ⟨al2, d8, l, t2, rfl, upd_same, by omega, by omega, fun _ H7 hA7 hk7 => ⟨rfl, ?_⟩, fun hne => absurd hdue hne⟩
      exact kk al2 H7 (Same.trans s1 (kp_newB hx8 hd8 hk7)) hA7
    case h11 =>
      rintro ⟨D1, D2, D3, D4⟩ σ H ⟨x, b, g, z, o, al, u, ww, l, t, ks, os, ps, ts, v10, v13, rfl, I, hkl, hw, hwl, hwt, kk⟩
      --H11
      have hz := I.I.hK.at_
      have hzl : (ks.map fun k => V.ref k.x).length = ks.length := List.length_map _
      walk_at "go"
      rw [hzl, Int.toNat_natCast]
      refine for_R (fun i σ H' => Stop (∃ (u' : Addr) (v14 v15 v16 : Option V), σ = stW x b l t al u' z o v10 (some (.ref ww)) v13 v14 v15 v16 none ∧ Same H H')) ⟨u, none, none, none, rfl, fun _ _ h => h⟩ ?_ ?_
      · rintro i σ H1 hi ⟨u', v14, v15, v16, rfl, s1⟩
        have I1 := I.same s1
        obtain ⟨k, hk⟩ : ∃ k, ks[i]? = some k := ⟨_, List.getElem?_eq_getElem hi⟩
        have hkm := List.mem_of_getElem? hk
        have hk1 := I1.I.hK.each k hkm
        have hz1 := I1.I.hK.at_
        have hat : atI (ks.map fun k => V.ref k.x) (0 + (i : Int)) = some (V.ref k.x) := by
          rw [Int.zero_add]
          exact atI_nat (by rw [List.getElem?_map, hk]; rfl)
        have hnd : (k.ps.map fun q => q.2.n).Nodup := names_map k.ps ▸ hk1.good.nodup
        have hndq : (k.qs.map fun q => q.2.n).Nodup := (hk1.perm.map fun q : Addr × Row => q.2.n).nodup_iff.mpr hnd
        have hkl8 := hk1.len
        have hql8 : k.qs.length ≤ 8 := by rw [hk1.perm.length_eq]; exact hk1.len
        walk_at "go"
        refine ⟨k.x, _, rfl, SqL.of hk1.at_, rfl, _, _, rfl, _, _, rfl, rfl, ?_⟩
        have hw1 := s1 _ _ hw
        have bk1 := hk1.book
        have rw1 := hk1.rows
        walk_at "go"
        refine ⟨k.bk, al, k.u, ww, k.ps, k.qs, ts, rfl, hk1.rows, by omega, hk1.book, hk1.perm, hk1.srt, hnd, hw1, by omega, hwt, fun H2 s2 => ?_⟩
        have s02 := Same.trans s1 s2
        have I2 := I1.same s2
        have hz2 := I2.I.hK.at_
        walk_at "go"
        rename_i p hp
        have s3 : Same H2 (upd H2 p (.lst (cutV (ks.map fun k => V.ref k.x) none (some (0 + (i : Int)))))) := upd_laid hp
        have ecut : cutV (ks.map fun k => V.ref k.x) none (some (0 + (i : Int))) = (ks.take i).map fun k => V.ref k.x := by rw [Int.zero_add, cut_to, List.map_take]
        have hp3 : (upd H2 p (.lst (cutV (ks.map fun k => V.ref k.x) none (some (0 + (i : Int)))))) p = some (.lst ((ks.take i).map fun k => V.ref k.x)) := by rw [upd_same, ecut]
        generalize upd H2 p (.lst (cutV (ks.map fun k => V.ref k.x) none (some (0 + (i : Int))))) = H3 at s3 hp3
        have s03 := Same.trans s02 s3
        refine for_L (xs := (ks.take i).map fun k => V.ref k.x) (fun j σ H' => Stop (∃ v16, σ = stW x b l t al k.u z o v10 (some (.ref ww)) v13 (some (.int (0 + (i : Int)))) (some (.ref k.bk)) v16 none ∧ Same H3 H')) ⟨v16, rfl, fun _ _ h => h⟩ (fun j σ H' hj hP => ?_) ?_ ?_
        · obtain ⟨w16, rfl, s4⟩ := hP
          exact SqL.of (s4 _ _ hp3)
        · rintro j y σ H4 hy ⟨w16, rfl, s4⟩
          rw [List.getElem?_map] at hy
          obtain ⟨k2, hk2, rfl⟩ := Option.map_eq_some_iff.mp hy
          have hk2m := List.mem_of_mem_take (List.mem_of_getElem? hk2)
          have s04 := Same.trans s03 s4
          have I4 := I.same s04
          have a1 := I4.I.hK.each k hkm
          have a2 := I4.I.hK.each k2 hk2m
          have hx2 := a2.at_
          have hnd2 : (k2.ps.map fun q => q.2.n).Nodup := names_map k2.ps ▸ a2.good.nodup
          have hndq2 : (k2.qs.map fun q => q.2.n).Nodup := (a2.perm.map fun q : Addr × Row => q.2.n).nodup_iff.mpr hnd2
          have hl82 := a2.len
          have hql2 : k2.qs.length ≤ 8 := by rw [a2.perm.length_eq]; exact a2.len
          obtain ⟨dx1, D1', b11, _⟩ := a1.book
          obtain ⟨dx2, D2', b21, _⟩ := a2.book
          walk_at "go"
          refine ⟨k.bk, dx1, _, k2.bk, CB, dx2, _, rfl, rfl, b11, b21, nB, k.bk, k2.bk, al, al, l, t, l, t, k.qs, k2.qs, rfl, a1.book, a2.book, I4.I.hA, I4.I.hA, hndq, hndq2, by omega, by omega, fun H5 s5 => ?_⟩
          have s05 := Same.trans s04 s5
          have I5 := I.same s05
          have c1 := I5.I.hK.each k hkm
          have c2 := I5.I.hK.each k2 hk2m
          rw [al_same, Bool.true_and]
          have hx5 := c2.at_
          walk_at "go"
          refine ⟨k.u, k.ps, rfl, SqL.of c1.rows.1, fun q hq => (c1.rows.2 q hq).1, fun rs p6 hpr hsr hn6 => ?_⟩
          have hrs := rows_eq c1.srt hsr c1.perm hpr hnd
          subst hrs
          have s6 := Same.trans s5 (upd_laid (o := .lst (k.qs.map fun q => V.ref q.1)) hn6)
          have h66 : (upd H5 p6 (.lst (k.qs.map fun q => V.ref q.1))) p6 = some (.lst (k.qs.map fun q => V.ref q.1)) := upd_same
          generalize upd H5 p6 (.lst (k.qs.map fun q => V.ref q.1)) = H6 at s6 h66
          have s06 := Same.trans s04 s6
          have I6 := I.same s06
          have d2 := I6.I.hK.each k2 hk2m
          have hx6 := d2.at_
          walk_at "go"
          refine ⟨k2.u, k2.ps, rfl, SqL.of d2.rows.1, fun q hq => (d2.rows.2 q hq).1, fun rs p7 hpr hsr hn7 => ?_⟩
          have hrs := rows_eq d2.srt hsr d2.perm hpr hnd2
          subst hrs
          have s7 := Same.trans s6 (upd_laid (o := .lst (k2.qs.map fun q => V.ref q.1)) hn7)
          have h76 := (upd_laid (o := .lst (k2.qs.map fun q => V.ref q.1)) hn7) _ _ h66
          have h77 : (upd H6 p7 (.lst (k2.qs.map fun q => V.ref q.1))) p7 = some (.lst (k2.qs.map fun q => V.ref q.1)) := upd_same
          generalize upd H6 p7 (.lst (k2.qs.map fun q => V.ref q.1)) = H7 at s7 h76 h77
          have s07 := Same.trans s04 s7
          have I7 := I.same s07
          have e1 := I7.I.hK.each k hkm
          have e2 := I7.I.hK.each k2 hk2m
          have t1 : ∀ q ∈ k.qs, H7 q.1 = some (.tup q.2.vs) ∧ q.2.ok := fun q hq => e1.rows.2 q (e1.perm.mem_iff.mp hq)
          have t2 : ∀ q ∈ k2.qs, H7 q.1 = some (.tup q.2.vs) ∧ q.2.ok := fun q hq => e2.rows.2 q (e2.perm.mem_iff.mp hq)
          refine ⟨.list (k.qs.map fun q => q.2.py), .list (k2.qs.map fun q => q.2.py), .lst (SqL.of h76) (dp_rows k.qs fun q hq => (t1 q hq).1), .lst (SqL.of h77) (dp_rows k2.qs fun q hq => (t2 q hq).1), shaped_rows (fun q hq => (t1 q hq).2), shaped_rows (fun q hq => (t2 q hq).2), ?_⟩
          rw [eqv_rows]
          walk_at "go"
          exact ⟨_, rfl, Same.trans s4 s7⟩
        · rintro σ H4 ⟨w16, rfl, s4⟩
          exact ⟨_, _, _, _, rfl, Same.trans s03 s4⟩
      · rintro σ H1 ⟨u', v14, v15, v16, rfl, s1⟩
        exact kk u' v14 v15 v16 H1 s1
    case h12 =>
      rintro ⟨D1, D2, D3, D4⟩ σ H ⟨x, b, g, z, o, al, u, u', l, t, ks, os, ps, v10, v11, v13, v14, v15, v16, rfl, I, kk⟩
      --H12
      obtain ⟨k, hk1, hkm, hki⟩ := I.I.hK.last
      have hk := I.I.hK.each k hkm
      have hz := I.I.hK.at_
      walk_at "go"
      refine ⟨k.x, _, rfl, SqL.of hk.at_, rfl, _, _, rfl, _, _, rfl, rfl, ?_⟩
      exact kk k hkm
    case h13 =>
      rintro ⟨D1, D2, D3, D4⟩ σ H ⟨x, b, z, o, al, u, l, t, ps, v10, v11, v13, v14, v15, v16, rfl, hR, hp8, kk⟩
      --H13
      have hu := hR.1
      have hul : (ps.map fun q => V.ref q.1).length = ps.length := List.length_map _
      walk_at "go"
      rename_i D hD
      rw [hul, Int.toNat_natCast]
      refine lcg_R (fun i H' => Stop (H' = upd H D (.lst ((ps.reverse.take i).map fun q => V.ref q.1)))) rfl (fun _ => rfl) ?_ ?_
      · rintro i H1 hi rfl
        obtain ⟨q, hq⟩ : ∃ q, ps.reverse[i]? = some q := ⟨_, List.getElem?_eq_getElem (by rw [List.length_reverse]; exact hi)⟩
        have hq2 : ps[ps.length - 1 - i]? = some q := by rw [← hq, List.getElem?_reverse hi]
        have hat : atI (ps.map fun q => V.ref q.1) (((ps.map fun q => V.ref q.1).length : Int) - 1 - (0 + (i : Int))) = some (V.ref q.1) := by
          have e : ((ps.map fun q : Addr × Row => V.ref q.1).length : Int) - 1 - (0 + (i : Int)) = ((ps.length - 1 - i : Nat) : Int) := by
            rw [hul]
            omega
          rw [e]
          exact atI_nat (by rw [List.getElem?_map, hq2]; rfl)
        have e2 : ps.reverse.take (i + 1) = ps.reverse.take i ++ [q] := by rw [List.take_add_one, hq]; rfl
        walk_at "go"
        refine ⟨by rw [List.length_map, List.length_take, sizeLine_eq]; omega, ?_⟩
        show _ = _
        rw [upd_upd, e2, List.map_append]
        rfl
      · rintro H1 rfl
        have hlr : ps.reverse.length = ps.length := List.length_reverse
        rw [← hlr, List.take_length]
        walk_at "go"
        exact kk D _ (upd_laid hD) ⟨upd_same, fun q hq => ((hR.same (upd_laid hD)).2 q (List.mem_reverse.mp hq))⟩
    case h14 =>
      rintro ⟨D1, D2, D3, D4⟩ σ H ⟨x, b, g, z, o, al, u, tw, l, t, ks, os, ps, k, v10, v11, v13, v14, v16, rfl, I, hkm, hR, kk⟩
      --H14
      have hk := I.I.hK.each k hkm
      obtain ⟨dx1, D1', b11, _⟩ := hk.book
      have hnd : (k.ps.map fun q => q.2.n).Nodup := names_map k.ps ▸ hk.good.nodup
      have hndq : (k.qs.map fun q => q.2.n).Nodup := (hk.perm.map fun q : Addr × Row => q.2.n).nodup_iff.mpr hnd
      have hkl := hk.len
      have hql : k.qs.length ≤ 8 := by rw [hk.perm.length_eq]; exact hk.len
      have hgr : GoodRs (45 :: srtL l) (k.ps.reverse.map (·.2)) := hk.good.perm ((List.reverse_perm k.ps).map _)
      walk_at "go"
      refine ⟨al, tw, l, t, k.ps.reverse, rfl, I.I.hA, hR, by rw [List.length_reverse]; omega, fun _ _ bk2 qs2 H2 hb2 hperm hsort hnd2 hB2 s2 => ?_, fun h => absurd h (by rw [List.length_reverse]; omega), fun _ B0 dd fs H' hr _ _ _ => absurd hgr.first (raised_ne hr)⟩
      have hq : qs2 = k.qs := rows_eq hsort hk.srt (hperm.trans (List.reverse_perm _)) hk.perm hnd
      subst hq
      obtain ⟨dx2, D2', b21, _⟩ := id hB2
      have I2 := I.same s2
      have hk2 := I2.I.hK.each k hkm
      walk_at "go"
      refine ⟨k.bk, dx1, _, bk2, CB, dx2, _, rfl, rfl, s2 _ _ b11, b21, nB, k.bk, bk2, al, al, l, t, l, t, k.qs, k.qs, rfl, hk2.book, hB2, I2.I.hA, I2.I.hA, hndq, hndq, by omega, by omega, fun H3 s3 => ?_⟩
      rw [al_same, decide_eq_true rfl]
      walk_at "go"
      exact kk _ (Same.trans s2 s3)
    case h15 =>
      rintro ⟨D1, D2, D3, D4⟩ σ H ⟨x, b, g, z, o, al, u, al2, l, t, ks, os, ps, k, v10, v11, v14, v16, v17, rfl, I, hkm, hA2, kk⟩
      --H15
      have hk := I.I.hK.each k hkm
      obtain ⟨dx1, D1', b11, _⟩ := hk.book
      have hnd : (k.ps.map fun q => q.2.n).Nodup := names_map k.ps ▸ hk.good.nodup
      have hndq : (k.qs.map fun q => q.2.n).Nodup := (hk.perm.map fun q : Addr × Row => q.2.n).nodup_iff.mpr hnd
      have hkl := hk.len
      have hql : k.qs.length ≤ 8 := by rw [hk.perm.length_eq]; exact hk.len
      walk_at "go"
      refine ⟨al2, k.u, l, _, k.ps, rfl, hA2, hk.rows, by omega, fun _ _ bk2 qs2 H2 hb2 hperm hsort hnd2 hB2 s2 => ?_, fun h => absurd h (by omega), fun _ B0 dd fs H' hr _ _ _ => absurd hk.good.first (raised_ne hr)⟩
      have hq : qs2 = k.qs := rows_eq hsort hk.srt hperm hk.perm hnd
      subst hq
      obtain ⟨dx2, D2', b21, _⟩ := id hB2
      have I2 := I.same s2
      have hk2 := I2.I.hK.each k hkm
      walk_at "go"
      refine ⟨k.bk, dx1, _, bk2, CB, dx2, _, rfl, rfl, s2 _ _ b11, b21, nB, k.bk, bk2, al, al2, l, t, l, _, k.qs, k.qs, rfl, hk2.book, hB2, I2.I.hA, hA2.same s2, hndq, hndq, by omega, by omega, fun H3 s3 => ?_⟩
      rw [al_strange I.l1]
      walk_at "go"
      exact kk H3
    --MAIN
    walk_at "go"
    refine ⟨x, ns, rfl, hS, hl63, fun b g H1 hb hg hB1 s1 => ?_⟩
    have off : ∀ {H : Hp} {p : Addr}, BoxB H b g → H p = none → p ≠ b ∧ p ≠ g := fun {H p} hB hp => by
      obtain ⟨⟨ob, hob⟩, ⟨og, hog⟩⟩ := hB.al
      exact ⟨(ne_of_none hob hp).symm, (ne_of_none hog hp).symm⟩
    walk_at "go"
    rename_i L1 hL1
    have n1 := off hB1 hL1
    have hB2 := hB1.same (upd_laid (o := .lst [V.int 2, V.int 1, V.int 3, V.int 4]) hL1)
    have hL2 : (upd H1 L1 (.lst [V.int 2, V.int 1, V.int 3, V.int 4])) L1 = some (.lst [V.int 2, V.int 1, V.int 3, V.int 4]) := upd_same
    generalize upd H1 L1 (.lst [V.int 2, V.int 1, V.int 3, V.int 4]) = H2 at hL2 hB2
    refine ⟨b, g, _, rfl, hB2, by decide, fun r H3 hr3 hB3 hk3 => ?_⟩
    obtain ⟨n, hn, hn1, hn4⟩ : ∃ n : Nat, ([V.int 2, V.int 1, V.int 3, V.int 4] : List V)[r]? = some (.int (n : Int)) ∧ 1 ≤ n ∧ n ≤ 4 := by
      match r, (by omega : r < 4) with
      | 0, _ => exact ⟨2, rfl, by decide, by decide⟩
      | 1, _ => exact ⟨1, rfl, by decide, by decide⟩
      | 2, _ => exact ⟨3, rfl, by decide, by decide⟩
      | 3, _ => exact ⟨4, rfl, by decide, by decide⟩
    have hL3 := hk3 _ _ n1.1 n1.2 hL2
    walk_at "go"
    refine ⟨b, g, n, rfl, hB3, by omega, fun l H4 hl hdl hB4 hk4 => ?_⟩
    have l1 : 1 ≤ l.length := by omega
    have l4 : l.length ≤ 4 := by omega
    clear hL3 hL2 hn hn1 hn4 hr3 hL1 n1 hk3 hB2 hk4
    walk_at "go"
    have e0 : PySem.Str.ofString "" = S [] := by decide +kernel
    refine ⟨S l, rfl, (by rw [S_len]; omega), fun ys p1 hp hs n1 => ?_⟩
    obtain ⟨b1, e1⟩ := joined (by omega) hp hs
    rw [e0] at b1 e1
    have s5 : Same H4 (upd H4 p1 (.lst (ys.map V.str))) := upd_laid n1
    refine ⟨_, p1, ys, rfl, rfl, .inl (SqL.of upd_same), b1, ?_⟩
    rw [e1]
    have hB5 := hB4.same s5
    generalize upd H4 p1 (.lst (ys.map V.str)) = H5 at s5 hB5
    clear hp hs b1 e1 s5 n1
    have lsz : (srtL l).length = l.length := srtL_len l
    show rAddS (V.str (S [45])) (V.str (S (srtL l))) H5 _
    have lsz2 : ([45] : List Nat).length = 1 := rfl
    walk_at "go"
    rename_i D hD
    have nD := off hB5 hD
    refine lcg_S (fun i H' => Stop (∃ t : List Nat, H' D = some (.lst (t.map fun c => V.str (S [c]))) ∧ t.Sublist (l.take i) ∧ BoxB H' b g)) ⟨[], upd_same, List.nil_sublist _, hB5.same (upd_laid hD)⟩ (fun _ => rfl) ?_ ?_
    · rintro i cc H6 hci ⟨t, ht, hts, hB6⟩
      have htl : t.length ≤ l.length := Nat.le_trans hts.length_le (by rw [List.length_take]; omega)
      have e2 : l.take (i + 1) = l.take i ++ [cc] := by rw [List.take_add_one, hci]; rfl
      walk_at "go"
      refine ⟨b, g, _, rfl, hB6, by decide, fun r2 H8 hr2 hB8 hk8 => ?_⟩
      have hD8 := hk8 _ _ nD.1 nD.2 ht
      walk_at "go"
      · refine ⟨by rw [List.length_map, sizeLine_eq]; omega, t ++ [cc], ?_, ?_, ?_⟩
        · rw [upd_same, List.map_append]
          rfl
        · rw [e2]
          exact hts.append (List.Sublist.refl _)
        · obtain ⟨x, mm, sd, gs, h1, h2, h3⟩ := hB8
          exact ⟨x, mm, sd, gs, by rw [upd_ne nD.1.symm]; exact h1, by rw [upd_ne nD.2.symm]; exact h2, h3⟩
      · refine ⟨t, hD8, ?_, hB8⟩
        rw [e2]
        exact hts.trans (List.sublist_append_left _ _)
    · rintro H6 ⟨t, ht, hts, hB6⟩
      rw [List.take_length] at hts
      have htl := hts.length_le
      obtain ⟨b2, e3⟩ := joinedL (l := t) (by omega)
      rw [e0] at b2 e3
      refine ⟨_, D, t.map fun c => S [c], rfl, rfl, .inl (SqL.of (by rw [ht, List.map_map]; rfl)), b2, ?_⟩
      rw [e3]
      have hdue := due_al l1 l4 hdl hts
      obtain ⟨sg1, sg2, sgw, sg32, sgn⟩ := signs_ok l1 l4 hdl
      refine ⟨_, rfl, _, rfl, fun al d8 hx8 hd8 _ => ⟨al, d8, l, t, rfl, upd_same, by omega, by omega, fun _ H7 hA7 hk7 => ⟨rfl, ?_⟩, fun hne => absurd hdue hne⟩⟩
      have s7 := kp_newB hx8 hd8 hk7
      have hB7 := hB6.same s7
      clear hk7 hx8 hd8 hB6 s7 b2 e3 ht hD hB5
      walk_at "go"
      rename_i L1 hL1
      have n1 := off hB7 hL1
      have s8 : Same H7 (upd H7 L1 (.lst [V.int 2, V.int 8, V.int 7, V.int 0, V.int 1, V.int 3, V.int 5, V.int 6])) := upd_laid hL1
      have hL8 : (upd H7 L1 (.lst [V.int 2, V.int 8, V.int 7, V.int 0, V.int 1, V.int 3, V.int 5, V.int 6])) L1 = some (.lst [V.int 2, V.int 8, V.int 7, V.int 0, V.int 1, V.int 3, V.int 5, V.int 6]) := upd_same
      have hB8 := hB7.same s8
      have hA8 := hA7.same s8
      generalize upd H7 L1 (.lst [V.int 2, V.int 8, V.int 7, V.int 0, V.int 1, V.int 3, V.int 5, V.int 6]) = H8 at s8 hL8 hB8 hA8
      refine ⟨b, g, _, rfl, hB8, by decide, fun r9 H9 hr9 hB9 hk9 => ?_⟩
      obtain ⟨n, hn, hn8⟩ : ∃ n : Nat, ([V.int 2, V.int 8, V.int 7, V.int 0, V.int 1, V.int 3, V.int 5, V.int 6] : List V)[r9]? = some (.int (n : Int)) ∧ n ≤ 8 := by
        match r9, (by omega : r9 < 8) with
        | 0, _ => exact ⟨2, rfl, by decide⟩
        | 1, _ => exact ⟨8, rfl, by decide⟩
        | 2, _ => exact ⟨7, rfl, by decide⟩
        | 3, _ => exact ⟨0, rfl, by decide⟩
        | 4, _ => exact ⟨1, rfl, by decide⟩
        | 5, _ => exact ⟨3, rfl, by decide⟩
        | 6, _ => exact ⟨5, rfl, by decide⟩
        | 7, _ => exact ⟨6, rfl, by decide⟩
      have hA9 := hA8.kp hB8 hk9
      have hL9 := hk9 _ _ n1.1 n1.2 hL8
      clear hL8 hA8 hk9 hB8 s8 hA7 hB7 hr9
      walk_at "go"
      rename_i Lm hLm
      have n2 := off hB9 hLm
      have s10 : Same H9 (upd H9 Lm (.lst [V.int 6, V.int 3])) := upd_laid hLm
      have hL10 : (upd H9 Lm (.lst [V.int 6, V.int 3])) Lm = some (.lst [V.int 6, V.int 3]) := upd_same
      have hB10 := hB9.same s10
      have hA10 := hA9.same s10
      generalize upd H9 Lm (.lst [V.int 6, V.int 3]) = H10 at s10 hL10 hB10 hA10
      refine ⟨b, g, _, rfl, hB10, by decide, fun r11 H11 hr11 hB11 hk11 => ?_⟩
      obtain ⟨m, hm, hm3, hm6⟩ : ∃ m : Nat, ([V.int 6, V.int 3] : List V)[r11]? = some (.int (m : Int)) ∧ 3 ≤ m ∧ m ≤ 6 := by
        match r11, (by omega : r11 < 2) with
        | 0, _ => exact ⟨6, rfl, by decide, by decide⟩
        | 1, _ => exact ⟨3, rfl, by decide, by decide⟩
      have hA11 := hA10.kp hB10 hk11
      have hL11 := hk11 _ _ n2.1 n2.2 hL10
      clear hL10 hA10 hk11 hB10 s10 hA9 hL9 hB9 hr11
      walk_at "go"
      refine ⟨b, g, 45 :: srtL l, n, m, rfl, hB11, by omega, by omega, sgw, by omega, by omega, by omega, fun u ps H12 hu hR hpl hRow hPw hB12 hk12 => ?_⟩
      have hgood := good_drawn hm6 hRow (hPw sgn (Nat.le_trans hn8 (top_eight sg1 hm3)))
      have hA12 := hA11.kp hB11 hk12
      have nu := off hB11 hu
      clear hRow hPw hA11 hL11 hk12 hu hB11
      walk_at "go"
      refine ⟨al, u, l, t, ps, rfl, hA12, hR, by omega, fun _ _ bk qs H13 hbk hperm hsort hnd hBk s13 => ?_, fun h => absurd h (by omega), fun _ B0 dd fs H' hr _ _ _ => absurd hgood.first (raised_ne hr)⟩
      have hA13 := hA12.same s13
      have hB13 := hB12.same s13
      have hR13 := hR.same s13
      clear hA12 hB12 hR s13 hbk
      have h45 : atI ([45] ++ srtL l) 0 = some 45 := atI_nat (j := 0) rfl
      walk_at "go"
      rename_i x0 hx0 z hz tp htp o ho
      have nx0 := off hB13 hx0
      have s14 : Same H13 (upd H13 x0 (.lst [V.ref bk, V.ref u])) := upd_laid hx0
      have h14 : (upd H13 x0 (.lst [V.ref bk, V.ref u])) x0 = some (.lst [V.ref bk, V.ref u]) := upd_same
      generalize upd H13 x0 (.lst [V.ref bk, V.ref u]) = H14 at s14 h14 hz htp ho
      have hB14 := hB13.same s14
      have nz := off hB14 hz
      have uz : u ≠ z := ne_of_none (s14 _ _ hR13.1) hz
      have s15 : Same H13 (upd H14 z (.lst [V.ref x0])) := Same.trans s14 (upd_laid hz)
      have h15 : (upd H14 z (.lst [V.ref x0])) x0 = some (.lst [V.ref bk, V.ref u]) := upd_laid hz _ _ h14
      have hz15 : (upd H14 z (.lst [V.ref x0])) z = some (.lst [V.ref x0]) := upd_same
      generalize upd H14 z (.lst [V.ref x0]) = H15 at s15 h15 hz15 htp ho
      have s16 : Same H15 (upd H15 tp (.tup [V.str (S [97, 97]), V.str (S ([45] ++ srtL l)), V.str (S [45]), V.str (S [97, 110, 121])])) := upd_laid htp
      have h16 : (upd H15 tp (.tup [V.str (S [97, 97]), V.str (S ([45] ++ srtL l)), V.str (S [45]), V.str (S [97, 110, 121])])) tp = some (.tup (Row.vs ⟨[97, 97], 45 :: srtL l, [45], [97, 110, 121]⟩)) := upd_same
      generalize upd H15 tp (.tup [V.str (S [97, 97]), V.str (S ([45] ++ srtL l)), V.str (S [45]), V.str (S [97, 110, 121])]) = H16 at s16 h16 ho
      have s17 : Same H16 (upd H16 o (.lst [V.ref tp])) := upd_laid ho
      have h17 : (upd H16 o (.lst [V.ref tp])) o = some (.lst [V.ref tp]) := upd_same
      have no := off (hB13.same (Same.trans s15 s16)) ho
      have uo : u ≠ o := ne_of_none (s16 _ _ (s15 _ _ hR13.1)) ho
      have zo : z ≠ o := ne_of_none (s16 _ _ hz15) ho
      generalize upd H16 o (.lst [V.ref tp]) = H17 at s17 h17
      have s1317 := Same.trans (Same.trans s15 s16) s17
      have s1517 := Same.trans s16 s17
      have he : Row.ok ⟨[97, 97], 45 :: srtL l, [45], [97, 110, 121]⟩ := ⟨(by unfold Tx; decide : Tx [97, 97]), (⟨by omega, sgw⟩ : Tx (45 :: srtL l)), (by unfold Tx; decide : Tx [45]), (by unfold Tx; decide : Tx [97, 110, 121])⟩
      have K0 : K1.ok CB al (45 :: srtL l) H17 ⟨x0, bk, u, qs, ps⟩ := ⟨s1517 _ _ h15, hBk.same s1317, hR13.same s1317, hperm, hsort, hgood, by show ps.length ≤ 8; omega⟩
      have I0 : DeI C CB b g z o al l t H17 [⟨x0, bk, u, qs, ps⟩] [(tp, ⟨[97, 97], 45 :: srtL l, [45], [97, 110, 121]⟩)] := by
        refine ⟨hB13.same s1317, ⟨s1517 _ _ hz15, fun q hq => ?_, by simp⟩, ⟨h17, fun q hq => ?_⟩, hA13.same s1317, Nat.le_refl _, fun q hq => ?_, ⟨nz.1, nz.2, zo, no.1, no.2⟩⟩
        · rw [List.mem_singleton] at hq
          subst hq
          exact K0
        · rw [List.mem_singleton] at hq
          subst hq
          exact ⟨s17 _ _ h16, he⟩
        · rw [List.mem_singleton] at hq
          subst hq
          exact ⟨nu.1, nu.2, uo⟩
      have LW : LwI C CB b g z o al u l t H17 [⟨x0, bk, u, qs, ps⟩] [(tp, ⟨[97, 97], 45 :: srtL l, [45], [97, 110, 121]⟩)] ps := ⟨I0, hR13.same s1317, l1, l4, hdl, hts, by omega, ⟨nu.1, nu.2, uz, uo⟩⟩
      refine ⟨x, b, g, z, o, al, u, l, t, _, _, ps, rfl, LW, rfl, rfl, fun ks' os' H' v10 I' a1 a2 => ?_⟩
      walk_at "go"
      refine ⟨x, b, g, z, o, al, u, l, t, ks', os', ps, v10, rfl, I', a2, fun ww ts H18 s18 hw hwl hwt => ?_⟩
      have I18 := I'.same s18
      walk_at "go"
      refine ⟨x, b, z, o, al, u, l, t, v10, _, rfl, l1, l4, hdl, fun al2 H19 s19 hA2 => ?_⟩
      have I19 := I18.same s19
      walk_at "go"
      refine ⟨x, b, g, z, o, al, u, ww, l, t, ks', os', ps, ts, v10, _, rfl, I19, a1, s19 _ _ hw, hwl, hwt, fun u' v14 v15 v16 H20 s20 => ?_⟩
      have I20 := I19.same s20
      walk_at "go"
      refine ⟨x, b, g, z, o, al, u, u', l, t, ks', os', ps, v10, _, _, v14, v15, v16, rfl, I20, fun kq hkm => ?_⟩
      have hkq := I20.I.hK.each kq hkm
      walk_at "go"
      refine ⟨x, b, z, o, al, kq.u, l, t, kq.ps, v10, _, _, v14, _, v16, rfl, hkq.rows, hkq.len, fun tw H21 s21 hR21 => ?_⟩
      have I21 := I20.same s21
      walk_at "go"
      refine ⟨x, b, g, z, o, al, u, tw, l, t, ks', os', ps, kq, v10, _, _, v14, v16, rfl, I21, hkm, hR21, fun H22 s22 => ?_⟩
      have I22 := I21.same s22
      walk_at "go"
      exact ⟨x, b, g, z, o, al, u, al2, l, t, ks', os', ps, kq, v10, _, v14, v16, _, rfl, I22, hkm, hA2.same (Same.trans (Same.trans s20 s21) s22), fun H23 => k H23⟩
end
end
section
set_option Elab.async false
set_option linter.all false
set_option maxRecDepth 100000
set_option maxHeartbeats 8000000
open PySem PySem.Spec PyProof.Rows L2
theorem kinds_ns {K : PySem.W.Frag} {KI : Addr} {h1 h2 h3 : Int} {ta to ti : Tok} {u1 u2 u3 : Value} {n : Nat} (l : K.lookup KI = some ⟨.type "dict", none, .dict #[⟨h1, .str "any" ta, u1⟩, ⟨h2, .str "opening" to, u2⟩, ⟨h3, .str "inner" ti, u3⟩] n, #[]⟩) (t : List Nat) :
    ∃ r, PySem.W.nsIn K KI (S t) = some r ∧ r.isSome = decide (t ∈ kindsL) := by
  have key : ∀ (x : Str) (y : List Nat) (tk : Tok), x = S y → (Value.isStr (.str x tk) (S t)) = decide (t = y) := fun x y tk e => by
    subst e
    rw [PySem.W.isStr_of]
    show (S y == S t) = _
    by_cases h : t = y
    · subst h
      simp
    · have h2 : S y ≠ S t := fun e => h (S_inj.mp e).symm
      rw [beq_eq_false_iff_ne.mpr h2, decide_eq_false h]
  have k1 := key "any" (Lt "any") ta (Lt_S _).symm
  have k2 := key "opening" (Lt "opening") to (Lt_S _).symm
  have k3 := key "inner" (Lt "inner") ti (Lt_S _).symm
  unfold PySem.W.nsIn
  rw [l]
  unfold kindsL
  by_cases e1 : t = Lt "any"
  · rw [decide_eq_true e1] at k1
    refine ⟨some u1, ?_, ?_⟩
    · simp [List.find?, k1]
    · simp [e1]
  rw [decide_eq_false e1] at k1
  by_cases e2 : t = Lt "opening"
  · rw [decide_eq_true e2] at k2
    refine ⟨some u2, ?_, ?_⟩
    · simp [List.find?, k1, k2]
    · simp [e2]
  rw [decide_eq_false e2] at k2
  by_cases e3 : t = Lt "inner"
  · rw [decide_eq_true e3] at k3
    refine ⟨some u3, ?_, ?_⟩
    · simp [List.find?, k1, k2, k3]
    · simp [e3]
  rw [decide_eq_false e3] at k3
  refine ⟨none, ?_, ?_⟩
  · simp [List.find?, k1, k2, k3]
    simp [DictEntry.refKey]
  · simp [e1, e2, e3]
theorem all_mk {l : PySem.W.OpenLaw} {w : World} {K : PySem.W.Frag} {h : Heap} {mg : Str → Option Value} {fa : Addr} (X : K.In h) (G : h.Ns mainGlobals mg) (hfa : mg "law" = some (.ref fa))
    {fDiff fBoxB fDraw fLetters fWord fSucc fFresh fOverL fKin fRows fIsWord fFault fOdd fBookL fPlus fMinus fItem fAlikeL fHolds fDue fAdded fRemoved fEntry fDeed fCheck fIsForm fOver fConf fLaw C fT fE TD fA CB fBI fN fEn fLn fEq fHas fIt0 fAdd fSub KI TE BA fBA ccBA cdaBA TM fTM ccTM cdaTM BN fBN ccBN cdaBN BF fBF ccBF cdaBF UP fUP ccUP cdaUP DN fDN ccDN cdaDN CF fCF ccCF cdaCF UN fUN ccUN cdaUN : Addr} {odDiff anDiff odBoxB anBoxB odDraw anDraw odLetters anLetters odWord anWord odSucc anSucc odFresh anFresh odOverL anOverL odKin anKin odRows anRows odIsWord anIsWord odFault anFault odOdd anOdd odBookL anBookL odPlus anPlus odMinus anMinus odItem anItem odAlikeL anAlikeL odHolds anHolds odDue anDue odAdded anAdded odRemoved anRemoved odEntry anEntry odDeed anDeed odCheck anCheck odIsForm anIsForm odOver anOver odConf anConf odLaw anLaw odT anT odE anE odA anA odBI anBI odN anN odEn anEn odLn anLn odEq anEq odHas anHas odIt0 anIt0 odAdd anAdd odSub anSub odBA anBA ddccBA ddcdBA odTM anTM ddccTM ddcdTM odBN anBN ddccBN ddcdBN odBF anBF ddccBF ddcdBF odUP anUP ddccUP ddcdUP odDN anDN ddccDN ddcdDN odCF anCF ddccCF ddcdCF odUN anUN ddccUN ddcdUN : Option Addr} {slDiff slBoxB slDraw slLetters slWord slSucc slFresh slOverL slKin slRows slIsWord slFault slOdd slBookL slPlus slMinus slItem slAlikeL slHolds slDue slAdded slRemoved slEntry slDeed slCheck slIsForm slOver slConf slLaw slT slE slA slBI slN slEn slLn slEq slHas slIt0 slAdd slSub slBA slccBA slcdBA slTM slccTM slcdTM slBN slccBN slcdBN slBF slccBF slcdBF slUP slccUP slcdUP slDN slccDN slcdDN slCF slccCF slcdCF slUN slccUN slcdUN : Array (Option Value)} {ocDiff kVDiff dcDiff pmDiff cdDiff ctDiff ocBoxB kVBoxB dcBoxB pmBoxB cdBoxB ctBoxB ocDraw kVDraw dcDraw pmDraw cdDraw ctDraw ocLetters kVLetters dcLetters pmLetters cdLetters ctLetters ocWord kVWord dcWord pmWord cdWord ctWord ocSucc kVSucc dcSucc pmSucc cdSucc ctSucc ocFresh kVFresh dcFresh pmFresh cdFresh ctFresh ocOverL kVOverL dcOverL pmOverL cdOverL ctOverL ocKin kVKin dcKin pmKin cdKin ctKin ocRows kVRows dcRows pmRows cdRows ctRows ocIsWord kVIsWord dcIsWord pmIsWord cdIsWord ctIsWord ocFault kVFault dcFault pmFault cdFault ctFault ocOdd kVOdd dcOdd pmOdd cdOdd ctOdd ocBookL kVBookL dcBookL pmBookL cdBookL ctBookL ocPlus kVPlus dcPlus pmPlus cdPlus ctPlus ocMinus kVMinus dcMinus pmMinus cdMinus ctMinus ocItem kVItem dcItem pmItem cdItem ctItem ocAlikeL kVAlikeL dcAlikeL pmAlikeL cdAlikeL ctAlikeL ocHolds kVHolds dcHolds pmHolds cdHolds ctHolds ocDue kVDue dcDue pmDue cdDue ctDue ocAdded kVAdded dcAdded pmAdded cdAdded ctAdded ocRemoved kVRemoved dcRemoved pmRemoved cdRemoved ctRemoved ocEntry kVEntry dcEntry pmEntry cdEntry ctEntry ocDeed kVDeed dcDeed pmDeed cdDeed ctDeed ocCheck kVCheck dcCheck pmCheck cdCheck ctCheck ocIsForm kVIsForm dcIsForm pmIsForm cdIsForm ctIsForm ocOver kVOver dcOver pmOver cdOver ctOver ocConf kVConf dcConf pmConf cdConf ctConf ocLaw kVLaw dcLaw pmLaw cdLaw ctLaw ocT kVT dcT pmT cdT ctT ocE kVE dcE pmE cdE ctE ocA kVA dcA pmA cdA ctA ocBI kVBI dcBI pmBI cdBI ctBI ocN kVN dcN pmN cdN ctN ocEn kVEn dcEn pmEn cdEn ctEn ocLn kVLn dcLn pmLn cdLn ctLn ocEq kVEq dcEq pmEq cdEq ctEq ocHas kVHas dcHas pmHas cdHas ctHas ocIt0 kVIt0 dcIt0 pmIt0 cdIt0 ctIt0 ocAdd kVAdd dcAdd pmAdd cdAdd ctAdd ocSub kVSub dcSub pmSub cdSub ctSub ocBA kVBA dcBA pmBA ctBA clccBA clcdBA ocTM kVTM dcTM pmTM ctTM clccTM clcdTM ocBN kVBN dcBN pmBN ctBN clccBN clcdBN ocBF kVBF dcBF pmBF ctBF clccBF clcdBF ocUP kVUP dcUP pmUP ctUP clccUP clcdUP ocDN kVDN dcDN pmDN ctDN clccDN clcdDN ocCF kVCF dcCF pmCF ctCF clccCF clcdCF ocUN kVUN dcUN pmUN ctUN clccUN clcdUN : Value} {tM tJ tl td t6 t8 ta to ti tMB : Tok} {nD : Nat} {odD : Option Addr} {slD : Array (Option Value)} {ocD : Value} {wA1 wA2 wA3 wA4 wS1 wS2 wS3 wS4 : Option Value} {h1 h2 h3 : Int} {u1 u2 u3 : Value} {nKI : Nat} {vsCBA : Array Value} {flBA : Str} {tfBA : Tok} {vsCTM : Array Value} {flTM : Str} {tfTM : Tok} {vsCBN : Array Value} {flBN : Str} {tfBN : Tok} {vsCBF : Array Value} {flBF : Str} {tfBF : Tok} {vsCUP : Array Value} {flUP : Str} {tfUP : Tok} {vsCDN : Array Value} {flDN : Str} {tfDN : Tok} {vsCCF : Array Value} {flCF : Str} {tfCF : Tok} {vsCUN : Array Value} {flUN : Str} {tfUN : Tok}
    {nmTE qTE : Str} {NTE : Addr} {bsTE : List Value} {snTE : List Str} {subTE : List Value} {abTE : Bool} {colTE : Option Bool} {ddTE : Option Addr} {m0TE m1TE m2TE m3TE m5TE : Option Value}
    {nmBA qBA : Str} {NBA : Addr} {bsBA : List Value} {snBA : List Str} {subBA : List Value} {abBA : Bool} {colBA : Option Bool} {ddBA : Option Addr} {m0BA m1BA m2BA m3BA m5BA : Option Value}
    {nmTM qTM : Str} {NTM : Addr} {bsTM : List Value} {snTM : List Str} {subTM : List Value} {abTM : Bool} {colTM : Option Bool} {ddTM : Option Addr} {m0TM m1TM m2TM m3TM m5TM : Option Value}
    {nmBN qBN : Str} {NBN : Addr} {bsBN : List Value} {snBN : List Str} {subBN : List Value} {abBN : Bool} {colBN : Option Bool} {ddBN : Option Addr} {m0BN m1BN m2BN m3BN m5BN : Option Value}
    {nmBF qBF : Str} {NBF : Addr} {bsBF : List Value} {snBF : List Str} {subBF : List Value} {abBF : Bool} {colBF : Option Bool} {ddBF : Option Addr} {m0BF m1BF m2BF m3BF m5BF : Option Value}
    {nmUP qUP : Str} {NUP : Addr} {bsUP : List Value} {snUP : List Str} {subUP : List Value} {abUP : Bool} {colUP : Option Bool} {ddUP : Option Addr} {m0UP m1UP m2UP m3UP m5UP : Option Value}
    {nmDN qDN : Str} {NDN : Addr} {bsDN : List Value} {snDN : List Str} {subDN : List Value} {abDN : Bool} {colDN : Option Bool} {ddDN : Option Addr} {m0DN m1DN m2DN m3DN m5DN : Option Value}
    {nmCF qCF : Str} {NCF : Addr} {bsCF : List Value} {snCF : List Str} {subCF : List Value} {abCF : Bool} {colCF : Option Bool} {ddCF : Option Addr} {m0CF m1CF m2CF m3CF m5CF : Option Value}
    {nmUN qUN : Str} {NUN : Addr} {bsUN : List Value} {snUN : List Str} {subUN : List Value} {abUN : Bool} {colUN : Option Bool} {ddUN : Option Addr} {m0UN m1UN m2UN m3UN m5UN : Option Value}
    (lDiff : K.lookup fDiff = some ⟨ocDiff, odDiff, .func (PySem.W.fnOf "differ_within" "differ_within" (defArgs sDiff) (defBody sDiff) (defScope sDiff) .none kVDiff dcDiff pmDiff anDiff cdDiff ctDiff), slDiff⟩)
    (cDiff : PySem.W.codeIn K cdDiff "differ_within" = true)
    (aDiff : PySem.W.nsIn K mainGlobals "differ_within" = some (some (.ref fDiff)))
    (kDiff : PySem.W.keepIn K (.ref fDiff) = true)
    (lBoxB : K.lookup fBoxB = some ⟨ocBoxB, odBoxB, .func (PySem.W.fnOf "_law_box" "_law_box" (defArgs sBoxB) (defBody sBoxB) (defScope sBoxB) .none kVBoxB dcBoxB pmBoxB anBoxB cdBoxB ctBoxB), slBoxB⟩)
    (cBoxB : PySem.W.codeIn K cdBoxB "_law_box" = true)
    (aBoxB : PySem.W.nsIn K mainGlobals "_law_box" = some (some (.ref fBoxB)))
    (kBoxB : PySem.W.keepIn K (.ref fBoxB) = true)
    (lDraw : K.lookup fDraw = some ⟨ocDraw, odDraw, .func (PySem.W.fnOf "_law_draw" "_law_draw" (defArgs sDraw) (defBody sDraw) (defScope sDraw) .none kVDraw dcDraw pmDraw anDraw cdDraw ctDraw), slDraw⟩)
    (cDraw : PySem.W.codeIn K cdDraw "_law_draw" = true)
    (aDraw : PySem.W.nsIn K mainGlobals "_law_draw" = some (some (.ref fDraw)))
    (kDraw : PySem.W.keepIn K (.ref fDraw) = true)
    (lLetters : K.lookup fLetters = some ⟨ocLetters, odLetters, .func (PySem.W.fnOf "_law_letters" "_law_letters" (defArgs sLetters) (defBody sLetters) (defScope sLetters) .none kVLetters dcLetters pmLetters anLetters cdLetters ctLetters), slLetters⟩)
    (cLetters : PySem.W.codeIn K cdLetters "_law_letters" = true)
    (aLetters : PySem.W.nsIn K mainGlobals "_law_letters" = some (some (.ref fLetters)))
    (kLetters : PySem.W.keepIn K (.ref fLetters) = true)
    (lWord : K.lookup fWord = some ⟨ocWord, odWord, .func (PySem.W.fnOf "_law_word" "_law_word" (defArgs sWord) (defBody sWord) (defScope sWord) .none kVWord dcWord pmWord anWord cdWord ctWord), slWord⟩)
    (cWord : PySem.W.codeIn K cdWord "_law_word" = true)
    (aWord : PySem.W.nsIn K mainGlobals "_law_word" = some (some (.ref fWord)))
    (kWord : PySem.W.keepIn K (.ref fWord) = true)
    (lSucc : K.lookup fSucc = some ⟨ocSucc, odSucc, .func (PySem.W.fnOf "_law_successor" "_law_successor" (defArgs sSucc) (defBody sSucc) (defScope sSucc) .none kVSucc dcSucc pmSucc anSucc cdSucc ctSucc), slSucc⟩)
    (cSucc : PySem.W.codeIn K cdSucc "_law_successor" = true)
    (aSucc : PySem.W.nsIn K mainGlobals "_law_successor" = some (some (.ref fSucc)))
    (kSucc : PySem.W.keepIn K (.ref fSucc) = true)
    (lFresh : K.lookup fFresh = some ⟨ocFresh, odFresh, .func (PySem.W.fnOf "_law_fresh" "_law_fresh" (defArgs sFresh) (defBody sFresh) (defScope sFresh) .none kVFresh dcFresh pmFresh anFresh cdFresh ctFresh), slFresh⟩)
    (cFresh : PySem.W.codeIn K cdFresh "_law_fresh" = true)
    (aFresh : PySem.W.nsIn K mainGlobals "_law_fresh" = some (some (.ref fFresh)))
    (kFresh : PySem.W.keepIn K (.ref fFresh) = true)
    (lOverL : K.lookup fOverL = some ⟨ocOverL, odOverL, .func (PySem.W.fnOf "_law_overlap" "_law_overlap" (defArgs sOverL) (defBody sOverL) (defScope sOverL) .none kVOverL dcOverL pmOverL anOverL cdOverL ctOverL), slOverL⟩)
    (cOverL : PySem.W.codeIn K cdOverL "_law_overlap" = true)
    (aOverL : PySem.W.nsIn K mainGlobals "_law_overlap" = some (some (.ref fOverL)))
    (kOverL : PySem.W.keepIn K (.ref fOverL) = true)
    (lKin : K.lookup fKin = some ⟨ocKin, odKin, .func (PySem.W.fnOf "_law_kin" "_law_kin" (defArgs sKin) (defBody sKin) (defScope sKin) .none kVKin dcKin pmKin anKin cdKin ctKin), slKin⟩)
    (cKin : PySem.W.codeIn K cdKin "_law_kin" = true)
    (aKin : PySem.W.nsIn K mainGlobals "_law_kin" = some (some (.ref fKin)))
    (kKin : PySem.W.keepIn K (.ref fKin) = true)
    (lRows : K.lookup fRows = some ⟨ocRows, odRows, .func (PySem.W.fnOf "_law_rows" "_law_rows" (defArgs sRows) (defBody sRows) (defScope sRows) .none kVRows dcRows pmRows anRows cdRows ctRows), slRows⟩)
    (cRows : PySem.W.codeIn K cdRows "_law_rows" = true)
    (aRows : PySem.W.nsIn K mainGlobals "_law_rows" = some (some (.ref fRows)))
    (kRows : PySem.W.keepIn K (.ref fRows) = true)
    (lIsWord : K.lookup fIsWord = some ⟨ocIsWord, odIsWord, .func (PySem.W.fnOf "_law_is_word" "_law_is_word" (defArgs sIsWord) (defBody sIsWord) (defScope sIsWord) .none kVIsWord dcIsWord pmIsWord anIsWord cdIsWord ctIsWord), slIsWord⟩)
    (cIsWord : PySem.W.codeIn K cdIsWord "_law_is_word" = true)
    (aIsWord : PySem.W.nsIn K mainGlobals "_law_is_word" = some (some (.ref fIsWord)))
    (kIsWord : PySem.W.keepIn K (.ref fIsWord) = true)
    (lFault : K.lookup fFault = some ⟨ocFault, odFault, .func (PySem.W.fnOf "_law_fault" "_law_fault" (defArgs sFault) (defBody sFault) (defScope sFault) .none kVFault dcFault pmFault anFault cdFault ctFault), slFault⟩)
    (cFault : PySem.W.codeIn K cdFault "_law_fault" = true)
    (aFault : PySem.W.nsIn K mainGlobals "_law_fault" = some (some (.ref fFault)))
    (kFault : PySem.W.keepIn K (.ref fFault) = true)
    (lOdd : K.lookup fOdd = some ⟨ocOdd, odOdd, .func (PySem.W.fnOf "_law_odd" "_law_odd" (defArgs sOdd) (defBody sOdd) (defScope sOdd) .none kVOdd dcOdd pmOdd anOdd cdOdd ctOdd), slOdd⟩)
    (cOdd : PySem.W.codeIn K cdOdd "_law_odd" = true)
    (aOdd : PySem.W.nsIn K mainGlobals "_law_odd" = some (some (.ref fOdd)))
    (kOdd : PySem.W.keepIn K (.ref fOdd) = true)
    (lBookL : K.lookup fBookL = some ⟨ocBookL, odBookL, .func (PySem.W.fnOf "_law_book" "_law_book" (defArgs sBookL) (defBody sBookL) (defScope sBookL) .none kVBookL dcBookL pmBookL anBookL cdBookL ctBookL), slBookL⟩)
    (cBookL : PySem.W.codeIn K cdBookL "_law_book" = true)
    (aBookL : PySem.W.nsIn K mainGlobals "_law_book" = some (some (.ref fBookL)))
    (kBookL : PySem.W.keepIn K (.ref fBookL) = true)
    (lPlus : K.lookup fPlus = some ⟨ocPlus, odPlus, .func (PySem.W.fnOf "_law_plus" "_law_plus" (defArgs sPlus) (defBody sPlus) (defScope sPlus) .none kVPlus dcPlus pmPlus anPlus cdPlus ctPlus), slPlus⟩)
    (cPlus : PySem.W.codeIn K cdPlus "_law_plus" = true)
    (aPlus : PySem.W.nsIn K mainGlobals "_law_plus" = some (some (.ref fPlus)))
    (kPlus : PySem.W.keepIn K (.ref fPlus) = true)
    (lMinus : K.lookup fMinus = some ⟨ocMinus, odMinus, .func (PySem.W.fnOf "_law_minus" "_law_minus" (defArgs sMinus) (defBody sMinus) (defScope sMinus) .none kVMinus dcMinus pmMinus anMinus cdMinus ctMinus), slMinus⟩)
    (cMinus : PySem.W.codeIn K cdMinus "_law_minus" = true)
    (aMinus : PySem.W.nsIn K mainGlobals "_law_minus" = some (some (.ref fMinus)))
    (kMinus : PySem.W.keepIn K (.ref fMinus) = true)
    (lItem : K.lookup fItem = some ⟨ocItem, odItem, .func (PySem.W.fnOf "_law_item" "_law_item" (defArgs sItem) (defBody sItem) (defScope sItem) .none kVItem dcItem pmItem anItem cdItem ctItem), slItem⟩)
    (cItem : PySem.W.codeIn K cdItem "_law_item" = true)
    (aItem : PySem.W.nsIn K mainGlobals "_law_item" = some (some (.ref fItem)))
    (kItem : PySem.W.keepIn K (.ref fItem) = true)
    (lAlikeL : K.lookup fAlikeL = some ⟨ocAlikeL, odAlikeL, .func (PySem.W.fnOf "_law_alike" "_law_alike" (defArgs sAlikeL) (defBody sAlikeL) (defScope sAlikeL) .none kVAlikeL dcAlikeL pmAlikeL anAlikeL cdAlikeL ctAlikeL), slAlikeL⟩)
    (cAlikeL : PySem.W.codeIn K cdAlikeL "_law_alike" = true)
    (aAlikeL : PySem.W.nsIn K mainGlobals "_law_alike" = some (some (.ref fAlikeL)))
    (kAlikeL : PySem.W.keepIn K (.ref fAlikeL) = true)
    (lHolds : K.lookup fHolds = some ⟨ocHolds, odHolds, .func (PySem.W.fnOf "_law_holds" "_law_holds" (defArgs sHolds) (defBody sHolds) (defScope sHolds) .none kVHolds dcHolds pmHolds anHolds cdHolds ctHolds), slHolds⟩)
    (cHolds : PySem.W.codeIn K cdHolds "_law_holds" = true)
    (aHolds : PySem.W.nsIn K mainGlobals "_law_holds" = some (some (.ref fHolds)))
    (kHolds : PySem.W.keepIn K (.ref fHolds) = true)
    (lDue : K.lookup fDue = some ⟨ocDue, odDue, .func (PySem.W.fnOf "_law_due" "_law_due" (defArgs sDue) (defBody sDue) (defScope sDue) .none kVDue dcDue pmDue anDue cdDue ctDue), slDue⟩)
    (cDue : PySem.W.codeIn K cdDue "_law_due" = true)
    (aDue : PySem.W.nsIn K mainGlobals "_law_due" = some (some (.ref fDue)))
    (kDue : PySem.W.keepIn K (.ref fDue) = true)
    (lAdded : K.lookup fAdded = some ⟨ocAdded, odAdded, .func (PySem.W.fnOf "_law_added" "_law_added" (defArgs sAdded) (defBody sAdded) (defScope sAdded) .none kVAdded dcAdded pmAdded anAdded cdAdded ctAdded), slAdded⟩)
    (cAdded : PySem.W.codeIn K cdAdded "_law_added" = true)
    (aAdded : PySem.W.nsIn K mainGlobals "_law_added" = some (some (.ref fAdded)))
    (kAdded : PySem.W.keepIn K (.ref fAdded) = true)
    (lRemoved : K.lookup fRemoved = some ⟨ocRemoved, odRemoved, .func (PySem.W.fnOf "_law_removed" "_law_removed" (defArgs sRemoved) (defBody sRemoved) (defScope sRemoved) .none kVRemoved dcRemoved pmRemoved anRemoved cdRemoved ctRemoved), slRemoved⟩)
    (cRemoved : PySem.W.codeIn K cdRemoved "_law_removed" = true)
    (aRemoved : PySem.W.nsIn K mainGlobals "_law_removed" = some (some (.ref fRemoved)))
    (kRemoved : PySem.W.keepIn K (.ref fRemoved) = true)
    (lEntry : K.lookup fEntry = some ⟨ocEntry, odEntry, .func (PySem.W.fnOf "_law_entry" "_law_entry" (defArgs sEntry) (defBody sEntry) (defScope sEntry) .none kVEntry dcEntry pmEntry anEntry cdEntry ctEntry), slEntry⟩)
    (cEntry : PySem.W.codeIn K cdEntry "_law_entry" = true)
    (aEntry : PySem.W.nsIn K mainGlobals "_law_entry" = some (some (.ref fEntry)))
    (kEntry : PySem.W.keepIn K (.ref fEntry) = true)
    (lDeed : K.lookup fDeed = some ⟨ocDeed, odDeed, .func (PySem.W.fnOf "_law_deed" "_law_deed" (defArgs sDeed) (defBody sDeed) (defScope sDeed) .none kVDeed dcDeed pmDeed anDeed cdDeed ctDeed), slDeed⟩)
    (cDeed : PySem.W.codeIn K cdDeed "_law_deed" = true)
    (aDeed : PySem.W.nsIn K mainGlobals "_law_deed" = some (some (.ref fDeed)))
    (kDeed : PySem.W.keepIn K (.ref fDeed) = true)
    (lCheck : K.lookup fCheck = some ⟨ocCheck, odCheck, .func (PySem.W.fnOf "check_entry" "check_entry" (defArgs sCheck) (defBody sCheck) (defScope sCheck) .none kVCheck dcCheck pmCheck anCheck cdCheck ctCheck), slCheck⟩)
    (cCheck : PySem.W.codeIn K cdCheck "check_entry" = true)
    (aCheck : PySem.W.nsIn K mainGlobals "check_entry" = some (some (.ref fCheck)))
    (kCheck : PySem.W.keepIn K (.ref fCheck) = true)
    (lIsForm : K.lookup fIsForm = some ⟨ocIsForm, odIsForm, .func (PySem.W.fnOf "is_form" "is_form" (defArgs sIsForm) (defBody sIsForm) (defScope sIsForm) .none kVIsForm dcIsForm pmIsForm anIsForm cdIsForm ctIsForm), slIsForm⟩)
    (cIsForm : PySem.W.codeIn K cdIsForm "is_form" = true)
    (aIsForm : PySem.W.nsIn K mainGlobals "is_form" = some (some (.ref fIsForm)))
    (kIsForm : PySem.W.keepIn K (.ref fIsForm) = true)
    (lOver : K.lookup fOver = some ⟨ocOver, odOver, .func (PySem.W.fnOf "overlap" "overlap" (defArgs sOver) (defBody sOver) (defScope sOver) .none kVOver dcOver pmOver anOver cdOver ctOver), slOver⟩)
    (cOver : PySem.W.codeIn K cdOver "overlap" = true)
    (aOver : PySem.W.nsIn K mainGlobals "overlap" = some (some (.ref fOver)))
    (kOver : PySem.W.keepIn K (.ref fOver) = true)
    (lConf : K.lookup fConf = some ⟨ocConf, odConf, .func (PySem.W.fnOf "conflict" "conflict" (defArgs sConf) (defBody sConf) (defScope sConf) .none kVConf dcConf pmConf anConf cdConf ctConf), slConf⟩)
    (cConf : PySem.W.codeIn K cdConf "conflict" = true)
    (aConf : PySem.W.nsIn K mainGlobals "conflict" = some (some (.ref fConf)))
    (kConf : PySem.W.keepIn K (.ref fConf) = true)
    (lLaw : K.lookup fLaw = some ⟨ocLaw, odLaw, .func (PySem.W.fnOf "law" "law" (defArgs sLaw) (defBody sLaw) (defScope sLaw) .none kVLaw dcLaw pmLaw anLaw cdLaw ctLaw), slLaw⟩)
    (cLaw : PySem.W.codeIn K cdLaw "law" = true)
    (aLaw : PySem.W.nsIn K mainGlobals "law" = some (some (.ref fLaw)))
    (kLaw : PySem.W.keepIn K (.ref fLaw) = true)
    (z_len : PySem.W.nsIn K mainGlobals "len" = some none)
    (z_set : PySem.W.nsIn K mainGlobals "set" = some none)
    (z_all : PySem.W.nsIn K mainGlobals "all" = some none)
    (z_abs : PySem.W.nsIn K mainGlobals "abs" = some none)
    (z_int : PySem.W.nsIn K mainGlobals "int" = some none)
    (z_range : PySem.W.nsIn K mainGlobals "range" = some none)
    (z_sorted : PySem.W.nsIn K mainGlobals "sorted" = some none)
    (z_isinstance : PySem.W.nsIn K mainGlobals "isinstance" = some none)
    (z_str : PySem.W.nsIn K mainGlobals "str" = some none)
    (z_bool : PySem.W.nsIn K mainGlobals "bool" = some none)
    (z_list : PySem.W.nsIn K mainGlobals "list" = some none)
    (z_tuple : PySem.W.nsIn K mainGlobals "tuple" = some none)
    (z_any : PySem.W.nsIn K mainGlobals "any" = some none)
    (z_enumerate : PySem.W.nsIn K mainGlobals "enumerate" = some none)
    (z_min : PySem.W.nsIn K mainGlobals "min" = some none)
    (z_ValueError : PySem.W.nsIn K mainGlobals "ValueError" = some none)
    (aC : PySem.W.nsIn K mainGlobals "Alphabet" = some (some (.ref C)))
    (pgC : PySem.W.plainGet K C Str.empty = true)
    (hdC : PySem.W.hasDictIn K C = true)
    (poC : PySem.W.plainOver K C = true)
    (saC : PySem.W.findIn K (.ref C) "__setattr__" = some (some (.builtin "object.__setattr__")))
    (mkC : PySem.W.makesIn K C = true)
    (kC : PySem.W.keepIn K (.ref C) = true)
    (nC_letters : PySem.W.findIn K (.ref C) "letters" = some none)
    (nC_vowels : PySem.W.findIn K (.ref C) "vowels" = some none)
    (nC_consonants : PySem.W.findIn K (.ref C) "consonants" = some none)
    (nC_signs : PySem.W.findIn K (.ref C) "signs" = some none)
    (ig : PySem.W.specialIn K (.builtin "object.__class__") "__get__" = some (some (.builtin "getset_descriptor.__get__")))
    (it : PySem.W.takesIn K (.builtin "object.__class__") = some true)
    (icC : PySem.W.findIn K (.ref C) "__class__" = some (some (.builtin "object.__class__")))
    (imC : PySem.W.mroIn K C (.type "object") = some true)
    (rdC : PySem.W.readsIn K C (.type "type") = true)
    (gaC : PySem.W.specialIn K (.ref C) "__getattribute__" = some (some (.builtin "type.__getattribute__")))
    (vM : PySem.W.findCls K (.ref C) (.type "type") "MOST" = some (.val (.int 4 tM)))
    (vJ : PySem.W.findCls K (.ref C) (.type "type") "JOINT" = some (.val (.str "-" tJ)))
    (aSL : PySem.W.nsIn K mainGlobals "SMALL_LETTERS" = some (some (.str "abcdefghijklmnopqrstuvwxyz" tl)))
    (lT : K.lookup fT = some ⟨ocT, odT, .func (PySem.W.fnOf "is_text" "Alphabet.is_text" (defArgs sIsText) (defBody sIsText) (defScope sIsText) .none kVT dcT pmT anT cdT ctT), slT⟩)
    (cT : PySem.W.codeIn K cdT "Alphabet.is_text" = true)
    (aT : PySem.W.findIn K (.ref C) "is_text" = some (some (.ref fT)))
    (kT : PySem.W.keepIn K (.ref fT) = true)
    (iT : PySem.W.isFn K (.ref fT) = true)
    (lE : K.lookup fE = some ⟨ocE, odE, .func (PySem.W.fnOf "__eq__" "Alphabet.__eq__" (defArgs sEq) (defBody sEq) (defScope sEq) .none kVE dcE pmE anE cdE ctE), slE⟩)
    (cE : PySem.W.codeIn K cdE "Alphabet.__eq__" = true)
    (aE : PySem.W.findIn K (.ref C) "__eq__" = some (some (.ref fE)))
    (kE : PySem.W.keepIn K (.ref fE) = true)
    (iE : PySem.W.isFn K (.ref fE) = true)
    (nE : PySem.W.notFirst K C (.ref C) = true)
    (lA : K.lookup fA = some ⟨ocA, odA, .func (PySem.W.fnOf "__init__" "Alphabet.__init__" (defArgs sAI) (defBody sAI) (defScope sAI) (.ref TD) kVA dcA pmA anA cdA ctA), slA⟩)
    (cA : PySem.W.codeIn K cdA "Alphabet.__init__" = true)
    (aA : PySem.W.findIn K (.ref C) "__init__" = some (some (.ref fA)))
    (lD : K.lookup TD = some ⟨ocD, odD, .seq [Value.str "" td].toArray nD, slD⟩)
    (kA : PySem.W.keepIn K (.ref fA) = true)
    (iA : PySem.W.isFn K (.ref fA) = true)
    (aCB : PySem.W.nsIn K mainGlobals "Book" = some (some (.ref CB)))
    (pgCB : PySem.W.plainGet K CB Str.empty = true)
    (hdCB : PySem.W.hasDictIn K CB = true)
    (poCB : PySem.W.plainOver K CB = true)
    (saCB : PySem.W.findIn K (.ref CB) "__setattr__" = some (some (.builtin "object.__setattr__")))
    (mkCB : PySem.W.makesIn K CB = true)
    (kCB : PySem.W.keepIn K (.ref CB) = true)
    (rdCB : PySem.W.readsIn K CB (.type "type") = true)
    (gaCB : PySem.W.specialIn K (.ref CB) "__getattribute__" = some (some (.builtin "type.__getattribute__")))
    (vMB : PySem.W.findCls K (.ref CB) (.type "type") "MOST" = some (.val (.int 8 tMB)))
    (nCB_alphabet : PySem.W.findIn K (.ref CB) "alphabet" = some none)
    (nCB_entries : PySem.W.findIn K (.ref CB) "_entries" = some none)
    (lBI : K.lookup fBI = some ⟨ocBI, odBI, .func (PySem.W.fnOf "__init__" "Book.__init__" (defArgs sBI) (defBody sBI) (defScope sBI) .none kVBI dcBI pmBI anBI cdBI ctBI), slBI⟩)
    (cBI : PySem.W.codeIn K cdBI "Book.__init__" = true)
    (aBI : PySem.W.findIn K (.ref CB) "__init__" = some (some (.ref fBI)))
    (kBI : PySem.W.keepIn K (.ref fBI) = true)
    (iBI : PySem.W.isFn K (.ref fBI) = true)
    (lN : K.lookup fN = some ⟨ocN, odN, .func (PySem.W.fnOf "names" "Book.names" (defArgs sNames) (defBody sNames) (defScope sNames) .none kVN dcN pmN anN cdN ctN), slN⟩)
    (cN : PySem.W.codeIn K cdN "Book.names" = true)
    (aN : PySem.W.findIn K (.ref CB) "names" = some (some (.ref fN)))
    (kN : PySem.W.keepIn K (.ref fN) = true)
    (iN : PySem.W.isFn K (.ref fN) = true)
    (lEn : K.lookup fEn = some ⟨ocEn, odEn, .func (PySem.W.fnOf "entries" "Book.entries" (defArgs sEntries) (defBody sEntries) (defScope sEntries) .none kVEn dcEn pmEn anEn cdEn ctEn), slEn⟩)
    (cEn : PySem.W.codeIn K cdEn "Book.entries" = true)
    (aEn : PySem.W.findIn K (.ref CB) "entries" = some (some (.ref fEn)))
    (kEn : PySem.W.keepIn K (.ref fEn) = true)
    (iEn : PySem.W.isFn K (.ref fEn) = true)
    (lLn : K.lookup fLn = some ⟨ocLn, odLn, .func (PySem.W.fnOf "__len__" "Book.__len__" (defArgs sLenB) (defBody sLenB) (defScope sLenB) .none kVLn dcLn pmLn anLn cdLn ctLn), slLn⟩)
    (cLn : PySem.W.codeIn K cdLn "Book.__len__" = true)
    (aLn : PySem.W.findIn K (.ref CB) "__len__" = some (some (.ref fLn)))
    (kLn : PySem.W.keepIn K (.ref fLn) = true)
    (iLn : PySem.W.isFn K (.ref fLn) = true)
    (a6 : PySem.W.nsIn K mainGlobals "LONGEST_FORM" = some (some (.int 6 t6)))
    (a8 : PySem.W.nsIn K mainGlobals "LONGEST_NAME" = some (some (.int 8 t8)))
    (nB : PySem.W.notFirst K CB (.ref CB) = true)
    (icCB : PySem.W.findIn K (.ref CB) "__class__" = some (some (.builtin "object.__class__")))
    (imCB : PySem.W.mroIn K CB (.type "object") = some true)
    (sfB : PySem.W.selfFirst K CB = true)
    (lEq : K.lookup fEq = some ⟨ocEq, odEq, .func (PySem.W.fnOf "__eq__" "Book.__eq__" (defArgs sBEq) (defBody sBEq) (defScope sBEq) .none kVEq dcEq pmEq anEq cdEq ctEq), slEq⟩)
    (cEq : PySem.W.codeIn K cdEq "Book.__eq__" = true)
    (aEq : PySem.W.findIn K (.ref CB) "__eq__" = some (some (.ref fEq)))
    (kEq : PySem.W.keepIn K (.ref fEq) = true)
    (iEq : PySem.W.isFn K (.ref fEq) = true)
    (lHas : K.lookup fHas = some ⟨ocHas, odHas, .func (PySem.W.fnOf "__contains__" "Book.__contains__" (defArgs sHas) (defBody sHas) (defScope sHas) .none kVHas dcHas pmHas anHas cdHas ctHas), slHas⟩)
    (cHas : PySem.W.codeIn K cdHas "Book.__contains__" = true)
    (aHas : PySem.W.findIn K (.ref CB) "__contains__" = some (some (.ref fHas)))
    (kHas : PySem.W.keepIn K (.ref fHas) = true)
    (iHas : PySem.W.isFn K (.ref fHas) = true)
    (lIt0 : K.lookup fIt0 = some ⟨ocIt0, odIt0, .func (PySem.W.fnOf "__getitem__" "Book.__getitem__" (defArgs sItem0) (defBody sItem0) (defScope sItem0) .none kVIt0 dcIt0 pmIt0 anIt0 cdIt0 ctIt0), slIt0⟩)
    (cIt0 : PySem.W.codeIn K cdIt0 "Book.__getitem__" = true)
    (aIt0 : PySem.W.findIn K (.ref CB) "__getitem__" = some (some (.ref fIt0)))
    (kIt0 : PySem.W.keepIn K (.ref fIt0) = true)
    (iIt0 : PySem.W.isFn K (.ref fIt0) = true)
    (fnIt0 : PySem.W.fnIn K fIt0 = true)
    (lAdd : K.lookup fAdd = some ⟨ocAdd, odAdd, .func (PySem.W.fnOf "__add__" "Book.__add__" (defArgs sBAdd) (defBody sBAdd) (defScope sBAdd) .none kVAdd dcAdd pmAdd anAdd cdAdd ctAdd), slAdd⟩)
    (cAdd : PySem.W.codeIn K cdAdd "Book.__add__" = true)
    (aAdd : PySem.W.findIn K (.ref CB) "__add__" = some (some (.ref fAdd)))
    (kAdd : PySem.W.keepIn K (.ref fAdd) = true)
    (iAdd : PySem.W.isFn K (.ref fAdd) = true)
    (lSub : K.lookup fSub = some ⟨ocSub, odSub, .func (PySem.W.fnOf "__sub__" "Book.__sub__" (defArgs sBSub) (defBody sBSub) (defScope sBSub) .none kVSub dcSub pmSub anSub cdSub ctSub), slSub⟩)
    (cSub : PySem.W.codeIn K cdSub "Book.__sub__" = true)
    (aSub : PySem.W.findIn K (.ref CB) "__sub__" = some (some (.ref fSub)))
    (kSub : PySem.W.keepIn K (.ref fSub) = true)
    (iSub : PySem.W.isFn K (.ref fSub) = true)
    (rAdd : PySem.W.findIn K (.ref CB) "__radd__" = some none)
    (rSub : PySem.W.findIn K (.ref CB) "__rsub__" = some none)
    (tA1 : PySem.W.findIn K (.type "str") "__add__" = some wA1)
    (tA2 : PySem.W.findIn K (.type "str") "__radd__" = some wA2)
    (tA3 : PySem.W.findIn K (.type "tuple") "__add__" = some wA3)
    (tA4 : PySem.W.findIn K (.type "tuple") "__radd__" = some wA4)
    (tS1 : PySem.W.findIn K (.type "str") "__sub__" = some wS1)
    (tS2 : PySem.W.findIn K (.type "str") "__rsub__" = some wS2)
    (tS3 : PySem.W.findIn K (.type "tuple") "__sub__" = some wS3)
    (tS4 : PySem.W.findIn K (.type "tuple") "__rsub__" = some wS4)
    (ssB : PySem.W.subIn K (.type "str") (.ref CB) = some false)
    (stB : PySem.W.subIn K (.type "tuple") (.ref CB) = some false)
    (aKI : PySem.W.nsIn K mainGlobals "KINDS" = some (some (.ref KI)))
    (lKI : K.lookup KI = some ⟨.type "dict", none, .dict #[⟨h1, .str "any" ta, u1⟩, ⟨h2, .str "opening" to, u2⟩, ⟨h3, .str "inner" ti, u3⟩] nKI, #[]⟩)
    (q1 : h1 = PyData.keyHash w.params "any")
    (q2 : h2 = PyData.keyHash w.params "opening")
    (q3 : h3 = PyData.keyHash w.params "inner")
    (low : (KI == sysModules) = false)
    (xTE : K.lookup TE = some (excClassObj nmTE qTE TE NTE bsTE [.type "ValueError", .type "Exception", .type "BaseException", .type "object"] true snTE subTE abTE colTE ddTE m0TE m1TE m2TE m3TE m5TE "ValueError.__new__"))
    (aTE : PySem.W.nsIn K mainGlobals "TaleError" = some (some (.ref TE)))
    (eTE : PySem.W.subIn K (.ref TE) (.type "BaseException") = some true)
    (tTE : PySem.W.typeIn K (.ref TE) = some (.type "type"))
    (hTE : PySem.W.hasDictIn K TE = true)
    (iTE : PySem.W.findIn K (.ref TE) "__init__" = some (some (.builtin "ValueError.__init__")))
    (noT : (l.prog.main.scope.names.lookup ("super" : Str)).isSome = false)
    (noM : PySem.W.nsIn K mainGlobals "super" = some none)
    (anyS : PySem.W.nsIn K cStatics "thirdparty.any" = some none)
    (xBA : K.lookup BA = some (excClassObj nmBA qBA BA NBA bsBA [.ref TE, .type "ValueError", .type "Exception", .type "BaseException", .type "object"] true snBA subBA abBA colBA ddBA m0BA m1BA m2BA m3BA m5BA "ValueError.__new__"))
    (aBA : PySem.W.nsIn K mainGlobals "BadAlphabet" = some (some (.ref BA)))
    (eBA : PySem.W.subIn K (.ref BA) (.type "BaseException") = some true)
    (tBA : PySem.W.typeIn K (.ref BA) = some (.type "type"))
    (hBA : PySem.W.hasDictIn K BA = true)
    (nBA_part : PySem.W.findIn K (.ref BA) "part" = some none)
    (saBA : PySem.W.findIn K (.ref BA) "__setattr__" = some (some (.builtin "object.__setattr__")))
    (gaBA : PySem.W.findIn K (.ref BA) "__getattribute__" = some (some (.builtin "BaseException.__getattribute__")))
    (ggBA : PySem.W.findIn K (.ref BA) "__getattr__" = some none)
    (aFBA : PySem.W.findIn K (.ref BA) "__init__" = some (some (.ref fBA)))
    (tFBA : PySem.W.typeIn K (.ref fBA) = some (.type "function"))
    (lBA : K.lookup fBA = some ⟨ocBA, odBA, .func (PySem.W.ksFn "__init__" "BadAlphabet.__init__" (defArgs sBA) (defBody sBA) (defScope sBA) .none kVBA dcBA pmBA anBA (.ref cdaBA) ctBA ccBA), slBA⟩)
    (cBA : PySem.W.codeIn K (.ref cdaBA) "BadAlphabet.__init__" = true)
    (kBA : PySem.W.keepIn K (.ref BA) = true)
    (lccBA : K.lookup ccBA = some ⟨clccBA, ddccBA, .cell (some (.ref BA)), slccBA⟩)
    (lcdBA : K.lookup cdaBA = some ⟨clcdBA, ddcdBA, .fields vsCBA, slcdBA⟩)
    (hvBA : vsCBA[2]? = some (.str flBA tfBA))
    (hflBA : ((l.prog.main.file : Str) == flBA) = true)
    (mmBA : PySem.W.mroIn K BA (.ref BA) = some true)
    (vBA : PySem.W.subIn K (.ref BA) (.type "ValueError") = some true)
    (xTM : K.lookup TM = some (excClassObj nmTM qTM TM NTM bsTM [.ref TE, .type "ValueError", .type "Exception", .type "BaseException", .type "object"] true snTM subTM abTM colTM ddTM m0TM m1TM m2TM m3TM m5TM "ValueError.__new__"))
    (aTM : PySem.W.nsIn K mainGlobals "TooMany" = some (some (.ref TM)))
    (eTM : PySem.W.subIn K (.ref TM) (.type "BaseException") = some true)
    (tTM : PySem.W.typeIn K (.ref TM) = some (.type "type"))
    (hTM : PySem.W.hasDictIn K TM = true)
    (nTM_most : PySem.W.findIn K (.ref TM) "most" = some none)
    (saTM : PySem.W.findIn K (.ref TM) "__setattr__" = some (some (.builtin "object.__setattr__")))
    (gaTM : PySem.W.findIn K (.ref TM) "__getattribute__" = some (some (.builtin "BaseException.__getattribute__")))
    (ggTM : PySem.W.findIn K (.ref TM) "__getattr__" = some none)
    (aFTM : PySem.W.findIn K (.ref TM) "__init__" = some (some (.ref fTM)))
    (tFTM : PySem.W.typeIn K (.ref fTM) = some (.type "function"))
    (lTM : K.lookup fTM = some ⟨ocTM, odTM, .func (PySem.W.ksFn "__init__" "TooMany.__init__" (defArgs sTooMany) (defBody sTooMany) (defScope sTooMany) .none kVTM dcTM pmTM anTM (.ref cdaTM) ctTM ccTM), slTM⟩)
    (cTM : PySem.W.codeIn K (.ref cdaTM) "TooMany.__init__" = true)
    (kTM : PySem.W.keepIn K (.ref TM) = true)
    (lccTM : K.lookup ccTM = some ⟨clccTM, ddccTM, .cell (some (.ref TM)), slccTM⟩)
    (lcdTM : K.lookup cdaTM = some ⟨clcdTM, ddcdTM, .fields vsCTM, slcdTM⟩)
    (hvTM : vsCTM[2]? = some (.str flTM tfTM))
    (hflTM : ((l.prog.main.file : Str) == flTM) = true)
    (mmTM : PySem.W.mroIn K TM (.ref TM) = some true)
    (vTM : PySem.W.subIn K (.ref TM) (.type "ValueError") = some true)
    (xBN : K.lookup BN = some (excClassObj nmBN qBN BN NBN bsBN [.ref TE, .type "ValueError", .type "Exception", .type "BaseException", .type "object"] true snBN subBN abBN colBN ddBN m0BN m1BN m2BN m3BN m5BN "ValueError.__new__"))
    (aBN : PySem.W.nsIn K mainGlobals "BadName" = some (some (.ref BN)))
    (eBN : PySem.W.subIn K (.ref BN) (.type "BaseException") = some true)
    (tBN : PySem.W.typeIn K (.ref BN) = some (.type "type"))
    (hBN : PySem.W.hasDictIn K BN = true)
    (nBN_name : PySem.W.findIn K (.ref BN) "name" = some none)
    (saBN : PySem.W.findIn K (.ref BN) "__setattr__" = some (some (.builtin "object.__setattr__")))
    (gaBN : PySem.W.findIn K (.ref BN) "__getattribute__" = some (some (.builtin "BaseException.__getattribute__")))
    (ggBN : PySem.W.findIn K (.ref BN) "__getattr__" = some none)
    (aFBN : PySem.W.findIn K (.ref BN) "__init__" = some (some (.ref fBN)))
    (tFBN : PySem.W.typeIn K (.ref fBN) = some (.type "function"))
    (lBN : K.lookup fBN = some ⟨ocBN, odBN, .func (PySem.W.ksFn "__init__" "BadName.__init__" (defArgs sBadName) (defBody sBadName) (defScope sBadName) .none kVBN dcBN pmBN anBN (.ref cdaBN) ctBN ccBN), slBN⟩)
    (cBN : PySem.W.codeIn K (.ref cdaBN) "BadName.__init__" = true)
    (kBN : PySem.W.keepIn K (.ref BN) = true)
    (lccBN : K.lookup ccBN = some ⟨clccBN, ddccBN, .cell (some (.ref BN)), slccBN⟩)
    (lcdBN : K.lookup cdaBN = some ⟨clcdBN, ddcdBN, .fields vsCBN, slcdBN⟩)
    (hvBN : vsCBN[2]? = some (.str flBN tfBN))
    (hflBN : ((l.prog.main.file : Str) == flBN) = true)
    (mmBN : PySem.W.mroIn K BN (.ref BN) = some true)
    (vBN : PySem.W.subIn K (.ref BN) (.type "ValueError") = some true)
    (xBF : K.lookup BF = some (excClassObj nmBF qBF BF NBF bsBF [.ref TE, .type "ValueError", .type "Exception", .type "BaseException", .type "object"] true snBF subBF abBF colBF ddBF m0BF m1BF m2BF m3BF m5BF "ValueError.__new__"))
    (aBF : PySem.W.nsIn K mainGlobals "BadForm" = some (some (.ref BF)))
    (eBF : PySem.W.subIn K (.ref BF) (.type "BaseException") = some true)
    (tBF : PySem.W.typeIn K (.ref BF) = some (.type "type"))
    (hBF : PySem.W.hasDictIn K BF = true)
    (nBF_form : PySem.W.findIn K (.ref BF) "form" = some none)
    (saBF : PySem.W.findIn K (.ref BF) "__setattr__" = some (some (.builtin "object.__setattr__")))
    (gaBF : PySem.W.findIn K (.ref BF) "__getattribute__" = some (some (.builtin "BaseException.__getattribute__")))
    (ggBF : PySem.W.findIn K (.ref BF) "__getattr__" = some none)
    (aFBF : PySem.W.findIn K (.ref BF) "__init__" = some (some (.ref fBF)))
    (tFBF : PySem.W.typeIn K (.ref fBF) = some (.type "function"))
    (lBF : K.lookup fBF = some ⟨ocBF, odBF, .func (PySem.W.ksFn "__init__" "BadForm.__init__" (defArgs sBadForm) (defBody sBadForm) (defScope sBadForm) .none kVBF dcBF pmBF anBF (.ref cdaBF) ctBF ccBF), slBF⟩)
    (cBF : PySem.W.codeIn K (.ref cdaBF) "BadForm.__init__" = true)
    (kBF : PySem.W.keepIn K (.ref BF) = true)
    (lccBF : K.lookup ccBF = some ⟨clccBF, ddccBF, .cell (some (.ref BF)), slccBF⟩)
    (lcdBF : K.lookup cdaBF = some ⟨clcdBF, ddcdBF, .fields vsCBF, slcdBF⟩)
    (hvBF : vsCBF[2]? = some (.str flBF tfBF))
    (hflBF : ((l.prog.main.file : Str) == flBF) = true)
    (mmBF : PySem.W.mroIn K BF (.ref BF) = some true)
    (vBF : PySem.W.subIn K (.ref BF) (.type "ValueError") = some true)
    (xUP : K.lookup UP = some (excClassObj nmUP qUP UP NUP bsUP [.ref TE, .type "ValueError", .type "Exception", .type "BaseException", .type "object"] true snUP subUP abUP colUP ddUP m0UP m1UP m2UP m3UP m5UP "ValueError.__new__"))
    (aUP : PySem.W.nsIn K mainGlobals "UnknownPlace" = some (some (.ref UP)))
    (eUP : PySem.W.subIn K (.ref UP) (.type "BaseException") = some true)
    (tUP : PySem.W.typeIn K (.ref UP) = some (.type "type"))
    (hUP : PySem.W.hasDictIn K UP = true)
    (nUP_place : PySem.W.findIn K (.ref UP) "place" = some none)
    (saUP : PySem.W.findIn K (.ref UP) "__setattr__" = some (some (.builtin "object.__setattr__")))
    (gaUP : PySem.W.findIn K (.ref UP) "__getattribute__" = some (some (.builtin "BaseException.__getattribute__")))
    (ggUP : PySem.W.findIn K (.ref UP) "__getattr__" = some none)
    (aFUP : PySem.W.findIn K (.ref UP) "__init__" = some (some (.ref fUP)))
    (tFUP : PySem.W.typeIn K (.ref fUP) = some (.type "function"))
    (lUP : K.lookup fUP = some ⟨ocUP, odUP, .func (PySem.W.ksFn "__init__" "UnknownPlace.__init__" (defArgs sUnknownPlace) (defBody sUnknownPlace) (defScope sUnknownPlace) .none kVUP dcUP pmUP anUP (.ref cdaUP) ctUP ccUP), slUP⟩)
    (cUP : PySem.W.codeIn K (.ref cdaUP) "UnknownPlace.__init__" = true)
    (kUP : PySem.W.keepIn K (.ref UP) = true)
    (lccUP : K.lookup ccUP = some ⟨clccUP, ddccUP, .cell (some (.ref UP)), slccUP⟩)
    (lcdUP : K.lookup cdaUP = some ⟨clcdUP, ddcdUP, .fields vsCUP, slcdUP⟩)
    (hvUP : vsCUP[2]? = some (.str flUP tfUP))
    (hflUP : ((l.prog.main.file : Str) == flUP) = true)
    (mmUP : PySem.W.mroIn K UP (.ref UP) = some true)
    (vUP : PySem.W.subIn K (.ref UP) (.type "ValueError") = some true)
    (xDN : K.lookup DN = some (excClassObj nmDN qDN DN NDN bsDN [.ref TE, .type "ValueError", .type "Exception", .type "BaseException", .type "object"] true snDN subDN abDN colDN ddDN m0DN m1DN m2DN m3DN m5DN "ValueError.__new__"))
    (aDN : PySem.W.nsIn K mainGlobals "DuplicateName" = some (some (.ref DN)))
    (eDN : PySem.W.subIn K (.ref DN) (.type "BaseException") = some true)
    (tDN : PySem.W.typeIn K (.ref DN) = some (.type "type"))
    (hDN : PySem.W.hasDictIn K DN = true)
    (nDN_name : PySem.W.findIn K (.ref DN) "name" = some none)
    (saDN : PySem.W.findIn K (.ref DN) "__setattr__" = some (some (.builtin "object.__setattr__")))
    (gaDN : PySem.W.findIn K (.ref DN) "__getattribute__" = some (some (.builtin "BaseException.__getattribute__")))
    (ggDN : PySem.W.findIn K (.ref DN) "__getattr__" = some none)
    (aFDN : PySem.W.findIn K (.ref DN) "__init__" = some (some (.ref fDN)))
    (tFDN : PySem.W.typeIn K (.ref fDN) = some (.type "function"))
    (lDN : K.lookup fDN = some ⟨ocDN, odDN, .func (PySem.W.ksFn "__init__" "DuplicateName.__init__" (defArgs sDuplicateName) (defBody sDuplicateName) (defScope sDuplicateName) .none kVDN dcDN pmDN anDN (.ref cdaDN) ctDN ccDN), slDN⟩)
    (cDN : PySem.W.codeIn K (.ref cdaDN) "DuplicateName.__init__" = true)
    (kDN : PySem.W.keepIn K (.ref DN) = true)
    (lccDN : K.lookup ccDN = some ⟨clccDN, ddccDN, .cell (some (.ref DN)), slccDN⟩)
    (lcdDN : K.lookup cdaDN = some ⟨clcdDN, ddcdDN, .fields vsCDN, slcdDN⟩)
    (hvDN : vsCDN[2]? = some (.str flDN tfDN))
    (hflDN : ((l.prog.main.file : Str) == flDN) = true)
    (mmDN : PySem.W.mroIn K DN (.ref DN) = some true)
    (vDN : PySem.W.subIn K (.ref DN) (.type "ValueError") = some true)
    (xCF : K.lookup CF = some (excClassObj nmCF qCF CF NCF bsCF [.ref TE, .type "ValueError", .type "Exception", .type "BaseException", .type "object"] true snCF subCF abCF colCF ddCF m0CF m1CF m2CF m3CF m5CF "ValueError.__new__"))
    (aCF : PySem.W.nsIn K mainGlobals "Conflict" = some (some (.ref CF)))
    (eCF : PySem.W.subIn K (.ref CF) (.type "BaseException") = some true)
    (tCF : PySem.W.typeIn K (.ref CF) = some (.type "type"))
    (hCF : PySem.W.hasDictIn K CF = true)
    (nCF_name : PySem.W.findIn K (.ref CF) "name" = some none)
    (nCF_other : PySem.W.findIn K (.ref CF) "other" = some none)
    (saCF : PySem.W.findIn K (.ref CF) "__setattr__" = some (some (.builtin "object.__setattr__")))
    (gaCF : PySem.W.findIn K (.ref CF) "__getattribute__" = some (some (.builtin "BaseException.__getattribute__")))
    (ggCF : PySem.W.findIn K (.ref CF) "__getattr__" = some none)
    (aFCF : PySem.W.findIn K (.ref CF) "__init__" = some (some (.ref fCF)))
    (tFCF : PySem.W.typeIn K (.ref fCF) = some (.type "function"))
    (lCF : K.lookup fCF = some ⟨ocCF, odCF, .func (PySem.W.ksFn "__init__" "Conflict.__init__" (defArgs sConflict) (defBody sConflict) (defScope sConflict) .none kVCF dcCF pmCF anCF (.ref cdaCF) ctCF ccCF), slCF⟩)
    (cCF : PySem.W.codeIn K (.ref cdaCF) "Conflict.__init__" = true)
    (kCF : PySem.W.keepIn K (.ref CF) = true)
    (lccCF : K.lookup ccCF = some ⟨clccCF, ddccCF, .cell (some (.ref CF)), slccCF⟩)
    (lcdCF : K.lookup cdaCF = some ⟨clcdCF, ddcdCF, .fields vsCCF, slcdCF⟩)
    (hvCF : vsCCF[2]? = some (.str flCF tfCF))
    (hflCF : ((l.prog.main.file : Str) == flCF) = true)
    (mmCF : PySem.W.mroIn K CF (.ref CF) = some true)
    (vCF : PySem.W.subIn K (.ref CF) (.type "ValueError") = some true)
    (xUN : K.lookup UN = some (excClassObj nmUN qUN UN NUN bsUN [.ref TE, .type "ValueError", .type "Exception", .type "BaseException", .type "object"] true snUN subUN abUN colUN ddUN m0UN m1UN m2UN m3UN m5UN "ValueError.__new__"))
    (aUN : PySem.W.nsIn K mainGlobals "UnknownName" = some (some (.ref UN)))
    (eUN : PySem.W.subIn K (.ref UN) (.type "BaseException") = some true)
    (tUN : PySem.W.typeIn K (.ref UN) = some (.type "type"))
    (hUN : PySem.W.hasDictIn K UN = true)
    (nUN_name : PySem.W.findIn K (.ref UN) "name" = some none)
    (saUN : PySem.W.findIn K (.ref UN) "__setattr__" = some (some (.builtin "object.__setattr__")))
    (gaUN : PySem.W.findIn K (.ref UN) "__getattribute__" = some (some (.builtin "BaseException.__getattribute__")))
    (ggUN : PySem.W.findIn K (.ref UN) "__getattr__" = some none)
    (aFUN : PySem.W.findIn K (.ref UN) "__init__" = some (some (.ref fUN)))
    (tFUN : PySem.W.typeIn K (.ref fUN) = some (.type "function"))
    (lUN : K.lookup fUN = some ⟨ocUN, odUN, .func (PySem.W.ksFn "__init__" "UnknownName.__init__" (defArgs sUnknownName) (defBody sUnknownName) (defScope sUnknownName) .none kVUN dcUN pmUN anUN (.ref cdaUN) ctUN ccUN), slUN⟩)
    (cUN : PySem.W.codeIn K (.ref cdaUN) "UnknownName.__init__" = true)
    (kUN : PySem.W.keepIn K (.ref UN) = true)
    (lccUN : K.lookup ccUN = some ⟨clccUN, ddccUN, .cell (some (.ref UN)), slccUN⟩)
    (lcdUN : K.lookup cdaUN = some ⟨clcdUN, ddcdUN, .fields vsCUN, slcdUN⟩)
    (hvUN : vsCUN[2]? = some (.str flUN tfUN))
    (hflUN : ((l.prog.main.file : Str) == flUN) = true)
    (mmUN : PySem.W.mroIn K UN (.ref UN) = some true)
    (vUN : PySem.W.subIn K (.ref UN) (.type "ValueError") = some true)
    (sTM_TE : PySem.W.subIn K (.ref TM) (.ref TE) = some true)
    (sBN_TE : PySem.W.subIn K (.ref BN) (.ref TE) = some true)
    (sBF_TE : PySem.W.subIn K (.ref BF) (.ref TE) = some true)
    (sUP_TE : PySem.W.subIn K (.ref UP) (.ref TE) = some true)
    (sDN_TE : PySem.W.subIn K (.ref DN) (.ref TE) = some true)
    (sCF_TE : PySem.W.subIn K (.ref CF) (.ref TE) = some true)
    (sTM_TM : PySem.W.subIn K (.ref TM) (.ref TM) = some true)
    (sBN_TM : PySem.W.subIn K (.ref BN) (.ref TM) = some false)
    (sBN_BN : PySem.W.subIn K (.ref BN) (.ref BN) = some true)
    (sBF_TM : PySem.W.subIn K (.ref BF) (.ref TM) = some false)
    (sBF_BN : PySem.W.subIn K (.ref BF) (.ref BN) = some false)
    (sBF_BF : PySem.W.subIn K (.ref BF) (.ref BF) = some true)
    (sUP_TM : PySem.W.subIn K (.ref UP) (.ref TM) = some false)
    (sUP_BN : PySem.W.subIn K (.ref UP) (.ref BN) = some false)
    (sUP_BF : PySem.W.subIn K (.ref UP) (.ref BF) = some false)
    (sUP_UP : PySem.W.subIn K (.ref UP) (.ref UP) = some true)
    (sDN_TM : PySem.W.subIn K (.ref DN) (.ref TM) = some false)
    (sDN_BN : PySem.W.subIn K (.ref DN) (.ref BN) = some false)
    (sDN_BF : PySem.W.subIn K (.ref DN) (.ref BF) = some false)
    (sDN_UP : PySem.W.subIn K (.ref DN) (.ref UP) = some false)
    (sDN_DN : PySem.W.subIn K (.ref DN) (.ref DN) = some true)
    (sCF_TM : PySem.W.subIn K (.ref CF) (.ref TM) = some false)
    (sCF_BN : PySem.W.subIn K (.ref CF) (.ref BN) = some false)
    (sCF_BF : PySem.W.subIn K (.ref CF) (.ref BF) = some false)
    (sCF_UP : PySem.W.subIn K (.ref CF) (.ref UP) = some false)
    (sCF_DN : PySem.W.subIn K (.ref CF) (.ref DN) = some false)
    (sCF_CF : PySem.W.subIn K (.ref CF) (.ref CF) = some true)
    (sUN_UN : PySem.W.subIn K (.ref UN) (.ref UN) = some true) :
    ∃ fd : FuncData, (∀ (s : Shared) (v : Value), BindsTo s fd ⟨[v], []⟩ [("_law_script", v)]) ∧ ∀ base : Heap, K.In base → base.Ns mainGlobals mg → FnOk l.prog w K mg base CX0 10 fa fd ["_law_script"] (spLaw K) := by
  have e := hfa.symm.trans (PySem.W.mg_of X G aLaw)
  cases e
  have gm : ∀ {n : Str} {v : Value}, PySem.W.nsIn K mainGlobals n = some (some v) → mg n = some v := fun e => PySem.W.mg_of X G e
  have gn : ∀ {n : Str}, PySem.W.nsIn K mainGlobals n = some none → mg n = none := fun e => PySem.W.mg_none_of X G e
  have FDiff := fun_mk (st := sDiff) lDiff cDiff kDiff
  have bDiff := FDiff.binds (ps := ["text", "allowed"]) fun _ _ _ _ _ _ us hl => match us, hl with | [_, _], _ => rfl
  have FBoxB := fun_mk (st := sBoxB) lBoxB cBoxB kBoxB
  have bBoxB := FBoxB.binds (ps := ["_law_script"]) fun _ _ _ _ _ _ us hl => match us, hl with | [_], _ => rfl
  have FDraw := fun_mk (st := sDraw) lDraw cDraw kDraw
  have bDraw := FDraw.binds (ps := ["_law_box_here", "_law_many"]) fun _ _ _ _ _ _ us hl => match us, hl with | [_, _], _ => rfl
  have FLetters := fun_mk (st := sLetters) lLetters cLetters kLetters
  have bLetters := FLetters.binds (ps := ["_law_box_here", "_law_count"]) fun _ _ _ _ _ _ us hl => match us, hl with | [_, _], _ => rfl
  have FWord := fun_mk (st := sWord) lWord cWord kWord
  have bWord := FWord.binds (ps := ["_law_box_here", "_law_signs", "_law_most", "_law_shift"]) fun _ _ _ _ _ _ us hl => match us, hl with | [_, _, _, _], _ => rfl
  have FSucc := fun_mk (st := sSucc) lSucc cSucc kSucc
  have bSucc := FSucc.binds (ps := ["_law_signs", "_law_word_here", "_law_most"]) fun _ _ _ _ _ _ us hl => match us, hl with | [_, _, _], _ => rfl
  have FFresh := fun_mk (st := sFresh) lFresh cFresh kFresh
  have bFresh := FFresh.binds (ps := ["_law_signs", "_law_word_here", "_law_most", "_law_used"]) fun _ _ _ _ _ _ us hl => match us, hl with | [_, _, _, _], _ => rfl
  have FOverL := fun_mk (st := sOverL) lOverL cOverL kOverL
  have bOverL := FOverL.binds (ps := ["_law_place", "_law_other"]) fun _ _ _ _ _ _ us hl => match us, hl with | [_, _], _ => rfl
  have FKin := fun_mk (st := sKin) lKin cKin kKin
  have bKin := FKin.binds (ps := ["_law_box_here", "_law_signs", "_law_words", "_law_most"]) fun _ _ _ _ _ _ us hl => match us, hl with | [_, _, _, _], _ => rfl
  have FRows := fun_mk (st := sRows) lRows cRows kRows
  have bRows := FRows.binds (ps := ["_law_box_here", "_law_signs", "_law_count", "_law_most"]) fun _ _ _ _ _ _ us hl => match us, hl with | [_, _, _, _], _ => rfl
  have FIsWord := fun_mk (st := sIsWord) lIsWord cIsWord kIsWord
  have bIsWord := FIsWord.binds (ps := ["_law_word_here", "_law_signs", "_law_most"]) fun _ _ _ _ _ _ us hl => match us, hl with | [_, _, _], _ => rfl
  have FFault := fun_mk (st := sFault) lFault cFault kFault
  have bFault := FFault.binds (ps := ["_law_signs", "_law_entry_here", "_law_rows_here"]) fun _ _ _ _ _ _ us hl => match us, hl with | [_, _, _], _ => rfl
  have FOdd := fun_mk (st := sOdd) lOdd cOdd kOdd
  have bOdd := FOdd.binds (ps := ["_law_box_here", "_law_word_here", "_law_signs", "_law_most"]) fun _ _ _ _ _ _ us hl => match us, hl with | [_, _, _, _], _ => rfl
  have FBookL := fun_mk (st := sBookL) lBookL cBookL kBookL
  have bBookL := FBookL.binds (ps := ["_law_alphabet", "_law_rows_here"]) fun _ _ _ _ _ _ us hl => match us, hl with | [_, _], _ => rfl
  have FPlus := fun_mk (st := sPlus) lPlus cPlus kPlus
  have bPlus := FPlus.binds (ps := ["_law_book_here", "_law_entry_here"]) fun _ _ _ _ _ _ us hl => match us, hl with | [_, _], _ => rfl
  have FMinus := fun_mk (st := sMinus) lMinus cMinus kMinus
  have bMinus := FMinus.binds (ps := ["_law_book_here", "_law_name"]) fun _ _ _ _ _ _ us hl => match us, hl with | [_, _], _ => rfl
  have FItem := fun_mk (st := sItem) lItem cItem kItem
  have bItem := FItem.binds (ps := ["_law_book_here", "_law_name"]) fun _ _ _ _ _ _ us hl => match us, hl with | [_, _], _ => rfl
  have FAlikeL := fun_mk (st := sAlikeL) lAlikeL cAlikeL kAlikeL
  have bAlikeL := FAlikeL.binds (ps := ["_law_told", "_law_due_here"]) fun _ _ _ _ _ _ us hl => match us, hl with | [_, _], _ => rfl
  have FHolds := fun_mk (st := sHolds) lHolds cHolds kHolds
  have bHolds := FHolds.binds (ps := ["_law_book_here", "_law_rows_here", "_law_words"]) fun _ _ _ _ _ _ us hl => match us, hl with | [_, _, _], _ => rfl
  have FDue := fun_mk (st := sDue) lDue cDue kDue
  have bDue := FDue.binds (ps := ["_law_signs", "_law_rows_here", "_law_entry_here"]) fun _ _ _ _ _ _ us hl => match us, hl with | [_, _, _], _ => rfl
  have FAdded := fun_mk (st := sAdded) lAdded cAdded kAdded
  have bAdded := FAdded.binds (ps := ["_law_kept", "_law_signs", "_law_entry_here"]) fun _ _ _ _ _ _ us hl => match us, hl with | [_, _, _], _ => rfl
  have FRemoved := fun_mk (st := sRemoved) lRemoved cRemoved kRemoved
  have bRemoved := FRemoved.binds (ps := ["_law_kept", "_law_name"]) fun _ _ _ _ _ _ us hl => match us, hl with | [_, _], _ => rfl
  have FEntry := fun_mk (st := sEntry) lEntry cEntry kEntry
  have bEntry := FEntry.binds (ps := ["_law_box_here", "_law_signs", "_law_rows_here", "_law_way"]) fun _ _ _ _ _ _ us hl => match us, hl with | [_, _, _, _], _ => rfl
  have FDeed := fun_mk (st := sDeed) lDeed cDeed kDeed
  have bDeed := FDeed.binds (ps := ["_law_box_here", "_law_signs", "_law_kept", "_law_offered", "_law_way"]) fun _ _ _ _ _ _ us hl => match us, hl with | [_, _, _, _, _], _ => rfl
  have FCheck := fun_mk (st := sCheck) lCheck cCheck kCheck
  have bCheck := FCheck.binds (ps := ["alphabet", "entry", "earlier"]) fun _ _ _ _ _ _ us hl => match us, hl with | [_, _, _], _ => rfl
  have FIsForm := fun_mk (st := sIsForm) lIsForm cIsForm kIsForm
  have bIsForm := FIsForm.binds (ps := ["alphabet", "form"]) fun _ _ _ _ _ _ us hl => match us, hl with | [_, _], _ => rfl
  have FOver := fun_mk (st := sOver) lOver cOver kOver
  have bOver := FOver.binds (ps := ["place", "other"]) fun _ _ _ _ _ _ us hl => match us, hl with | [_, _], _ => rfl
  have FConf := fun_mk (st := sConf) lConf cConf kConf
  have bConf := FConf.binds (ps := ["entry", "other"]) fun _ _ _ _ _ _ us hl => match us, hl with | [_, _], _ => rfl
  have FLaw := fun_mk (st := sLaw) lLaw cLaw kLaw
  have bLaw := FLaw.binds (ps := ["_law_script"]) fun _ _ _ _ _ _ us hl => match us, hl with | [_], _ => rfl
  have FT := fun_mk (st := sIsText) lT cT kT
  have bT := FT.binds (ps := ["self", "text"]) fun _ _ _ _ _ _ us hl => match us, hl with | [_, _], _ => rfl
  have FE := fun_mk (st := sEq) lE cE kE
  have bE := FE.binds (ps := ["self", "other"]) fun _ _ _ _ _ _ us hl => match us, hl with | [_, _], _ => rfl
  have FA : FunD K "__init__" "Alphabet.__init__" (defArgs sAI) (defBody sAI) (defScope sAI) [.str ""] [] fA (PySem.W.fnOf "__init__" "Alphabet.__init__" (defArgs sAI) (defBody sAI) (defScope sAI) (.ref TD) kVA dcA pmA anA cdA ctA) :=
    ⟨⟨_, _, _, _, _, _, _, _, _, _, rfl, lA, cA, .inr ⟨by simp, TD, _, [Value.str "" td], nD, rfl, lD, rfl, .cons ⟨_, rfl⟩ .nil⟩, .inl rfl⟩, kA⟩
  obtain ⟨d0, v0, bA⟩ := FA.binds1 (ps := ["self", "letters", "vowels"]) 3 1 (by simp) rfl fun T kV doc pm an cdv ct us its h1 h2 => match us, its, h1, h2 with | [_, _, _], [_], _, _ => ⟨_, rfl, rfl⟩
  have ed0 : d0 = [] := by
    cases v0
    rfl
  subst ed0
  have FN := fun_mk (st := sNames) lN cN kN
  have bN := FN.binds (ps := ["self"]) fun _ _ _ _ _ _ us hl => match us, hl with | [_], _ => rfl
  have FEn := fun_mk (st := sEntries) lEn cEn kEn
  have bEn := FEn.binds (ps := ["self"]) fun _ _ _ _ _ _ us hl => match us, hl with | [_], _ => rfl
  have FLn := fun_mk (st := sLenB) lLn cLn kLn
  have bLn := FLn.binds (ps := ["self"]) fun _ _ _ _ _ _ us hl => match us, hl with | [_], _ => rfl
  have FEq := fun_mk (st := sBEq) lEq cEq kEq
  have bEq := FEq.binds (ps := ["self", "other"]) fun _ _ _ _ _ _ us hl => match us, hl with | [_, _], _ => rfl
  have FHas := fun_mk (st := sHas) lHas cHas kHas
  have bHas := FHas.binds (ps := ["self", "name"]) fun _ _ _ _ _ _ us hl => match us, hl with | [_, _], _ => rfl
  have FIt0 := fun_mk (st := sItem0) lIt0 cIt0 kIt0
  have bIt0 := FIt0.binds (ps := ["self", "name"]) fun _ _ _ _ _ _ us hl => match us, hl with | [_, _], _ => rfl
  have FAdd := fun_mk (st := sBAdd) lAdd cAdd kAdd
  have bAdd := FAdd.binds (ps := ["self", "entry"]) fun _ _ _ _ _ _ us hl => match us, hl with | [_, _], _ => rfl
  have FSub := fun_mk (st := sBSub) lSub cSub kSub
  have bSub := FSub.binds (ps := ["self", "name"]) fun _ _ _ _ _ _ us hl => match us, hl with | [_, _], _ => rfl
  have OXBA : OexC K BA := ⟨⟨_, _, _, _, _, _, _, _, _, _, _, _, _, _, _, xBA, rfl⟩, saBA, eBA, tBA, kBA⟩
  have supBA : PySem.W.ks_superIn K BA BA "__init__" = some (some (.builtin "ValueError.__init__")) := by
    have hcl : PySem.W.clsIn K BA = some { name := nmBA, bases := bsBA, mro := .ref BA :: [.ref TE, .type "ValueError", .type "Exception", .type "BaseException", .type "object"], ns := NBA, qualname := qBA, hasDict := true, slotNames := snBA, subclasses := subBA, abstract := abBA, collection := colBA, hasDel := false } := by
      unfold PySem.W.clsIn
      rw [xBA] <;> rfl
    unfold PySem.W.ks_superIn
    rw [hcl]
    have e1 : PySem.W.findIn K (.ref TE) "__init__" = PySem.W.alongIn K "__init__" [.ref TE, .type "ValueError", .type "Exception", .type "BaseException", .type "object"] := by
      unfold PySem.W.findIn
      simp only [xTE]
    rw [← iTE, e1]
    show PySem.W.alongIn K "__init__" (((Value.ref BA :: [.ref TE, .type "ValueError", .type "Exception", .type "BaseException", .type "object"]).dropWhile (· != .ref BA)).drop 1) = _
    have hb : (Value.ref BA != .ref BA) = false := by simp
    rw [List.dropWhile_cons, hb]
    rfl
  have SCBA : SupC l.prog K mg BA ccBA cdaBA := ⟨OXBA, ⟨_, _, _, lccBA⟩, ⟨_, _, _, _, _, _, lcdBA, hvBA, hflBA⟩, mmBA, supBA, vBA, noT, gn noM, anyS⟩
  have bBA : Binds K (PySem.W.ksFn "__init__" "BadAlphabet.__init__" (defArgs sBA) (defBody sBA) (defScope sBA) .none kVBA dcBA pmBA anBA (.ref cdaBA) ctBA ccBA) ["self", "part"] [] := Binds.all fun us hl => match us, hl with | [_, _], _ => rfl
  have OXTM : OexC K TM := ⟨⟨_, _, _, _, _, _, _, _, _, _, _, _, _, _, _, xTM, rfl⟩, saTM, eTM, tTM, kTM⟩
  have supTM : PySem.W.ks_superIn K TM TM "__init__" = some (some (.builtin "ValueError.__init__")) := by
    have hcl : PySem.W.clsIn K TM = some { name := nmTM, bases := bsTM, mro := .ref TM :: [.ref TE, .type "ValueError", .type "Exception", .type "BaseException", .type "object"], ns := NTM, qualname := qTM, hasDict := true, slotNames := snTM, subclasses := subTM, abstract := abTM, collection := colTM, hasDel := false } := by
      unfold PySem.W.clsIn
      rw [xTM] <;> rfl
    unfold PySem.W.ks_superIn
    rw [hcl]
    have e1 : PySem.W.findIn K (.ref TE) "__init__" = PySem.W.alongIn K "__init__" [.ref TE, .type "ValueError", .type "Exception", .type "BaseException", .type "object"] := by
      unfold PySem.W.findIn
      simp only [xTE]
    rw [← iTE, e1]
    show PySem.W.alongIn K "__init__" (((Value.ref TM :: [.ref TE, .type "ValueError", .type "Exception", .type "BaseException", .type "object"]).dropWhile (· != .ref TM)).drop 1) = _
    have hb : (Value.ref TM != .ref TM) = false := by simp
    rw [List.dropWhile_cons, hb]
    rfl
  have SCTM : SupC l.prog K mg TM ccTM cdaTM := ⟨OXTM, ⟨_, _, _, lccTM⟩, ⟨_, _, _, _, _, _, lcdTM, hvTM, hflTM⟩, mmTM, supTM, vTM, noT, gn noM, anyS⟩
  have bTM : Binds K (PySem.W.ksFn "__init__" "TooMany.__init__" (defArgs sTooMany) (defBody sTooMany) (defScope sTooMany) .none kVTM dcTM pmTM anTM (.ref cdaTM) ctTM ccTM) ["self", "most"] [] := Binds.all fun us hl => match us, hl with | [_, _], _ => rfl
  have OXBN : OexC K BN := ⟨⟨_, _, _, _, _, _, _, _, _, _, _, _, _, _, _, xBN, rfl⟩, saBN, eBN, tBN, kBN⟩
  have supBN : PySem.W.ks_superIn K BN BN "__init__" = some (some (.builtin "ValueError.__init__")) := by
    have hcl : PySem.W.clsIn K BN = some { name := nmBN, bases := bsBN, mro := .ref BN :: [.ref TE, .type "ValueError", .type "Exception", .type "BaseException", .type "object"], ns := NBN, qualname := qBN, hasDict := true, slotNames := snBN, subclasses := subBN, abstract := abBN, collection := colBN, hasDel := false } := by
      unfold PySem.W.clsIn
      rw [xBN] <;> rfl
    unfold PySem.W.ks_superIn
    rw [hcl]
    have e1 : PySem.W.findIn K (.ref TE) "__init__" = PySem.W.alongIn K "__init__" [.ref TE, .type "ValueError", .type "Exception", .type "BaseException", .type "object"] := by
      unfold PySem.W.findIn
      simp only [xTE]
    rw [← iTE, e1]
    show PySem.W.alongIn K "__init__" (((Value.ref BN :: [.ref TE, .type "ValueError", .type "Exception", .type "BaseException", .type "object"]).dropWhile (· != .ref BN)).drop 1) = _
    have hb : (Value.ref BN != .ref BN) = false := by simp
    rw [List.dropWhile_cons, hb]
    rfl
  have SCBN : SupC l.prog K mg BN ccBN cdaBN := ⟨OXBN, ⟨_, _, _, lccBN⟩, ⟨_, _, _, _, _, _, lcdBN, hvBN, hflBN⟩, mmBN, supBN, vBN, noT, gn noM, anyS⟩
  have bBN : Binds K (PySem.W.ksFn "__init__" "BadName.__init__" (defArgs sBadName) (defBody sBadName) (defScope sBadName) .none kVBN dcBN pmBN anBN (.ref cdaBN) ctBN ccBN) ["self", "name"] [] := Binds.all fun us hl => match us, hl with | [_, _], _ => rfl
  have OXBF : OexC K BF := ⟨⟨_, _, _, _, _, _, _, _, _, _, _, _, _, _, _, xBF, rfl⟩, saBF, eBF, tBF, kBF⟩
  have supBF : PySem.W.ks_superIn K BF BF "__init__" = some (some (.builtin "ValueError.__init__")) := by
    have hcl : PySem.W.clsIn K BF = some { name := nmBF, bases := bsBF, mro := .ref BF :: [.ref TE, .type "ValueError", .type "Exception", .type "BaseException", .type "object"], ns := NBF, qualname := qBF, hasDict := true, slotNames := snBF, subclasses := subBF, abstract := abBF, collection := colBF, hasDel := false } := by
      unfold PySem.W.clsIn
      rw [xBF] <;> rfl
    unfold PySem.W.ks_superIn
    rw [hcl]
    have e1 : PySem.W.findIn K (.ref TE) "__init__" = PySem.W.alongIn K "__init__" [.ref TE, .type "ValueError", .type "Exception", .type "BaseException", .type "object"] := by
      unfold PySem.W.findIn
      simp only [xTE]
    rw [← iTE, e1]
    show PySem.W.alongIn K "__init__" (((Value.ref BF :: [.ref TE, .type "ValueError", .type "Exception", .type "BaseException", .type "object"]).dropWhile (· != .ref BF)).drop 1) = _
    have hb : (Value.ref BF != .ref BF) = false := by simp
    rw [List.dropWhile_cons, hb]
    rfl
  have SCBF : SupC l.prog K mg BF ccBF cdaBF := ⟨OXBF, ⟨_, _, _, lccBF⟩, ⟨_, _, _, _, _, _, lcdBF, hvBF, hflBF⟩, mmBF, supBF, vBF, noT, gn noM, anyS⟩
  have bBF : Binds K (PySem.W.ksFn "__init__" "BadForm.__init__" (defArgs sBadForm) (defBody sBadForm) (defScope sBadForm) .none kVBF dcBF pmBF anBF (.ref cdaBF) ctBF ccBF) ["self", "form"] [] := Binds.all fun us hl => match us, hl with | [_, _], _ => rfl
  have OXUP : OexC K UP := ⟨⟨_, _, _, _, _, _, _, _, _, _, _, _, _, _, _, xUP, rfl⟩, saUP, eUP, tUP, kUP⟩
  have supUP : PySem.W.ks_superIn K UP UP "__init__" = some (some (.builtin "ValueError.__init__")) := by
    have hcl : PySem.W.clsIn K UP = some { name := nmUP, bases := bsUP, mro := .ref UP :: [.ref TE, .type "ValueError", .type "Exception", .type "BaseException", .type "object"], ns := NUP, qualname := qUP, hasDict := true, slotNames := snUP, subclasses := subUP, abstract := abUP, collection := colUP, hasDel := false } := by
      unfold PySem.W.clsIn
      rw [xUP] <;> rfl
    unfold PySem.W.ks_superIn
    rw [hcl]
    have e1 : PySem.W.findIn K (.ref TE) "__init__" = PySem.W.alongIn K "__init__" [.ref TE, .type "ValueError", .type "Exception", .type "BaseException", .type "object"] := by
      unfold PySem.W.findIn
      simp only [xTE]
    rw [← iTE, e1]
    show PySem.W.alongIn K "__init__" (((Value.ref UP :: [.ref TE, .type "ValueError", .type "Exception", .type "BaseException", .type "object"]).dropWhile (· != .ref UP)).drop 1) = _
    have hb : (Value.ref UP != .ref UP) = false := by simp
    rw [List.dropWhile_cons, hb]
    rfl
  have SCUP : SupC l.prog K mg UP ccUP cdaUP := ⟨OXUP, ⟨_, _, _, lccUP⟩, ⟨_, _, _, _, _, _, lcdUP, hvUP, hflUP⟩, mmUP, supUP, vUP, noT, gn noM, anyS⟩
  have bUP : Binds K (PySem.W.ksFn "__init__" "UnknownPlace.__init__" (defArgs sUnknownPlace) (defBody sUnknownPlace) (defScope sUnknownPlace) .none kVUP dcUP pmUP anUP (.ref cdaUP) ctUP ccUP) ["self", "place"] [] := Binds.all fun us hl => match us, hl with | [_, _], _ => rfl
  have OXDN : OexC K DN := ⟨⟨_, _, _, _, _, _, _, _, _, _, _, _, _, _, _, xDN, rfl⟩, saDN, eDN, tDN, kDN⟩
  have supDN : PySem.W.ks_superIn K DN DN "__init__" = some (some (.builtin "ValueError.__init__")) := by
    have hcl : PySem.W.clsIn K DN = some { name := nmDN, bases := bsDN, mro := .ref DN :: [.ref TE, .type "ValueError", .type "Exception", .type "BaseException", .type "object"], ns := NDN, qualname := qDN, hasDict := true, slotNames := snDN, subclasses := subDN, abstract := abDN, collection := colDN, hasDel := false } := by
      unfold PySem.W.clsIn
      rw [xDN] <;> rfl
    unfold PySem.W.ks_superIn
    rw [hcl]
    have e1 : PySem.W.findIn K (.ref TE) "__init__" = PySem.W.alongIn K "__init__" [.ref TE, .type "ValueError", .type "Exception", .type "BaseException", .type "object"] := by
      unfold PySem.W.findIn
      simp only [xTE]
    rw [← iTE, e1]
    show PySem.W.alongIn K "__init__" (((Value.ref DN :: [.ref TE, .type "ValueError", .type "Exception", .type "BaseException", .type "object"]).dropWhile (· != .ref DN)).drop 1) = _
    have hb : (Value.ref DN != .ref DN) = false := by simp
    rw [List.dropWhile_cons, hb]
    rfl
  have SCDN : SupC l.prog K mg DN ccDN cdaDN := ⟨OXDN, ⟨_, _, _, lccDN⟩, ⟨_, _, _, _, _, _, lcdDN, hvDN, hflDN⟩, mmDN, supDN, vDN, noT, gn noM, anyS⟩
  have bDN : Binds K (PySem.W.ksFn "__init__" "DuplicateName.__init__" (defArgs sDuplicateName) (defBody sDuplicateName) (defScope sDuplicateName) .none kVDN dcDN pmDN anDN (.ref cdaDN) ctDN ccDN) ["self", "name"] [] := Binds.all fun us hl => match us, hl with | [_, _], _ => rfl
  have OXCF : OexC K CF := ⟨⟨_, _, _, _, _, _, _, _, _, _, _, _, _, _, _, xCF, rfl⟩, saCF, eCF, tCF, kCF⟩
  have supCF : PySem.W.ks_superIn K CF CF "__init__" = some (some (.builtin "ValueError.__init__")) := by
    have hcl : PySem.W.clsIn K CF = some { name := nmCF, bases := bsCF, mro := .ref CF :: [.ref TE, .type "ValueError", .type "Exception", .type "BaseException", .type "object"], ns := NCF, qualname := qCF, hasDict := true, slotNames := snCF, subclasses := subCF, abstract := abCF, collection := colCF, hasDel := false } := by
      unfold PySem.W.clsIn
      rw [xCF] <;> rfl
    unfold PySem.W.ks_superIn
    rw [hcl]
    have e1 : PySem.W.findIn K (.ref TE) "__init__" = PySem.W.alongIn K "__init__" [.ref TE, .type "ValueError", .type "Exception", .type "BaseException", .type "object"] := by
      unfold PySem.W.findIn
      simp only [xTE]
    rw [← iTE, e1]
    show PySem.W.alongIn K "__init__" (((Value.ref CF :: [.ref TE, .type "ValueError", .type "Exception", .type "BaseException", .type "object"]).dropWhile (· != .ref CF)).drop 1) = _
    have hb : (Value.ref CF != .ref CF) = false := by simp
    rw [List.dropWhile_cons, hb]
    rfl
  have SCCF : SupC l.prog K mg CF ccCF cdaCF := ⟨OXCF, ⟨_, _, _, lccCF⟩, ⟨_, _, _, _, _, _, lcdCF, hvCF, hflCF⟩, mmCF, supCF, vCF, noT, gn noM, anyS⟩
  have bCF : Binds K (PySem.W.ksFn "__init__" "Conflict.__init__" (defArgs sConflict) (defBody sConflict) (defScope sConflict) .none kVCF dcCF pmCF anCF (.ref cdaCF) ctCF ccCF) ["self", "name", "other"] [] := Binds.all fun us hl => match us, hl with | [_, _, _], _ => rfl
  have OXUN : OexC K UN := ⟨⟨_, _, _, _, _, _, _, _, _, _, _, _, _, _, _, xUN, rfl⟩, saUN, eUN, tUN, kUN⟩
  have supUN : PySem.W.ks_superIn K UN UN "__init__" = some (some (.builtin "ValueError.__init__")) := by
    have hcl : PySem.W.clsIn K UN = some { name := nmUN, bases := bsUN, mro := .ref UN :: [.ref TE, .type "ValueError", .type "Exception", .type "BaseException", .type "object"], ns := NUN, qualname := qUN, hasDict := true, slotNames := snUN, subclasses := subUN, abstract := abUN, collection := colUN, hasDel := false } := by
      unfold PySem.W.clsIn
      rw [xUN] <;> rfl
    unfold PySem.W.ks_superIn
    rw [hcl]
    have e1 : PySem.W.findIn K (.ref TE) "__init__" = PySem.W.alongIn K "__init__" [.ref TE, .type "ValueError", .type "Exception", .type "BaseException", .type "object"] := by
      unfold PySem.W.findIn
      simp only [xTE]
    rw [← iTE, e1]
    show PySem.W.alongIn K "__init__" (((Value.ref UN :: [.ref TE, .type "ValueError", .type "Exception", .type "BaseException", .type "object"]).dropWhile (· != .ref UN)).drop 1) = _
    have hb : (Value.ref UN != .ref UN) = false := by simp
    rw [List.dropWhile_cons, hb]
    rfl
  have SCUN : SupC l.prog K mg UN ccUN cdaUN := ⟨OXUN, ⟨_, _, _, lccUN⟩, ⟨_, _, _, _, _, _, lcdUN, hvUN, hflUN⟩, mmUN, supUN, vUN, noT, gn noM, anyS⟩
  have bUN : Binds K (PySem.W.ksFn "__init__" "UnknownName.__init__" (defArgs sUnknownName) (defBody sUnknownName) (defScope sUnknownName) .none kVUN dcUN pmUN anUN (.ref cdaUN) ctUN ccUN) ["self", "name"] [] := Binds.all fun us hl => match us, hl with | [_, _], _ => rfl
  have T : Fns K mg ⟨fDiff, fBoxB, fDraw, fLetters, fWord, fSucc, fFresh, fOverL, fKin, fRows, fIsWord, fFault, fOdd, fBookL, fPlus, fMinus, fItem, fAlikeL, fHolds, fDue, fAdded, fRemoved, fEntry, fDeed, fCheck, fIsForm, fOver, fConf, fa, CB, C⟩ ⟨_, _, _, _, _, _, _, _, _, _, _, _, _, _, _, _, _, _, _, _, _, _, _, _, _, _, _, _, _⟩ :=
    { z_len := gn z_len, z_set := gn z_set, z_all := gn z_all, z_abs := gn z_abs, z_int := gn z_int, z_range := gn z_range, z_sorted := gn z_sorted, z_isinstance := gn z_isinstance, z_str := gn z_str, z_bool := gn z_bool, z_list := gn z_list, z_tuple := gn z_tuple, z_any := gn z_any, z_enum := gn z_enumerate, z_min := gn z_min, z_VE := gn z_ValueError,
      gDiff := gm aDiff, FDiff := FDiff, bDiff := bDiff, gBoxB := gm aBoxB, FBoxB := FBoxB, bBoxB := bBoxB, gDraw := gm aDraw, FDraw := FDraw, bDraw := bDraw, gLetters := gm aLetters, FLetters := FLetters, bLetters := bLetters, gWord := gm aWord, FWord := FWord, bWord := bWord, gSucc := gm aSucc, FSucc := FSucc, bSucc := bSucc, gFresh := gm aFresh, FFresh := FFresh, bFresh := bFresh, gOverL := gm aOverL, FOverL := FOverL, bOverL := bOverL, gKin := gm aKin, FKin := FKin, bKin := bKin, gRows := gm aRows, FRows := FRows, bRows := bRows, gIsWord := gm aIsWord, FIsWord := FIsWord, bIsWord := bIsWord, gFault := gm aFault, FFault := FFault, bFault := bFault, gOdd := gm aOdd, FOdd := FOdd, bOdd := bOdd, gBookL := gm aBookL, FBookL := FBookL, bBookL := bBookL, gPlus := gm aPlus, FPlus := FPlus, bPlus := bPlus, gMinus := gm aMinus, FMinus := FMinus, bMinus := bMinus, gItem := gm aItem, FItem := FItem, bItem := bItem, gAlikeL := gm aAlikeL, FAlikeL := FAlikeL, bAlikeL := bAlikeL, gHolds := gm aHolds, FHolds := FHolds, bHolds := bHolds, gDue := gm aDue, FDue := FDue, bDue := bDue, gAdded := gm aAdded, FAdded := FAdded, bAdded := bAdded, gRemoved := gm aRemoved, FRemoved := FRemoved, bRemoved := bRemoved, gEntry := gm aEntry, FEntry := FEntry, bEntry := bEntry, gDeed := gm aDeed, FDeed := FDeed, bDeed := bDeed, gCheck := gm aCheck, FCheck := FCheck, bCheck := bCheck, gIsForm := gm aIsForm, FIsForm := FIsForm, bIsForm := bIsForm, gOver := gm aOver, FOver := FOver, bOver := bOver, gConf := gm aConf, FConf := FConf, bConf := bConf, gLaw := gm aLaw, FLaw := FLaw, bLaw := bLaw }
  have A : AlF K C := ⟨⟨pgC, hdC, poC, saC⟩, nC_letters, nC_vowels, nC_consonants, nC_signs, icC, ig, it, imC⟩
  have AV : AlV K mg C (.type "type") tM tJ tl := ⟨gm aC, by rw [← az_S]; exact gm aSL, ⟨rdC, gaC⟩, ⟨vM, ⟨_, rfl⟩⟩, ⟨vJ, ⟨_, rfl⟩⟩⟩
  have BV : BkV K mg CB (.type "type") tMB := ⟨gm aCB, ⟨rdCB, gaCB⟩, ⟨vMB, ⟨_, rfl⟩⟩, ⟨pgCB, hdCB, poCB, saCB⟩, nCB_alphabet, nCB_entries⟩
  have BA' : BaF l.prog K mg BA fBA := ⟨OXBA, aFBA, tFBA, gm aBA⟩
  have ETM := EF.mk (N := "TooMany") OXTM aFTM tFTM (gm aTM) bTM
  have EBN := EF.mk (N := "BadName") OXBN aFBN tFBN (gm aBN) bBN
  have EBF := EF.mk (N := "BadForm") OXBF aFBF tFBF (gm aBF) bBF
  have EUP := EF.mk (N := "UnknownPlace") OXUP aFUP tFUP (gm aUP) bUP
  have EDN := EF.mk (N := "DuplicateName") OXDN aFDN tFDN (gm aDN) bDN
  have ECF := EF.mk (N := "Conflict") OXCF aFCF tFCF (gm aCF) bCF
  have EUN := EF.mk (N := "UnknownName") OXUN aFUN tFUN (gm aUN) bUN
  have kI : ∀ t : List Nat, ∃ r, PySem.W.nsIn K KI (S t) = some r ∧ r.isSome = decide (t ∈ kindsL) := fun t => kinds_ns lKI t
  have kd : KDict K w KI _ nKI := ⟨lKI, ⟨⟨_, _, rfl, q1⟩, ⟨_, _, rfl, q2⟩, ⟨_, _, rfl, q3⟩, trivial⟩, low⟩
  have Wk : Bk K mg w ⟨TM, fTM, (PySem.W.ksFn "__init__" "TooMany.__init__" (defArgs sTooMany) (defBody sTooMany) (defScope sTooMany) .none kVTM dcTM pmTM anTM (.ref cdaTM) ctTM ccTM), BN, fBN, (PySem.W.ksFn "__init__" "BadName.__init__" (defArgs sBadName) (defBody sBadName) (defScope sBadName) .none kVBN dcBN pmBN anBN (.ref cdaBN) ctBN ccBN), BF, fBF, (PySem.W.ksFn "__init__" "BadForm.__init__" (defArgs sBadForm) (defBody sBadForm) (defScope sBadForm) .none kVBF dcBF pmBF anBF (.ref cdaBF) ctBF ccBF), UP, fUP, (PySem.W.ksFn "__init__" "UnknownPlace.__init__" (defArgs sUnknownPlace) (defBody sUnknownPlace) (defScope sUnknownPlace) .none kVUP dcUP pmUP anUP (.ref cdaUP) ctUP ccUP), DN, fDN, (PySem.W.ksFn "__init__" "DuplicateName.__init__" (defArgs sDuplicateName) (defBody sDuplicateName) (defScope sDuplicateName) .none kVDN dcDN pmDN anDN (.ref cdaDN) ctDN ccDN), CF, fCF, (PySem.W.ksFn "__init__" "Conflict.__init__" (defArgs sConflict) (defBody sConflict) (defScope sConflict) .none kVCF dcCF pmCF anCF (.ref cdaCF) ctCF ccCF), KI, #[⟨h1, .str "any" ta, u1⟩, ⟨h2, .str "opening" to, u2⟩, ⟨h3, .str "inner" ti, u3⟩], nKI, t6, t8⟩ := ⟨ETM, EBN, EBF, EUP, EDN, ECF, gm a6, gm a8, gm aKI, kd, kI⟩
  have GS : ∀ base : Heap, Gs l.prog w K mg base ⟨TM, fTM, (PySem.W.ksFn "__init__" "TooMany.__init__" (defArgs sTooMany) (defBody sTooMany) (defScope sTooMany) .none kVTM dcTM pmTM anTM (.ref cdaTM) ctTM ccTM), BN, fBN, (PySem.W.ksFn "__init__" "BadName.__init__" (defArgs sBadName) (defBody sBadName) (defScope sBadName) .none kVBN dcBN pmBN anBN (.ref cdaBN) ctBN ccBN), BF, fBF, (PySem.W.ksFn "__init__" "BadForm.__init__" (defArgs sBadForm) (defBody sBadForm) (defScope sBadForm) .none kVBF dcBF pmBF anBF (.ref cdaBF) ctBF ccBF), UP, fUP, (PySem.W.ksFn "__init__" "UnknownPlace.__init__" (defArgs sUnknownPlace) (defBody sUnknownPlace) (defScope sUnknownPlace) .none kVUP dcUP pmUP anUP (.ref cdaUP) ctUP ccUP), DN, fDN, (PySem.W.ksFn "__init__" "DuplicateName.__init__" (defArgs sDuplicateName) (defBody sDuplicateName) (defScope sDuplicateName) .none kVDN dcDN pmDN anDN (.ref cdaDN) ctDN ccDN), CF, fCF, (PySem.W.ksFn "__init__" "Conflict.__init__" (defArgs sConflict) (defBody sConflict) (defScope sConflict) .none kVCF dcCF pmCF anCF (.ref cdaCF) ctCF ccCF), KI, #[⟨h1, .str "any" ta, u1⟩, ⟨h2, .str "opening" to, u2⟩, ⟨h3, .str "inner" ti, u3⟩], nKI, t6, t8⟩ := fun base =>
    ⟨ok_eTooMany SCTM nTM_most lTM cTM, ok_eBadName SCBN nBN_name lBN cBN, ok_eBadForm SCBF nBF_form lBF cBF, ok_eUnknownPlace SCUP nUP_place lUP cUP, ok_eDuplicateName SCDN nDN_name lDN cDN, ok_eConflict SCCF nCF_name nCF_other lCF cCF⟩
  have Xf : XfF K mg ⟨TM, fTM, (PySem.W.ksFn "__init__" "TooMany.__init__" (defArgs sTooMany) (defBody sTooMany) (defScope sTooMany) .none kVTM dcTM pmTM anTM (.ref cdaTM) ctTM ccTM), BN, fBN, (PySem.W.ksFn "__init__" "BadName.__init__" (defArgs sBadName) (defBody sBadName) (defScope sBadName) .none kVBN dcBN pmBN anBN (.ref cdaBN) ctBN ccBN), BF, fBF, (PySem.W.ksFn "__init__" "BadForm.__init__" (defArgs sBadForm) (defBody sBadForm) (defScope sBadForm) .none kVBF dcBF pmBF anBF (.ref cdaBF) ctBF ccBF), UP, fUP, (PySem.W.ksFn "__init__" "UnknownPlace.__init__" (defArgs sUnknownPlace) (defBody sUnknownPlace) (defScope sUnknownPlace) .none kVUP dcUP pmUP anUP (.ref cdaUP) ctUP ccUP), DN, fDN, (PySem.W.ksFn "__init__" "DuplicateName.__init__" (defArgs sDuplicateName) (defBody sDuplicateName) (defScope sDuplicateName) .none kVDN dcDN pmDN anDN (.ref cdaDN) ctDN ccDN), CF, fCF, (PySem.W.ksFn "__init__" "Conflict.__init__" (defArgs sConflict) (defBody sConflict) (defScope sConflict) .none kVCF dcCF pmCF anCF (.ref cdaCF) ctCF ccCF), KI, #[⟨h1, .str "any" ta, u1⟩, ⟨h2, .str "opening" to, u2⟩, ⟨h3, .str "inner" ti, u3⟩], nKI, t6, t8⟩ := { xTM := ⟨gaTM, ggTM, eTM, hTM⟩, nTM_most := nTM_most, eTM_TM := PySem.W.exm_ref eTM hTM tTM sTM_TM, xBN := ⟨gaBN, ggBN, eBN, hBN⟩, nBN_name := nBN_name, eBN_TM := PySem.W.exm_ref eTM hTM tTM sBN_TM, eBN_BN := PySem.W.exm_ref eBN hBN tBN sBN_BN, xBF := ⟨gaBF, ggBF, eBF, hBF⟩, nBF_form := nBF_form, eBF_TM := PySem.W.exm_ref eTM hTM tTM sBF_TM, eBF_BN := PySem.W.exm_ref eBN hBN tBN sBF_BN, eBF_BF := PySem.W.exm_ref eBF hBF tBF sBF_BF, xUP := ⟨gaUP, ggUP, eUP, hUP⟩, nUP_place := nUP_place, eUP_TM := PySem.W.exm_ref eTM hTM tTM sUP_TM, eUP_BN := PySem.W.exm_ref eBN hBN tBN sUP_BN, eUP_BF := PySem.W.exm_ref eBF hBF tBF sUP_BF, eUP_UP := PySem.W.exm_ref eUP hUP tUP sUP_UP, xDN := ⟨gaDN, ggDN, eDN, hDN⟩, nDN_name := nDN_name, eDN_TM := PySem.W.exm_ref eTM hTM tTM sDN_TM, eDN_BN := PySem.W.exm_ref eBN hBN tBN sDN_BN, eDN_BF := PySem.W.exm_ref eBF hBF tBF sDN_BF, eDN_UP := PySem.W.exm_ref eUP hUP tUP sDN_UP, eDN_DN := PySem.W.exm_ref eDN hDN tDN sDN_DN, xCF := ⟨gaCF, ggCF, eCF, hCF⟩, nCF_name := nCF_name, nCF_other := nCF_other, eCF_TM := PySem.W.exm_ref eTM hTM tTM sCF_TM, eCF_BN := PySem.W.exm_ref eBN hBN tBN sCF_BN, eCF_BF := PySem.W.exm_ref eBF hBF tBF sCF_BF, eCF_UP := PySem.W.exm_ref eUP hUP tUP sCF_UP, eCF_DN := PySem.W.exm_ref eDN hDN tDN sCF_DN, eCF_CF := PySem.W.exm_ref eCF hCF tCF sCF_CF }
  have dA1 : PySem.dunder (Operator.Add).info.2 = "__add__" := by decide +kernel
  have dA2 : dunderR (Operator.Add).info.2 = "__radd__" := by decide +kernel
  have dS1 : PySem.dunder (Operator.Sub).info.2 = "__sub__" := by decide +kernel
  have dS2 : dunderR (Operator.Sub).info.2 = "__rsub__" := by decide +kernel
  have BA1 : BinF K CB fAdd .Add "str" := ⟨sfB, by rw [dA1]; exact aAdd, iAdd, by rw [dA2]; exact rAdd, by rw [dA1]; exact ⟨_, tA1⟩, by rw [dA2]; exact ⟨_, tA2⟩, ssB⟩
  have BA2 : BinF K CB fAdd .Add "tuple" := ⟨sfB, by rw [dA1]; exact aAdd, iAdd, by rw [dA2]; exact rAdd, by rw [dA1]; exact ⟨_, tA3⟩, by rw [dA2]; exact ⟨_, tA4⟩, stB⟩
  have BS1 : BinF K CB fSub .Sub "str" := ⟨sfB, by rw [dS1]; exact aSub, iSub, by rw [dS2]; exact rSub, by rw [dS1]; exact ⟨_, tS1⟩, by rw [dS2]; exact ⟨_, tS2⟩, ssB⟩
  have BS2 : BinF K CB fSub .Sub "tuple" := ⟨sfB, by rw [dS1]; exact aSub, iSub, by rw [dS2]; exact rSub, by rw [dS1]; exact ⟨_, tS3⟩, by rw [dS2]; exact ⟨_, tS4⟩, stB⟩
  have XU : XfU K UN := ⟨⟨gaUN, ggUN, eUN, hUN⟩, nUN_name, PySem.W.exm_ref eUN hUN tUN sUN_UN⟩
  have BI' : BkI K CB := ⟨icCB, ig, it, imCB⟩
  refine ⟨PySem.W.fnOf "law" "law" (defArgs sLaw) (defBody sLaw) (defScope sLaw) .none kVLaw dcLaw pmLaw anLaw cdLaw ctLaw, fun s v => .of_eq rfl, fun base _ _ => ?_⟩
  have GT := ok_isText (P := l.prog) (w := w) (base := base) FT T A
  have GQ := ok_eq (P := l.prog) (w := w) (base := base) FE T.tx A (gm aC)
  have GA := ok_alph (P := l.prog) (w := w) (base := base) FA T.tx A AV BA' FDiff bDiff (ok_ba SCBA nBA_part lBA cBA) bBA
  have GBI := ok_bookInit lBI cBI T A Wk (GS base) BV ⟨aT, iT, kT⟩ GT bT
  have MB := (⟨mkCB, aBI, iBI, kCB⟩ : Mk K CB fBI)
  have GBookL := ok_bookL T BV MB GBI
  have GN := ok_names (P := l.prog) (w := w) (base := base) FN T BV
  have GEn := ok_entries (P := l.prog) (w := w) (base := base) FEn T BV
  have GLn := ok_lenB (P := l.prog) (w := w) (base := base) FLn T BV
  have GHas := ok_has (P := l.prog) (w := w) (base := base) FHas T BV
  have GUN := ok_eUnknownName (P := l.prog) (w := w) (base := base) SCUN nUN_name lUN cUN
  have GIt0 := ok_item0 FIt0 T BV EUN GUN
  have mE := (⟨aEn, iEn, kEn⟩ : Meth K CB "entries" fEn)
  have GAdd := ok_bAdd FAdd T BV MB GBI mE GEn bEn
  have GSub := ok_bSub FSub T BV MB GBI mE GEn bEn EUN GUN
  have GBq := ok_bEq FEq T BV BI' mE GEn bEn aE iE GQ bE nE
  have GPlus := ok_plus T Wk Xf BA1 BA2 GAdd bAdd
  have GMinus := ok_minus T EUN XU BS1 BS2 GSub bSub
  have GItem := ok_itemL T EUN XU aIt0 fnIt0 iIt0 GIt0 bIt0
  have GHolds := ok_holds T BV ⟨aN, iN, kN⟩ GN bN mE GEn bEn aLn iLn GLn bLn aHas iHas GHas bHas GItem
  have GDeed := ok_deed T GPlus GMinus
  exact ok_law T AV ⟨mkC, aA, iA, kC⟩ BV GA bA (ok_boxB T.FBoxB T.tx) GBookL GDeed GHolds aEq iEq GBq bEq nB
theorem walk {l : PySem.W.OpenLaw} {q : Program} {loose : List Str} {XP : (Str → Option Value) → Heap → Prop} {YP : World → Heap → Prop} {d : DefRec} {K : Params → PySem.W.Frag} (hn : l.most = some 63) (hdf : d.params.defaults = [])
    (hY : ∀ (w : World) (h : Heap), YP w h → (K w.params).In h)
    (F : ∀ (w : World) (mg : Str → Option Value) (fa : Addr) (h : Heap), (K w.params).In h → h.Ns mainGlobals mg → mg d.name = some (.ref fa) →
      ∃ fd : FuncData, (∀ (s : Shared) (u : Value), BindsTo s fd ⟨[u], []⟩ [("_law_script", u)]) ∧ ∀ base : Heap, (K w.params).In base → base.Ns mainGlobals mg → FnOk l.prog w (K w.params) mg base CX0 10 fa fd ["_law_script"] (spLaw (K w.params))) :
    PySem.W.WalkO q loose XP YP l.row.toRowW d [] (fun f vs => PySem.call f vs) :=
  L2.walk_of (n := 63) (k := 10) (x := "_law_script") (CX := fun _ => CX0) (sp := fun w => spLaw (K w.params)) hn (by decide) hdf ⟨rfl, by decide, by decide⟩ hY F (fun _ _ a ns hl _ hS => ⟨a, ns, rfl, hS, hl, fun _ => rfl⟩) fun _ _ _ _ _ z => z
end
end Vk
set_option Elab.async false
open PySem PySem.W PyProof.Rows
set_option maxRecDepth 100000 in
set_option maxHeartbeats 0 in
theorem PySem.Challenge.cw_talepost_k29_books_changed_holds : PySem.Challenge.rw_talepost_k29_books_changed.Holds := by
  w_on; o_law; k_head; (case hw => w_witness2)
  k_fill
  refine Vk.walk (l := PySem.Challenge.rw_talepost_k29_books_changed) rfl rfl (fun w h Y => PySem.W.kIn_of Y) ?F
  case F =>
    intro w mg fa h KX G hmg
    refine' Vk.all_mk KX G hmg ?lDiff ?cDiff ?aDiff ?kDiff ?lBoxB ?cBoxB ?aBoxB ?kBoxB ?lDraw ?cDraw ?aDraw ?kDraw ?lLetters ?cLetters ?aLetters ?kLetters ?lWord ?cWord ?aWord ?kWord ?lSucc ?cSucc ?aSucc ?kSucc ?lFresh ?cFresh ?aFresh ?kFresh ?lOverL ?cOverL ?aOverL ?kOverL ?lKin ?cKin ?aKin ?kKin ?lRows ?cRows ?aRows ?kRows ?lIsWord ?cIsWord ?aIsWord ?kIsWord ?lFault ?cFault ?aFault ?kFault ?lOdd ?cOdd ?aOdd ?kOdd ?lBookL ?cBookL ?aBookL ?kBookL ?lPlus ?cPlus ?aPlus ?kPlus ?lMinus ?cMinus ?aMinus ?kMinus ?lItem ?cItem ?aItem ?kItem ?lAlikeL ?cAlikeL ?aAlikeL ?kAlikeL ?lHolds ?cHolds ?aHolds ?kHolds ?lDue ?cDue ?aDue ?kDue ?lAdded ?cAdded ?aAdded ?kAdded ?lRemoved ?cRemoved ?aRemoved ?kRemoved ?lEntry ?cEntry ?aEntry ?kEntry ?lDeed ?cDeed ?aDeed ?kDeed ?lCheck ?cCheck ?aCheck ?kCheck ?lIsForm ?cIsForm ?aIsForm ?kIsForm ?lOver ?cOver ?aOver ?kOver ?lConf ?cConf ?aConf ?kConf ?lLaw ?cLaw ?aLaw ?kLaw ?z_len ?z_set ?z_all ?z_abs ?z_int ?z_range ?z_sorted ?z_isinstance ?z_str ?z_bool ?z_list ?z_tuple ?z_any ?z_enumerate ?z_min ?z_ValueError ?aC ?pgC ?hdC ?poC ?saC ?mkC ?kC ?nC_letters ?nC_vowels ?nC_consonants ?nC_signs ?ig ?it ?icC ?imC ?rdC ?gaC ?vM ?vJ ?aSL ?lT ?cT ?aT ?kT ?iT ?lE ?cE ?aE ?kE ?iE ?nE ?lA ?cA ?aA ?lD ?kA ?iA ?aCB ?pgCB ?hdCB ?poCB ?saCB ?mkCB ?kCB ?rdCB ?gaCB ?vMB ?nCB_alphabet ?nCB_entries ?lBI ?cBI ?aBI ?kBI ?iBI ?lN ?cN ?aN ?kN ?iN ?lEn ?cEn ?aEn ?kEn ?iEn ?lLn ?cLn ?aLn ?kLn ?iLn ?a6 ?a8 ?nB ?icCB ?imCB ?sfB ?lEq ?cEq ?aEq ?kEq ?iEq ?lHas ?cHas ?aHas ?kHas ?iHas ?lIt0 ?cIt0 ?aIt0 ?kIt0 ?iIt0 ?fnIt0 ?lAdd ?cAdd ?aAdd ?kAdd ?iAdd ?lSub ?cSub ?aSub ?kSub ?iSub ?rAdd ?rSub ?tA1 ?tA2 ?tA3 ?tA4 ?tS1 ?tS2 ?tS3 ?tS4 ?ssB ?stB ?aKI ?lKI ?q1 ?q2 ?q3 ?low ?xTE ?aTE ?eTE ?tTE ?hTE ?iTE ?noT ?noM ?anyS ?xBA ?aBA ?eBA ?tBA ?hBA ?nBA_part ?saBA ?gaBA ?ggBA ?aFBA ?tFBA ?lBA ?cBA ?kBA ?lccBA ?lcdBA ?hvBA ?hflBA ?mmBA ?vBA ?xTM ?aTM ?eTM ?tTM ?hTM ?nTM_most ?saTM ?gaTM ?ggTM ?aFTM ?tFTM ?lTM ?cTM ?kTM ?lccTM ?lcdTM ?hvTM ?hflTM ?mmTM ?vTM ?xBN ?aBN ?eBN ?tBN ?hBN ?nBN_name ?saBN ?gaBN ?ggBN ?aFBN ?tFBN ?lBN ?cBN ?kBN ?lccBN ?lcdBN ?hvBN ?hflBN ?mmBN ?vBN ?xBF ?aBF ?eBF ?tBF ?hBF ?nBF_form ?saBF ?gaBF ?ggBF ?aFBF ?tFBF ?lBF ?cBF ?kBF ?lccBF ?lcdBF ?hvBF ?hflBF ?mmBF ?vBF ?xUP ?aUP ?eUP ?tUP ?hUP ?nUP_place ?saUP ?gaUP ?ggUP ?aFUP ?tFUP ?lUP ?cUP ?kUP ?lccUP ?lcdUP ?hvUP ?hflUP ?mmUP ?vUP ?xDN ?aDN ?eDN ?tDN ?hDN ?nDN_name ?saDN ?gaDN ?ggDN ?aFDN ?tFDN ?lDN ?cDN ?kDN ?lccDN ?lcdDN ?hvDN ?hflDN ?mmDN ?vDN ?xCF ?aCF ?eCF ?tCF ?hCF ?nCF_name ?nCF_other ?saCF ?gaCF ?ggCF ?aFCF ?tFCF ?lCF ?cCF ?kCF ?lccCF ?lcdCF ?hvCF ?hflCF ?mmCF ?vCF ?xUN ?aUN ?eUN ?tUN ?hUN ?nUN_name ?saUN ?gaUN ?ggUN ?aFUN ?tFUN ?lUN ?cUN ?kUN ?lccUN ?lcdUN ?hvUN ?hflUN ?mmUN ?vUN ?sTM_TE ?sBN_TE ?sBF_TE ?sUP_TE ?sDN_TE ?sCF_TE ?sTM_TM ?sBN_TM ?sBN_BN ?sBF_TM ?sBF_BN ?sBF_BF ?sUP_TM ?sUP_BN ?sUP_BF ?sUP_UP ?sDN_TM ?sDN_BN ?sDN_BF ?sDN_UP ?sDN_DN ?sCF_TM ?sCF_BN ?sCF_BF ?sCF_UP ?sCF_DN ?sCF_CF ?sUN_UN
    (case aDiff => k_is)
    (case aBoxB => k_is)
    (case aDraw => k_is)
    (case aLetters => k_is)
    (case aWord => k_is)
    (case aSucc => k_is)
    (case aFresh => k_is)
    (case aOverL => k_is)
    (case aKin => k_is)
    (case aRows => k_is)
    (case aIsWord => k_is)
    (case aFault => k_is)
    (case aOdd => k_is)
    (case aBookL => k_is)
    (case aPlus => k_is)
    (case aMinus => k_is)
    (case aItem => k_is)
    (case aAlikeL => k_is)
    (case aHolds => k_is)
    (case aDue => k_is)
    (case aAdded => k_is)
    (case aRemoved => k_is)
    (case aEntry => k_is)
    (case aDeed => k_is)
    (case aCheck => k_is)
    (case aIsForm => k_is)
    (case aOver => k_is)
    (case aConf => k_is)
    (case aLaw => k_is)
    (case z_len => k_is)
    (case z_set => k_is)
    (case z_all => k_is)
    (case z_abs => k_is)
    (case z_int => k_is)
    (case z_range => k_is)
    (case z_sorted => k_is)
    (case z_isinstance => k_is)
    (case z_str => k_is)
    (case z_bool => k_is)
    (case z_list => k_is)
    (case z_tuple => k_is)
    (case z_any => k_is)
    (case z_enumerate => k_is)
    (case z_min => k_is)
    (case z_ValueError => k_is)
    (case aC => k_is)
    (case aSL => k_is)
    (case aCB => k_is)
    (case a6 => k_is)
    (case a8 => k_is)
    (case aKI => k_is)
    (case aTE => k_is)
    (case noM => k_is)
    (case aBA => k_is)
    (case aTM => k_is)
    (case aBN => k_is)
    (case aBF => k_is)
    (case aUP => k_is)
    (case aDN => k_is)
    (case aCF => k_is)
    (case aUN => k_is)
    (case aT => k_is)
    (case aE => k_is)
    (case aA => k_is)
    (case aBI => k_is)
    (case aN => k_is)
    (case aEn => k_is)
    (case aLn => k_is)
    (case aEq => k_is)
    (case aHas => k_is)
    (case aIt0 => k_is)
    (case aAdd => k_is)
    (case aSub => k_is)
    (case aFBA => k_is)
    (case aFTM => k_is)
    (case aFBN => k_is)
    (case aFBF => k_is)
    (case aFUP => k_is)
    (case aFDN => k_is)
    (case aFCF => k_is)
    (case aFUN => k_is)
    (case lDiff => k_is)
    (case cDiff => k_is)
    (case kDiff => k_is)
    (case lBoxB => k_is)
    (case cBoxB => k_is)
    (case kBoxB => k_is)
    (case lDraw => k_is)
    (case cDraw => k_is)
    (case kDraw => k_is)
    (case lLetters => k_is)
    (case cLetters => k_is)
    (case kLetters => k_is)
    (case lWord => k_is)
    (case cWord => k_is)
    (case kWord => k_is)
    (case lSucc => k_is)
    (case cSucc => k_is)
    (case kSucc => k_is)
    (case lFresh => k_is)
    (case cFresh => k_is)
    (case kFresh => k_is)
    (case lOverL => k_is)
    (case cOverL => k_is)
    (case kOverL => k_is)
    (case lKin => k_is)
    (case cKin => k_is)
    (case kKin => k_is)
    (case lRows => k_is)
    (case cRows => k_is)
    (case kRows => k_is)
    (case lIsWord => k_is)
    (case cIsWord => k_is)
    (case kIsWord => k_is)
    (case lFault => k_is)
    (case cFault => k_is)
    (case kFault => k_is)
    (case lOdd => k_is)
    (case cOdd => k_is)
    (case kOdd => k_is)
    (case lBookL => k_is)
    (case cBookL => k_is)
    (case kBookL => k_is)
    (case lPlus => k_is)
    (case cPlus => k_is)
    (case kPlus => k_is)
    (case lMinus => k_is)
    (case cMinus => k_is)
    (case kMinus => k_is)
    (case lItem => k_is)
    (case cItem => k_is)
    (case kItem => k_is)
    (case lAlikeL => k_is)
    (case cAlikeL => k_is)
    (case kAlikeL => k_is)
    (case lHolds => k_is)
    (case cHolds => k_is)
    (case kHolds => k_is)
    (case lDue => k_is)
    (case cDue => k_is)
    (case kDue => k_is)
    (case lAdded => k_is)
    (case cAdded => k_is)
    (case kAdded => k_is)
    (case lRemoved => k_is)
    (case cRemoved => k_is)
    (case kRemoved => k_is)
    (case lEntry => k_is)
    (case cEntry => k_is)
    (case kEntry => k_is)
    (case lDeed => k_is)
    (case cDeed => k_is)
    (case kDeed => k_is)
    (case lCheck => k_is)
    (case cCheck => k_is)
    (case kCheck => k_is)
    (case lIsForm => k_is)
    (case cIsForm => k_is)
    (case kIsForm => k_is)
    (case lOver => k_is)
    (case cOver => k_is)
    (case kOver => k_is)
    (case lConf => k_is)
    (case cConf => k_is)
    (case kConf => k_is)
    (case lLaw => k_is)
    (case cLaw => k_is)
    (case kLaw => k_is)
    (case pgC => k_is)
    (case hdC => k_is)
    (case poC => k_is)
    (case saC => k_is)
    (case mkC => k_is)
    (case kC => k_is)
    (case nC_letters => k_is)
    (case nC_vowels => k_is)
    (case nC_consonants => k_is)
    (case nC_signs => k_is)
    (case ig => k_is)
    (case it => k_is)
    (case icC => k_is)
    (case imC => k_is)
    (case rdC => k_is)
    (case gaC => k_is)
    (case vM => k_is)
    (case vJ => k_is)
    (case lT => k_is)
    (case cT => k_is)
    (case kT => k_is)
    (case iT => k_is)
    (case lE => k_is)
    (case cE => k_is)
    (case kE => k_is)
    (case iE => k_is)
    (case nE => k_is)
    (case lA => k_is)
    (case cA => k_is)
    (case lD => k_is)
    (case kA => k_is)
    (case iA => k_is)
    (case pgCB => k_is)
    (case hdCB => k_is)
    (case poCB => k_is)
    (case saCB => k_is)
    (case mkCB => k_is)
    (case kCB => k_is)
    (case rdCB => k_is)
    (case gaCB => k_is)
    (case vMB => k_is)
    (case nCB_alphabet => k_is)
    (case nCB_entries => k_is)
    (case lBI => k_is)
    (case cBI => k_is)
    (case kBI => k_is)
    (case iBI => k_is)
    (case lN => k_is)
    (case cN => k_is)
    (case kN => k_is)
    (case iN => k_is)
    (case lEn => k_is)
    (case cEn => k_is)
    (case kEn => k_is)
    (case iEn => k_is)
    (case lLn => k_is)
    (case cLn => k_is)
    (case kLn => k_is)
    (case iLn => k_is)
    (case nB => k_is)
    (case icCB => k_is)
    (case imCB => k_is)
    (case sfB => k_is)
    (case lEq => k_is)
    (case cEq => k_is)
    (case kEq => k_is)
    (case iEq => k_is)
    (case lHas => k_is)
    (case cHas => k_is)
    (case kHas => k_is)
    (case iHas => k_is)
    (case lIt0 => k_is)
    (case cIt0 => k_is)
    (case kIt0 => k_is)
    (case iIt0 => k_is)
    (case fnIt0 => k_is)
    (case lAdd => k_is)
    (case cAdd => k_is)
    (case kAdd => k_is)
    (case iAdd => k_is)
    (case lSub => k_is)
    (case cSub => k_is)
    (case kSub => k_is)
    (case iSub => k_is)
    (case rAdd => k_is)
    (case rSub => k_is)
    (case tA1 => k_is)
    (case tA2 => k_is)
    (case tA3 => k_is)
    (case tA4 => k_is)
    (case tS1 => k_is)
    (case tS2 => k_is)
    (case tS3 => k_is)
    (case tS4 => k_is)
    (case ssB => k_is)
    (case stB => k_is)
    (case lKI => k_is)
    (case q1 => first | rfl | decide +kernel)
    (case q2 => first | rfl | decide +kernel)
    (case q3 => first | rfl | decide +kernel)
    (case low => first | rfl | decide +kernel)
    (case xTE => k_is)
    (case eTE => k_is)
    (case tTE => k_is)
    (case hTE => k_is)
    (case iTE => k_is)
    (case noT => first | rfl | decide +kernel)
    (case anyS => k_is)
    (case xBA => k_is)
    (case eBA => k_is)
    (case tBA => k_is)
    (case hBA => k_is)
    (case nBA_part => k_is)
    (case saBA => k_is)
    (case gaBA => k_is)
    (case ggBA => k_is)
    (case tFBA => k_is)
    (case lBA => k_is)
    (case cBA => k_is)
    (case kBA => k_is)
    (case lccBA => k_is)
    (case lcdBA => k_is)
    (case hvBA => rfl)
    (case hflBA => first | rfl | decide +kernel)
    (case mmBA => k_is)
    (case vBA => k_is)
    (case xTM => k_is)
    (case eTM => k_is)
    (case tTM => k_is)
    (case hTM => k_is)
    (case nTM_most => k_is)
    (case saTM => k_is)
    (case gaTM => k_is)
    (case ggTM => k_is)
    (case tFTM => k_is)
    (case lTM => k_is)
    (case cTM => k_is)
    (case kTM => k_is)
    (case lccTM => k_is)
    (case lcdTM => k_is)
    (case hvTM => rfl)
    (case hflTM => first | rfl | decide +kernel)
    (case mmTM => k_is)
    (case vTM => k_is)
    (case xBN => k_is)
    (case eBN => k_is)
    (case tBN => k_is)
    (case hBN => k_is)
    (case nBN_name => k_is)
    (case saBN => k_is)
    (case gaBN => k_is)
    (case ggBN => k_is)
    (case tFBN => k_is)
    (case lBN => k_is)
    (case cBN => k_is)
    (case kBN => k_is)
    (case lccBN => k_is)
    (case lcdBN => k_is)
    (case hvBN => rfl)
    (case hflBN => first | rfl | decide +kernel)
    (case mmBN => k_is)
    (case vBN => k_is)
    (case xBF => k_is)
    (case eBF => k_is)
    (case tBF => k_is)
    (case hBF => k_is)
    (case nBF_form => k_is)
    (case saBF => k_is)
    (case gaBF => k_is)
    (case ggBF => k_is)
    (case tFBF => k_is)
    (case lBF => k_is)
    (case cBF => k_is)
    (case kBF => k_is)
    (case lccBF => k_is)
    (case lcdBF => k_is)
    (case hvBF => rfl)
    (case hflBF => first | rfl | decide +kernel)
    (case mmBF => k_is)
    (case vBF => k_is)
    (case xUP => k_is)
    (case eUP => k_is)
    (case tUP => k_is)
    (case hUP => k_is)
    (case nUP_place => k_is)
    (case saUP => k_is)
    (case gaUP => k_is)
    (case ggUP => k_is)
    (case tFUP => k_is)
    (case lUP => k_is)
    (case cUP => k_is)
    (case kUP => k_is)
    (case lccUP => k_is)
    (case lcdUP => k_is)
    (case hvUP => rfl)
    (case hflUP => first | rfl | decide +kernel)
    (case mmUP => k_is)
    (case vUP => k_is)
    (case xDN => k_is)
    (case eDN => k_is)
    (case tDN => k_is)
    (case hDN => k_is)
    (case nDN_name => k_is)
    (case saDN => k_is)
    (case gaDN => k_is)
    (case ggDN => k_is)
    (case tFDN => k_is)
    (case lDN => k_is)
    (case cDN => k_is)
    (case kDN => k_is)
    (case lccDN => k_is)
    (case lcdDN => k_is)
    (case hvDN => rfl)
    (case hflDN => first | rfl | decide +kernel)
    (case mmDN => k_is)
    (case vDN => k_is)
    (case xCF => k_is)
    (case eCF => k_is)
    (case tCF => k_is)
    (case hCF => k_is)
    (case nCF_name => k_is)
    (case nCF_other => k_is)
    (case saCF => k_is)
    (case gaCF => k_is)
    (case ggCF => k_is)
    (case tFCF => k_is)
    (case lCF => k_is)
    (case cCF => k_is)
    (case kCF => k_is)
    (case lccCF => k_is)
    (case lcdCF => k_is)
    (case hvCF => rfl)
    (case hflCF => first | rfl | decide +kernel)
    (case mmCF => k_is)
    (case vCF => k_is)
    (case xUN => k_is)
    (case eUN => k_is)
    (case tUN => k_is)
    (case hUN => k_is)
    (case nUN_name => k_is)
    (case saUN => k_is)
    (case gaUN => k_is)
    (case ggUN => k_is)
    (case tFUN => k_is)
    (case lUN => k_is)
    (case cUN => k_is)
    (case kUN => k_is)
    (case lccUN => k_is)
    (case lcdUN => k_is)
    (case hvUN => rfl)
    (case hflUN => first | rfl | decide +kernel)
    (case mmUN => k_is)
    (case vUN => k_is)
    (case sTM_TE => k_is)
    (case sBN_TE => k_is)
    (case sBF_TE => k_is)
    (case sUP_TE => k_is)
    (case sDN_TE => k_is)
    (case sCF_TE => k_is)
    (case sTM_TM => k_is)
    (case sBN_TM => k_is)
    (case sBN_BN => k_is)
    (case sBF_TM => k_is)
    (case sBF_BN => k_is)
    (case sBF_BF => k_is)
    (case sUP_TM => k_is)
    (case sUP_BN => k_is)
    (case sUP_BF => k_is)
    (case sUP_UP => k_is)
    (case sDN_TM => k_is)
    (case sDN_BN => k_is)
    (case sDN_BF => k_is)
    (case sDN_UP => k_is)
    (case sDN_DN => k_is)
    (case sCF_TM => k_is)
    (case sCF_BN => k_is)
    (case sCF_BF => k_is)
    (case sCF_UP => k_is)
    (case sCF_DN => k_is)
    (case sCF_CF => k_is)
    (case sUN_UN => k_is)
