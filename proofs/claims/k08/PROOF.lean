import PyProof.Rows.All
import Wide.All
import OpenK.AllK
import Wide.FinOn
import HandS.ForExc
import HandS.ExcOwn
import HandS.ExcInit
import HandS.ExcField
import HandS.FStr
import HandS.ExcSuper
import KE.KExcSuper
import HandS.ExcIs
import HandS.IsInst
import HandS.SlotsOwn
import HandS.ForMost
import HandS.WordsExc
import HandS.ExcCtx
import HandS.SuiteRaise
import HandS.RaiseFrom
import HandS.ExcInitHot
import HandS.Base
import HandS.Call
import HandS.Exc
import HandS.TryMany
import HandS.More
import KE.KOpsOwn
import HandS.TupSets
import KE.KeyNested
import KE.KSortTupG
import HandS.SetBool
import HandS.Walk
import PyProof.CollectStr
import HandS.Property
import HandS.Text
import HandS.Strs
import PyProof.ListStr
import HandS.Conv
import HandS.Deep
import HandS.Style
import KE.KRevSl
import HandS.Iter
import PyProof.Draws
import PyProof.EnumMake
import HandS.Zip
import KE.GoesZip
import KE.GoesMore
import HandS.ClsMeth
import HandS.Defaults
import PySem.Challenge.RW_talepost_k08_machine_tables
import HandS.RaiseMore
import KE.Datum
import PyProof.StrLawsRepr
set_option Elab.async false
set_option linter.all false
set_option maxRecDepth 100000
set_option maxHeartbeats 4000000
namespace Vk
open PySem PySem.Spec PyProof.Rows L2
/-! o.m(e, ..) whose def may raise, in a try -/
def tMethS (C : Addr) (m : Str) (sp : Sp) (E : L2.St → XK) (ta : TE) (t : TA) : TE := fun σ H Q => ta σ H fun x H1 => ∃ a dx fs, x = .ref a ∧ H1 a = some (.ins C dx fs) ∧ fs.lookup m = none ∧ t σ H1 fun vs H2 => sp (x :: vs) H2 Q (E σ)
section
variable {X : Cx} {CX : CXT} {k : Nat} {f C : Addr} {fd : FuncData} {ps : List Str} {sp : Sp} {E : L2.St → XK} {m : Str} {apos pos : Pos} {o e : Expr} {es : List Expr} {ta : TE} {t : TA}
theorem pe_methS {pl : Sem Bool} (he : PE X o ta) (c : Cls X.K C) (hm : Meth X.K C m f) (F : FnOk X.prog X.w X.K X.mg X.base CX k f fd ps sp) (hr : Room k X.A) (hb : Binds X.K fd ps []) (hx : ∀ σ, PassesAt CX X σ (E σ)) (ha : PA X (e :: es) t)
    (hst : starEach (e :: es) X.env = (false, eval e X.env) :: starEach es X.env := by rfl) (hpl : (backTo pos (starEach es X.env)).any (·.1) = false := by rfl)
    (ht : eval (.Call (.Attribute o m apos) (e :: es) [] pos) X.env = (do
      let ov ← eval o X.env
      standAt apos.atName
      let (f, first) ← holding [ov] (getMethod ov m pl)
      callWith pos f first (backTo pos (starEach (e :: es) X.env)) (backToKw pos (keywordEach [] X.env))) := by rfl) :
    PE X (.Call (.Attribute o m apos) (e :: es) [] pos) (tMethS C m sp E ta t) := by
  refine ⟨fun pins s σ H Q I h => ?_⟩
  refine PySem.W.methodCall_KW (pl := pl) (thn (he.run pins s σ H _ I h) fun u s1 ⟨x, H1, I1, rx, a, dx, fs, ex, ea, l, q⟩ => ?_) ht
  subst ex
  obtain rfl : u = Value.ref a := rx
  refine getmeth_ok I1 ea c hm l ?_
  refine PySem.W.callWith_K (first := [.ref a]) (h₀ := X.base) I.ok.mod.kin hm.kp (thn (ha.run pos pins s1 σ H1 _ I1 q) fun us s2 ⟨vs, H2, I2, r, q2⟩ => ⟨I2.kIn, ?_⟩) hst hpl
  exact run_fnS (us := .ref a :: us) (vs := .ref a :: vs) F hr hb (hx σ) I2 (.cons rfl r) q2
end
end Vk
set_option Elab.async false
set_option linter.all false
set_option maxRecDepth 100000
set_option maxHeartbeats 2000000
namespace Vk
open PySem PySem.Spec PyProof.Rows L2

/-- the context of a body that closes over its class's cell -/
def cxS (CX : CXT) (P : Program) (w : World) (K : PySem.W.Frag) (mg : Str → Option Value) (base : Heap) (N : List Str) (qual : Str) (scope : Scope) (f cc : Addr) (cd : Value) (A : Around) (outer : List Env) (s : Shared) (H : Hp) (E : XK) : Cx where
  prog := P
  w := w
  K := K
  mg := mg
  base := base
  A := A.deeper (PySem.W.ksEnv qual scope s.heap.objs.size f cd cc)
  N := N
  s_0 := s
  H_0 := H
  env := PySem.W.ksEnv qual scope s.heap.objs.size f cd cc
  outer := outer
  stack := PySem.W.ksEnv qual scope s.heap.objs.size f cd cc :: outer
  ex := []
  calm := true
  fn := fun _ => false
  pn := []
  xe := fun e s' => wpAny (model P w) (A.deeper (PySem.W.ksEnv qual scope s.heap.objs.size f cd cc)) (leaving (PySem.W.ksEnv qual scope s.heap.objs.size f cd cc) e) (fun _ s'' => CX outer H s E e s'') (fun e' s'' => CX outer H s E e' s'') s'

/-- what the text has written of an own exception class at C and its __init__ at fI, whose code is at cda, its cell at cc -/
structure SupC (P : Program) (K : PySem.W.Frag) (mg : Str → Option Value) (C cc cda : Addr) : Prop where
  oex : OexC K C
  cell : ∃ cl cld csl, K.lookup cc = some ⟨cl, cld, .cell (some (.ref C)), csl⟩
  code : ∃ (ccl : Value) (cdd : Option Addr) (vs : Array Value) (ccs : Array (Option Value)) (file : Str) (tf : Tok), K.lookup cda = some ⟨ccl, cdd, .fields vs, ccs⟩ ∧ vs[2]? = some (.str file tf) ∧ ((P.main.file : Str) == file) = true
  sub : PySem.W.mroIn K C (.ref C) = some true
  sup : PySem.W.ks_superIn K C C "__init__" = some (some (.builtin "ValueError.__init__"))
  subV : PySem.W.subIn K (.ref C) (.type "ValueError") = some true
  noTop : (P.main.scope.names.lookup ("super" : Str)).isSome = false
  noMg : mg "super" = none
  any : PySem.W.nsIn K cStatics "thirdparty.any" = some none

structure SScope (N : List Str) (sc : Scope) : Prop where
  kind : sc.kind = .function
  co : sc.isCoroutine = false
  gen : sc.isGenerator = false
  nd : N.Nodup
  par : ∀ x ∈ N, sc.names.lookup x = some .local
  nocell : ∀ x ∈ sc.names, x.2 ≠ .cell
  free : ∀ x, sc.names.lookup x = some .free → x = "__class__"
  sup : sc.names.lookup ("super" : Str) = some .globalImplicit
  cls : sc.names.lookup ("__class__" : Str) = some .free

theorem rev_get {N : List Str} {us : List Value} (hlen : N.length = us.length) (nd : N.Nodup) {i : Nat} {x : Str} {u : Value} (h1 : N[i]? = some x) (h2 : us[i]? = some u) : (N.zip us).reverse.lookup x = some u := by
  have key : ∀ (l : List (Str × Value)), (l.map (·.1)).Nodup → ∀ x u, (x, u) ∈ l → l.lookup x = some u := by
    intro l
    induction l with
    | nil => intro _ _ _ h; cases h
    | cons p l ih =>
      intro hn x u hm
      obtain ⟨a, b⟩ := p
      simp only [List.map_cons, List.nodup_cons] at hn
      rcases List.mem_cons.mp hm with e | hm
      · cases e
        simp [List.lookup]
      · have hne : (x == a) = false := by
          have : x ≠ a := fun z => hn.1 (z ▸ List.mem_map_of_mem hm)
          simpa using this
        simp [List.lookup, hne, ih hn.2 x u hm]
  have hz : (N.zip us)[i]? = some (x, u) := by
    rw [List.getElem?_zip_eq_some]
    exact ⟨h1, h2⟩
  refine key _ ?_ _ _ (List.mem_reverse.mpr (List.mem_of_getElem? hz))
  rw [List.map_reverse]
  refine (List.pairwise_reverse (R := fun a b : Str => a ≠ b)).mpr ?_
  refine List.Pairwise.imp (R := fun a b : Str => a ≠ b) (fun h => Ne.symm h) ?_
  rw [List.map_fst_zip (Nat.le_of_eq hlen)]
  exact nd

theorem inv_s {CX : CXT} {P : Program} {w : World} {K : PySem.W.Frag} {mg : Str → Option Value} {base : Heap} {N : List Str} {qual : Str} {scope : Scope} {f cc : Addr} {cd : Value} {A : Around} {outer : List Env} {s : Shared} {H : Hp} {E : XK} {us : List Value} {vs : List V} {h1 : Heap} {tk : Nat} {oc : Value} {ocd : Option Addr} {osl : Array (Option Value)} {cv : Option Value}
    (S : SScope N scope) (hd : A.handled = none) (e0 : Env0 P w K mg base A outer s H) (hl : vs.length = N.length) (r : Vals vs us) (hcell : K.lookup cc = some ⟨oc, ocd, .cell cv, osl⟩)
    (hns : h1.Ns s.heap.objs.size (fun x => (N.zip us).reverse.lookup x)) (hk : ∀ b o, s.heap.get? b = some o → h1.get? b = some o) :
    Inv (cxS CX P w K mg base N qual scope f cc cd A outer s H E) [] (vs.map some) H { s with heap := h1, toks := tk } := by
  have noA : ∀ b : Addr, b ∉ (cxS CX P w K mg base N qual scope f cc cd A outer s H E).ex := fun b z => absurd (show b ∈ ([] : List Addr) from z) (by simp)
  have hcs : ∀ y c, (cxS CX P w K mg base N qual scope f cc cd A outer s H E).env.cells.lookup y = some c → y = "__class__" ∧ c = cc := fun y c h => by
    have h' : List.lookup y [(("__class__" : Str), cc)] = some c := h
    by_cases e : y = "__class__"
    · subst e
      simp [List.lookup] at h'
      exact ⟨rfl, h'.symm⟩
    · have q : (y == ("__class__" : Str)) = false := by simpa using e
      simp [List.lookup, q] at h'
  have hcb : ∃ o, base.get? cc = some o ∧ o.data = .cell cv := ⟨_, e0.mod.kin _ _ hcell, rfl⟩
  obtain ⟨ob, hb1, hb2⟩ := hcb
  refine ⟨⟨e0.mod, S.kind, rfl, rfl, Nat.le_refl _, fun y z c h1 h2 => ?_, fun y hy => ?_, fun y c h _ => absurd h (by show ¬ (false = true); decide), fun _ => hd, Around.frames_deeper e0.frames, .inr ⟨rfl, rfl⟩, fun b z => absurd z (noA b), e0.bs, e0.bsz, fun b _ _ => noA b, fun b z => absurd z (noA b), e0.funs, e0.frf⟩,
    rfl, e0.bare, Un.kept hk, ⟨_, hns, fun i y v h1 h2 h3 => ?_⟩, fun y c h => ?_, e0.hok.fresh (Nat.le_refl _), fun y c h => ?_, fun p hp => absurd (show p ∈ ([] : List (Addr × Obj)) from hp) (by simp), e0.hok.kept hk, ?_⟩
  · exact (hcs y c h1).1.trans (hcs z c h2).1.symm
  · have hy : scope.names.lookup y = some .cell ∨ scope.names.lookup y = some .free := hy
    rcases hy with hy | hy
    · exact absurd rfl (S.nocell _ (PySem.mem_of_lookup hy))
    · have e := S.free y hy
      subst e
      exact ⟨cc, by show List.lookup ("__class__" : Str) [(("__class__" : Str), cc)] = _; simp [List.lookup]⟩
  · have h1' : N[i]? = some y := h1
    have ha : vs[i]? = some v := by
      rw [List.getElem?_map] at h2
      cases e : vs[i]? with
      | none => rw [e] at h2; cases h2
      | some a => rw [e] at h2; cases h2; rfl
    obtain ⟨u, hu, rv⟩ := r.get ha
    exact ⟨u, rv, .inl ⟨S.par y (List.mem_of_getElem? h1'), rev_get (hl.symm.trans r.length) S.nd h1' hu⟩⟩
  · obtain ⟨_, rfl⟩ := hcs y c h
    exact ⟨cv, ob, hk _ _ (e0.bs _ _ hb1).1, hb2⟩
  · obtain ⟨_, rfl⟩ := hcs y c h
    exact (e0.bs _ _ hb1).2
  · show (vs.map some).length = N.length
    rw [List.length_map, hl]

/-- ValueError.__init__ bound to the exception at e, called -/
theorem call_bv {prog : Program} {w : World} {A : Around} {E : Value → Shared → Prop} {h : Heap} {g : Array GenState} {d : Drawn} {t : Nat} {os : OsState}
    {nm q : Str} {C N : Addr} {bs bm : List Value} {hdct : Bool} {sn : List Str} {sub : List Value} {ab : Bool} {col : Option Bool} {dd : Option Addr} {k0 k1 k2 k3 k5 : Option Value}
    {u e t0 : Addr} {rest : List Value} {Q : Value → Shared → Prop}
    (hC : h.get? C = some (excClassObj nm q C N bs bm hdct sn sub ab col dd k0 k1 k2 k3 k5 "ValueError.__new__")) (he : h.get? e = some (HandSPX.excO C t0)) (hu : h.get? u = some (PySem.W.kxs_mw "ValueError.__init__" e)) (hrest : rest.length ≤ sizeLine)
    (hq : ∀ h' t1, (∀ b o, b ≠ e → h.get? b = some o → h'.get? b = some o) → h'.get? e = some (HandSPX.excO C t1) → Q .none ⟨h', g, d, t, os⟩) :
    wpAny (model prog w) A (call (.ref u) rest) Q E ⟨h, g, d, t, os⟩ := by
  refine wpAny_call (codeAny_of_tree ?_)
  show wpAny _ A.in1 (callAny (.ref u) ⟨rest, []⟩) _ _ _
  unfold callAny
  refine wpAny_bind (wpAny_load hu ?_)
  simp only [PySem.W.kxs_mw, show (Value.type "method-wrapper" == Value.type "method" || Value.type "method-wrapper" == Value.type "builtin_function_or_method" || Value.type "method-wrapper" == Value.type "method-wrapper") = true from by decide, if_true]
  refine W.KFB.if_so (by decide) ?_
  refine wpAny_bind (PySem.ESX.check_bound F.excBase_ValueError hC he rfl ?_)
  refine wpAny_bind (wpAny_pure (wpAny_pure ?_))
  refine ⟨plainId_quiet F.excBase_ValueError.init.plain _, codeAny_builtin F.excBase_ValueError.initEntry ?_⟩
  refine PySem.W.exc_init_tree (cls := .ref C) (t0 := t0) (dv := none) (c2 := .none) (c3 := .none) (b4 := .bool false) he hrest fun h' k e' _ => hq h' _ k e'

/-- what super().__init__(e) asks: the argument; the exception, fresh -/
def tSup (C : Addr) (te : TE) : TS := fun D σ H => te σ H fun _ H1 => (∃ a, σ[0]? = some (some (.ref a)) ∧ H1 a = some (exo a C none)) ∧ D.nx σ H1

theorem fn_super {CX : CXT} {P : Program} {w : World} {K : PySem.W.Frag} {mg : Str → Option Value} {base : Heap} {k : Nat} {f C cc cda : Addr} {name qual self : Str} {params : Arguments} {body : List Stmt} {scope : Scope} {dV kV doc pm ct oc : Value} {an od : Option Addr}
    {osl : Array (Option Value)} {N : List Str} {sp : Sp} {parts : List Expr} {rest : List Stmt} {p0 p1 p2 p3 p4 jp : Pos} {ar : Arg} {N' : List Str} {pl : Sem Bool}
    (T : SupC P K mg C cc cda)
    (lk : K.lookup f = some ⟨oc, od, .func (PySem.W.ksFn name qual params body scope dV kV doc pm an (.ref cda) ct cc), osl⟩) (hcd : PySem.W.codeIn K (.ref cda) qual = true) (S : SScope N scope) (hN : N = self :: N')
    (hpar : (params.posonlyargs ++ params.args).head? = some ar) (har : ar.arg = self)
    (hbd : body = .Expr (.Call (.Attribute (.Call (.Name "super" p0) [] [] p1) "__init__" p2) [.JoinedStr parts jp] [] p3) p4 :: rest)
    (hcall : ∀ env : Env, eval (.Call (.Attribute (.Call (.Name "super" p0) [] [] p1) "__init__" p2) [.JoinedStr parts jp] [] p3) env = (do
      let ov ← attributeBase (.Call (.Name "super" p0) [] [] p1) "__init__" env (eval (.Call (.Name "super" p0) [] [] p1) env)
      standAt p2.atName
      let (f, first) ← holding [ov] (getMethod ov "__init__" pl)
      callWith p3 f first (backTo p3 (starEach [.JoinedStr parts jp] env)) []))
    (hsw : ∀ env : Env, swapsWith (.Call (.Attribute (.Call (.Name "super" p0) [] [] p1) "__init__" p2) [.JoinedStr parts jp] [] p3) none p4.line env = pure false)
    (len : ∀ vs H Q E, sp vs H Q E → vs.length = N.length)
    (hbody : ∀ (A : Around) (outer : List Env) (s : Shared) (H : Hp) (vs : List V) (Q : VK) (E : XK), Room k (A.deeper (PySem.W.ksEnv qual scope s.heap.objs.size f (.ref cda) cc)) → sp vs H Q E →
      ∃ te t, PE (cxS CX P w K mg base N qual scope f cc (.ref cda) A outer s H E) (.JoinedStr parts jp) te ∧ PSs (cxS CX P w K mg base N qual scope f cc (.ref cda) A outer s H E) rest t ∧
        (∃ a, vs[0]? = some (.ref a) ∧ H a = some (exo a C none)) ∧ tSeq (tSup C te) t { nx := fun _ H' => Q .non H', rt := Q } (vs.map some) H) :
    FnOk P w K mg base CX (k + 1) f (PySem.W.ksFn name qual params body scope dV kV doc pm an (.ref cda) ct cc) N sp := by
  refine ⟨len, fun A outer s H args us vs Q E hr e0 hb r hsp => ?_⟩
  have hl := len _ _ _ _ hsp
  have KX : K.In s.heap := e0.mod.kin.keeps fun b o e => (e0.bs b o e).1
  have lim : s.heap.NoLimit := e0.mod.nolimit.keeps fun b o e => (e0.bs b o e).1
  obtain ⟨cl, cld, csl, hcell⟩ := T.cell
  obtain ⟨ccl, cdd, vsC, ccs, file, tf, hcode, hvs2, hfile⟩ := T.code
  obtain ⟨nm, q, Nc, bs, bm, sn, sub, ab, col, dd, k0, k1, k2, k3, k5, hC, hbm⟩ := T.oex.cls
  obtain ⟨te, t, hpe, hps, ⟨a, ha0, hea⟩, hq⟩ := hbody A outer s H vs Q E (hr.deeper _) hsp
  refine ks_codeAny_call_defAt (fd := PySem.W.ksFn name qual params body scope dV kV doc pm an (.ref cda) ct cc) (body := body) (binds := N.zip us) hr.depth (KX _ _ lk) rfl lim (PySem.W.codeRec_of KX hcd) rfl hb S.nocell (fun y hy => S.par y.1 (List.of_mem_zip (a := y.1) (b := y.2) hy).1) (fun h1 hns hk => ?_) S.co S.gen S.kind
  have I : Inv (cxS CX P w K mg base N qual scope f cc (.ref cda) A outer s H E) [] (vs.map some) H { s with heap := h1, toks := s.toks + (N.zip us).length } := inv_s S hr.hd e0 hl r hcell hns hk
  subst hbd
  subst hN
  have ka0 : ∃ u0 us', us = u0 :: us' := by
    cases us with
    | nil => have q := r.length; rw [hl] at q; exact absurd q (by simp)
    | cons u0 us' => exact ⟨u0, us', rfl⟩
  obtain ⟨u0, us', rfl⟩ := ka0
  have hu0 : u0 = Value.ref a := by
    cases r with
    | cons r0 rt =>
      rw [List.getElem?_cons_zero] at ha0
      cases ha0
      exact r0
  subst hu0
  have hL : ((self :: N').zip (Value.ref a :: us')).reverse.lookup self = some (Value.ref a) := rev_get (by rw [← r.length]; exact hl.symm) S.nd (i := 0) rfl rfl
  have hself : scope.names.lookup self = some .local := S.par self List.mem_cons_self
  have hne : a ≠ C := fun z => by
    obtain ⟨t1, ho⟩ := exo_at e0.hok hea
    rw [z, KX _ _ hC] at ho
    cases ho
  generalize hs1 : s.toks + ((self :: N').zip (Value.ref a :: us')).length = tk1 at I ⊢
  obtain ⟨hp0, g, d, tk, os⟩ := s
  let env := PySem.W.ksEnv qual scope hp0.objs.size f (.ref cda) cc
  show PySem.wpAt (model P w) (A.deeper env) (.func (.Expr (.Call (.Attribute (.Call (.Name "super" p0) [] [] p1) "__init__" p2) [.JoinedStr parts jp] [] p3) p4 :: rest) env) (execs (.Expr (.Call (.Attribute (.Call (.Name "super" p0) [] [] p1) "__init__" p2) [.JoinedStr parts jp] [] p3) p4 :: rest) env) _ _ _
  have hint : interactive env = false := by
    unfold interactive
    rw [show env.scope.kind = ScopeKind.function from S.kind]
    rfl
  refine ks_wpAt_execs_cons (ks_wpAt_Expr_any (ks_wpAt_MethodCall (pl := pl) ?_ (hcall env)) hint (hsw env))
  · refine ks_wpAt_super_base (env := env) S.sup S.cls (by decide) rfl (hk _ _ (KX _ _ lk)) rfl hpar rfl (hk _ _ (KX _ _ hcode)) rfl hvs2 hfile T.noTop ?_
    obtain ⟨mb, hb1, hb2⟩ := I.mod.blt
    have hbs : mb ("super" : Str) = some (.type "super") := (hb2 _ (by decide)).trans (by decide +kernel)
    refine PySem.W.ks_loadName_global (env := env) S.kind S.sup (Calls.loadGlobal_builtin (env := env) (I.mod.glob.keeps I.bk) T.noMg (hb1.keeps I.bk) hbs ⟨rfl, ?_⟩)
    refine wpAny_loadName_free (env := env) S.kind S.cls rfl ⟨_, hk _ _ (KX _ _ hcell), rfl⟩ ?_
    rw [har]
    refine wpAny_loadName_local (env := env) S.kind hself hns hL ?_
    have KX1 : K.In h1 := KX.keeps hk
    have hC1 := KX1 _ _ hC
    obtain ⟨t1, hx1⟩ := exo_at I.hok hea
    have hcl : PySem.W.clsIn K C = some { name := nm, bases := bs, mro := .ref C :: bm, ns := Nc, qualname := q, hasDict := true, slotNames := sn, subclasses := sub, abstract := ab, collection := col, hasDel := false } := by unfold PySem.W.clsIn; rw [hC] <;> rfl
    have hsup := T.sup
    unfold PySem.W.ks_superIn at hsup
    rw [hcl] at hsup
    refine ks_wpAny_isType_cls hC1 rfl ⟨rfl, ?_⟩
    refine ks_wpAny_call_super hC1 rfl hx1 rfl (fun c z => by cases z) (PySem.W.looks_mroIn KX1 T.sub) (fun h2 e2 k2 => ?_)
    have I1 : Inv (cxS CX P w K mg base (self :: N') qual scope f cc (.ref cda) A outer ⟨hp0, g, d, tk, os⟩ H E) [] (vs.map some) H ⟨h2, g, d, tk1, os⟩ := I.kept (t' := tk1) k2
    have KX2 : K.In h2 := KX1.keeps k2
    have J2 : PySem.W.InstAt h2 a ({ cls := .ref C, dict := none, data := .fields #[.ref t1, .none, .none, .none, .bool false, .none] } : Obj) C none := ⟨k2 _ _ hx1, rfl, rfl, trivial⟩
    refine PySem.W.kxs_getMethod PySem.W.kxs_ValueError e2 (PySem.W.looks_opaque KX2 T.any) (fun A Q E s k q => wpAny_bind ((PySem.W.looks_clsIn KX2 hcl) A _ E s k (wpAny_pure q))) rfl KX2 hsup (J2.type.andThen (PySem.W.looks_subIn KX2 T.subV)) hne (by decide) ?_
    have fp := I1.fpOk (b := h2.objs.size) (H' := H) (Nat.le_refl _) (I1.hok.fresh (Nat.le_refl _))
    have I2 : Inv (cxS CX P w K mg base (self :: N') qual scope f cc (.ref cda) A outer ⟨hp0, g, d, tk, os⟩ H E) [(h2.objs.size, PySem.W.kxs_mw "ValueError.__init__" a)] (vs.map some) H ⟨h2.push (PySem.W.kxs_mw "ValueError.__init__" a), g, d, tk1 + 1, os⟩ :=
      (I1.kept (t' := tk1 + 1) (h' := h2.push (PySem.W.kxs_mw "ValueError.__init__" a)) fun b o z => Heap.get?_push_of_some _ z).pins_of fun p hp => by
        have ep : p = (h2.objs.size, PySem.W.kxs_mw "ValueError.__init__" a) := by simpa using hp
        subst ep
        exact ⟨Heap.get?_push_at rfl rfl, fp.1, fp.2.1, fp.2.2.1, fun v z => by cases z⟩
    have hst : starEach [Expr.JoinedStr parts jp] env = (false, eval (.JoinedStr parts jp) env) :: starEach [] env := rfl
    rw [hst]
    refine PySem.W.kxs_callWith (i := "ValueError.__init__") (x := a) (by rfl) (Calls.evalArgs_plain ?_)
    refine Calls.spliced_cons (thn (hpe.run [(h2.objs.size, PySem.W.kxs_mw "ValueError.__init__" a)] _ (vs.map some) H _ I2 hq) fun u1 s3 hh => Calls.spliced_nil ?_)
    obtain ⟨v1, H3, I3, r3, ⟨a', ea', hea3⟩, q3⟩ := hh
    have ea2 : a' = a := by
      rw [List.getElem?_map, ha0] at ea'
      cases ea'
      rfl
    subst ea2
    have hu3 : s3.heap.get? h2.objs.size = some (PySem.W.kxs_mw "ValueError.__init__" a') := (I3.pin (h2.objs.size, PySem.W.kxs_mw "ValueError.__init__" a') (by simp)).1
    refine ⟨hu3, ?_⟩
    obtain ⟨t3, hx3⟩ := exo_at I3.hok hea3
    have KX3 := I3.kIn
    have hlen1 : [u1].length ≤ sizeLine := by
      rw [sizeLine_eq]
      exact (by decide : 1 ≤ 16777216)
    obtain ⟨hp3, g3, d3, tk3, os3⟩ := s3
    refine call_bv (KX3 _ _ hC) hx3 hu3 hlen1 fun h4 t4 k4 hx4 => ?_
    have J := I3.write (t' := tk3) (x := a') (e := a') (o := exo a' C none) (by rw [hea3]; exact True.intro) (.inl rfl) k4 ⟨_, hx4⟩ (exo_ok hx4)
    have eu : upd H3 a' (exo a' C none) = H3 := by
      funext b
      by_cases hb : b = a'
      · rw [hb, upd_same, hea3]
      · rw [upd_ne hb]
    rw [eu] at J
    have J0 : Inv (cxS CX P w K mg base (self :: N') qual scope f cc (.ref cda) A outer ⟨hp0, g, d, tk, os⟩ H E) [] (vs.map some) H3 ⟨h4, g3, d3, tk3, os3⟩ := Inv.unpinned (pins := []) J
    refine PySem.wpAt_of_wpAny ?_
    refine wpAny_mono (hps.run [] _ (vs.map some) H3 _ J0 q3) (fun fl s' hs => ?_) fun e s' hs => hs
    have fin : ∀ {σ' : L2.St} {H' : Hp} {v : V} {u : Value}, Inv (cxS CX P w K mg base (self :: N') qual scope f cc (.ref cda) A outer ⟨hp0, g, d, tk, os⟩ H E) [] σ' H' s' → RelV v u → Q v H' → CE outer P w H ⟨hp0, g, d, tk, os⟩ Q u s' :=
      fun {σ' H' v u} J rv q => ⟨v, H', J.os, J.bare, J.base, J.hok, rv, q⟩
    cases fl with
    | ret u =>
      obtain ⟨v, σ', H', J, rv, q⟩ := hs
      exact fin J rv q
    | next =>
      obtain ⟨σ', H', J, q⟩ := hs
      exact fin (v := V.non) (u := Value.none) J rfl q
    | brk =>
      obtain ⟨_, _, _, q⟩ := hs
      exact False.elim q
    | cont =>
      obtain ⟨_, _, _, q⟩ := hs
      exact False.elim q
end Vk
set_option Elab.async false
set_option linter.all false
set_option maxRecDepth 100000
set_option maxHeartbeats 4000000
namespace Vk
open PySem PySem.Spec PyProof.Rows L2
/-! isinstance of a caught error that has a dict -/
section
open PySem.W
variable {prog : Program} {w : World} {A : Around} {E : Value → Shared → Prop} {s : Shared} {K : Frag} {x D : Addr} {ox od : Obj}
theorem cls_of_exc {Q : Option Value → Shared → Prop} (T : ExcC K D) (X : K.In s.heap) (I : InstAt s.heap x ox D (some od)) (h : Q (some (.ref D)) { s with toks := s.toks + 1 }) : wpAny (model prog w) A (getAttr? (.ref x) "__class__") Q E s := by
  have hf : findObj K D (some od) "__class__" = some (.bind (.builtin "getset_descriptor.__get__") (.builtin "object.__class__")) :=
    findObj_data (by obtain ⟨cd, hc, _⟩ := any_some T.hd; rw [hc]; rfl) T.ha T.hn T.ht
  obtain ⟨hp, g, d, t, os⟩ := s
  have K0 := I.type (M := model prog w)
  have K1 := looks_findIn (M := model prog w) X T.hg
  have K2 := looks_findIn (M := model prog w) X T.hk
  have K3 := looks_find (M := model prog w) X I hf
  have sub : Looks (model prog w) hp (isInstance (.ref x) (.type "BaseException")) true := K0.andThen (looks_subIn X T.hs)
  have q0 : (false && onTheHeap (Value.builtin "BaseException.__getattribute__")) = false := rfl
  have q2 : (Value.builtin "BaseException.__getattribute__" == Value.builtin "object.__getattribute__") = false := by decide +kernel
  have q1 : (onTheHeap (Value.ref D) && Value.builtin "BaseException.__getattribute__" == Value.builtin "object.__getattribute__") = false := by rw [q2]; rfl
  unfold getAttr? getAttrBy? getAttrBy
  refine wpAny_bind (wpAny_mkText (wpAny_bind (wpAny_attempt (wpAny_holding (wpAny_bind (K0.at (wpAny_bind (K1.at ?_))))))))
  show wpAny _ _ (if (onTheHeap (Value.ref D) && Value.builtin "BaseException.__getattribute__" == Value.builtin "object.__getattribute__") = true then _ else _) _ _ _
  rw [q1, if_neg Bool.false_ne_true]
  unfold getAttrByItsOwn hookBefore
  refine wpAny_bind ?_
  rw [if_pos (show onTheHeap (Value.ref D) = true from rfl)]
  refine K2.at (wpAny_bind (wpAny_attempt (wpAny_holding ?_)))
  unfold callGetattribute
  rw [q0, if_neg Bool.false_ne_true]
  unfold boundAndCalled
  rw [PySem.F.excAttr_ValueError.ga.bind (.ref x)]
  refine wpAny_bind (wpAny_pure ?_)
  show wpAny _ _ (call (.builtin "BaseException.__getattribute__") [.ref x, .str "__class__" t]) _ _ _
  refine wpAny_call (codeAny_call_builtin PySem.F.excAttr_ValueError.ga.plain PySem.F.entry_bexc_ga ?_)
  refine @check_slot (model prog w) _ _ ⟨hp, g, d, t + 1, os⟩ "BaseException.__getattribute__" "BaseException" "__getattribute__" (.ref x) [.str "__class__" t] [] _ (by decide +kernel) (by decide +kernel) sub (PySem.F.args_bexc_ga (.ref x) (.str "__class__" t)) ?_
  unfold Builtin.«object.__getattribute__»
  refine wpAny_bind (wpAny_of_eq (a := ((Value.ref x : Value), [Value.str "__class__" t])) (by first | rfl | (simp only [slotArgs]; rfl)) ?_)
  refine wpAny_bind (wpAny_pure (wpAny_bind (K0.at (wpAny_bind (K3.at ?_)))))
  show wpAny _ _ (holding [Value.builtin "object.__class__"] (call (.builtin "getset_descriptor.__get__") [.builtin "object.__class__", .ref x, .ref D]) >>= ret) _ _ _
  refine wpAny_bind (wpAny_holding (wpAny_call (class_get (s := ⟨hp, g, d, t + 1, os⟩) (ox := ox) (od := some od) X I T.hm (wpAny_pure ?_))))
  show wpAny _ _ (handedOut (.ref D)) _ _ _
  rw [handedOut_of (v := .ref D) rfl]
  first
    | exact wpAny_pure (wpAny_pure h)
    | exact wpAny_pure h
    | exact wpAny_pure (wpAny_bind (wpAny_pure (wpAny_pure h)))
theorem kit_excD (T : ExcC K D) : KitX K (.ref x) (.ref D) (fun h => InstAt h x ox D (some od)) where
  ty := fun _ _ _ I => I.type
  it := fun _ _ X _ => by
    obtain ⟨cdD, hcD, _⟩ := any_some T.hd
    unfold clsIn at hcD
    split at hcD
    · rename_i c1 d1 cd1 sl1 ho
      intro A1 Q1 E1 s1 k q
      unfold isType loadHead
      exact wpAny_bind (wpAny_loadPart (k _ _ (X _ _ ho)) (wpAny_pure q))
    · cases hcD
  ne := fun h tp dd its n sl X htp => by
    obtain ⟨cdD, hcD, _⟩ := any_some T.hd
    refine Bool.eq_false_iff.mpr fun q => ?_
    have e : D = tp := Value.ref.inj (beq_iff_eq.mp q)
    subst e
    unfold clsIn at hcD
    split at hcD
    · rename_i c1 d1 cd1 sl1 ho
      have z := (X _ _ ho).symm.trans htp
      cases z
    · cases hcD
  ca := fun X I k => cls_of_exc T X I k
end
/-- the caught error at a, of the class at D, its dict at dd: it can be asked for its class -/
theorem exc_inst {X : Cx} {a D dd : Addr} {oe : Obj} {pn : List (Addr × Obj)} {pins : List (Addr × Obj)} {σ : L2.St} {H : Hp} {s : Shared} {fs : List (Str × V)} (hz : Zc (.ref D) (some dd) oe) (hf : ∃ vs, oe.data = .fields vs)
    (I : Inv (X.suite a ((a, oe) :: pn)) pins σ H s) (hd : H dd = some (.xd fs)) : ∃ od, PySem.W.InstAt s.heap a oe D (some od) := by
  obtain ⟨ha, _⟩ := I.pin (a, oe) (List.mem_append_left _ List.mem_cons_self)
  obtain ⟨vs, hv⟩ := hf
  have hx : ObjOk X.prog X.w H s.heap dd (.xd fs) := I.hok dd _ hd
  obtain ⟨mA, hns, hr⟩ := hx
  obtain ⟨od, ho, hl⟩ := lookIn_ns hns
  exact ⟨od, ha, hz.1, by unfold PySem.W.notCls; rw [hv] <;> rfl, by rw [hz.2]; exact ho⟩
/-- isinstance(e, c), isinstance(e, (c1, c2)) in the suite: t the class of e as a value -/
def rIsX (K : PySem.W.Frag) (a : Addr) (cls : Value) (d : Option Addr) : List V → Hp → VK → Prop := fun xs H Q =>
  ∃ (D dd : Addr) (fs : List (Str × V)), cls = .ref D ∧ d = some dd ∧ ExcC K D ∧ H dd = some (.xd fs) ∧
    ((∃ (c : V) (u : Value) (b : Bool), xs = [.ref a, c] ∧ ClsV c u ∧ PySem.W.kitOne K (.ref D) u = some b ∧ Q (.bl b) H) ∨
      ∃ (tp : Addr) (cs : List V) (us : List Value) (b : Bool), xs = [.ref a, .ref tp] ∧ H tp = some (.tup cs) ∧ Paired ClsV cs us ∧ PySem.W.kitAny K (.ref D) us = some b ∧ Q (.bl b) H)
theorem call_isX {X : Cx} {a : Addr} {cls : Value} {d : Option Addr} {oe : Obj} {pn : List (Addr × Obj)} (hz : Zc cls d oe) (hf : ∃ vs, oe.data = .fields vs) : CallR (X.suite a ((a, oe) :: pn)) (.builtin "isinstance") (rIsX X.K a cls d) := by
  intro pins s σ H xs us Q I r h
  obtain ⟨D, dd, fs, rfl, rfl, C, hd, h⟩ := h
  obtain ⟨od, J⟩ := exc_inst hz hf I hd
  rcases h with ⟨c, u, b, rfl, k, e, q⟩ | ⟨tp, cs, ws, b, rfl, hT, k, e, q⟩
  · obtain ⟨u1, u2, rfl, r1, r2⟩ := vals2 r
    cases (show u1 = Value.ref a from r1)
    have e2 := k.eq r2
    subst e2
    exact PySem.W.kia_one (kit_excD C) I.kIn J e (fun z => nomatch z) fun tk => ⟨.bl b, H, I.tok tk, rfl, q⟩
  · obtain ⟨u1, u2, rfl, r1, r2⟩ := vals2 r
    cases (show u1 = Value.ref a from r1)
    cases (show u2 = Value.ref tp from r2)
    obtain ⟨_, its, rv, o, h1, h2, n, h3⟩ := (show ObjOk X.prog X.w H s.heap tp (.tup cs) from I.hok tp _ hT)
    have e3 := ClsV.all k rv
    subst e3
    obtain ⟨oc, od', dt, sl⟩ := o
    simp only at h2 h3
    subst h2 h3
    exact PySem.W.kia_tup (kit_excD C) I.kIn J h1 e (fun z => nomatch z) fun tk => ⟨.bl b, H, I.tok tk, rfl, q⟩

/-! x == y by an own __eq__ -/
def rOwnI (K : PySem.W.Frag) (C : Addr) (sp : Sp) (E : XK) : R2 := fun x y H Q => ∃ a dx fs b C' dy gs, x = .ref a ∧ y = .ref b ∧ H a = some (.ins C dx fs) ∧ H b = some (.ins C' dy gs) ∧ PySem.W.notFirst K C (.ref C') = true ∧ sp [x, y] H Q E
section
variable {X : Cx} {CX : CXT} {k : Nat} {g C : Addr} {fd : FuncData} {ps : List Str} {sp : Sp} {E : XK}
theorem op_ownI {op : CmpOp} (hop : ∀ a b, compareOp op a b = richCompare op a b) (hs : PySem.W.findIn X.K (.ref C) (cmpInfo op).2.1 = some (some (.ref g))) (hf : PySem.W.isFn X.K (.ref g) = true) (F : FnOk X.prog X.w X.K X.mg X.base CX k g fd ps sp)
    (hr : Room k X.A) (hb : Binds X.K fd ps []) (hx : Passes CX X E) : OpR X (compareOp op) (rOwnI X.K C sp E) := by
  intro pins s σ H x y v u Q I rx ry h
  obtain ⟨a, dx, fs, b, C', dy, gs, rfl, rfl, ha, hbb, hn, q⟩ := h
  cases (show v = Value.ref a from rx)
  cases (show u = Value.ref b from ry)
  obtain ⟨mA, O, _⟩ := ins_get I.hok ha
  obtain ⟨od, J, _⟩ := O.look
  obtain ⟨mB, O2, _⟩ := ins_get I.hok hbb
  obtain ⟨od2, J2, _⟩ := O2.look
  obtain ⟨m, hF⟩ := I.fr
  rw [hop]
  refine PySem.W.cmp_K (op := op) (tb := .ref C') hr.units0 hF I.ok.mod.kin J J2.type hn hs hf ?_
  refine wpAny_mono (run_fn (us := [.ref a, .ref b]) (vs := [.ref a, .ref b]) F hr hb .nil hx I (.cons rfl (.cons rfl .nil)) (by rw [List.append_nil]; exact q)) (fun w s1 z => ?_) fun _ _ x => x
  obtain ⟨z1, H1, I1, rz, qz⟩ := z
  exact SlX.cmpback rz ⟨z1, H1, I1, rz, qz⟩
end

/-! C(e, ..) whose __init__ may raise, in a try: what is raised is wished for at the slots -/
def tMakeS (C : Addr) (sp : Sp) (dvs : List V) (E : L2.St → XK) (t : TA) : TE := fun σ H Q => t σ H fun vs H1 => ∀ x dx, H1 x = none → H1 dx = none → dx ≠ x →
  sp (.ref x :: (vs ++ dvs)) (upd (upd H1 dx (.own x)) x (.ins C dx [])) (fun v H2 => v = .non ∧ Q (.ref x) H2) (E σ)
section
variable {X : Cx} {CX : CXT} {k : Nat} {f C : Addr} {fd : FuncData} {ps : List Str} {sp : Sp} {dvs : List V} {ds : List Value} {E : L2.St → XK} {x : Str} {p pos : Pos} {e : Expr} {es : List Expr} {t : TA}
theorem pe_makeS (M : Mk X.K C f) (F : FnOk X.prog X.w X.K X.mg X.base CX k f fd ps sp) (hr : Room (k + 1) X.A) (hg : Gl X x) (hm : X.mg x = some (.ref C)) (hb : Binds X.K fd ps ds) (hd : Vals dvs ds) (hx : ∀ σ, PassesAt CX X σ (E σ))
    (ha : PA X (e :: es) t) (hdb : (x == ("__debug__" : Str)) = false := by decide) (he : starEach (e :: es) X.env = (false, eval e X.env) :: starEach es X.env := by rfl) (hpl : (backTo pos (starEach es X.env)).any (·.1) = false := by rfl) :
    PE X (.Call (.Name x p) (e :: es) [] pos) (tMakeS C sp dvs E t) := by
  refine ⟨fun pins s σ H Q I h => ?_⟩
  refine wpAny_Call_Name_kw (ld_glob I hg hm ?_ hdb)
  refine PySem.W.callWith_K (h₀ := X.base) I.ok.mod.kin M.kp (thn (ha.run pos pins s σ H _ I h) fun us s1 hh => ?_) he hpl
  obtain ⟨vs, H1, I1, r, q⟩ := hh
  refine ⟨I1.kIn, ?_⟩
  show wpAny _ _ (call (.ref C) us) _ _ _
  have hq := q (s1.heap.objs.size + 1) s1.heap.objs.size (I1.hok.fresh (Nat.le_succ _)) (I1.hok.fresh (Nat.le_refl _)) (Nat.ne_of_lt (Nat.lt_succ_self _))
  have I2 := Inv.made (C := C) I1
  have r2 : Vals (V.ref (s1.heap.objs.size + 1) :: (vs ++ dvs)) (Value.ref (s1.heap.objs.size + 1) :: (us ++ ds)) := .cons rfl (r.append hd)
  have hl : (Value.ref (s1.heap.objs.size + 1) :: us ++ ds).length = ps.length := by
    have e := r2.length
    rw [F.len _ _ _ _ hq] at e
    exact e.symm
  refine wpAny_call (make_map (f := f) I1.kIn M.makes M.init (beq_iff_eq.mp M.fn) (codeAny_mono (F.run _ X.stack _ _ ⟨Value.ref (s1.heap.objs.size + 1) :: us, []⟩ (Value.ref (s1.heap.objs.size + 1) :: (us ++ ds)) _ _ (E σ) (hr.make C us [])
    (I2.env0.make C us []) (hb _ (Value.ref (s1.heap.objs.size + 1) :: us) I2.kIn hl) r2 hq) fun r3 s3 hq3 => ?_))
  cases r3 with
  | error e => exact hx σ _ _ _ e s3 I2 hq3
  | ok fl =>
    cases fl with
    | ret u =>
      obtain ⟨v, H3, I3, rv, ev, q3⟩ := I2.after hq3
      subst ev
      exact ⟨rv, ⟨V.ref (s1.heap.objs.size + 1), H3, I3, rfl, q3⟩⟩
    | next => exact False.elim hq3
    | brk => exact False.elim hq3
    | cont => exact False.elim hq3
end
end Vk
set_option Elab.async false
set_option linter.all false
set_option maxRecDepth 100000
set_option maxHeartbeats 2000000
namespace Vk
open PySem PySem.Spec PyProof.Rows L2
/-! defs whose errors bear no context, for a handler that raises -/
theorem okN {P : Program} {w : World} {K : PySem.W.Frag} {mg : Str → Option Value} {base : Heap} {nm qn : Str} {st : Stmt} {fa : Addr} {fd : FuncData} {N qs : List Str} {lv : Nat} {sp : Sp} (F : Fun K nm qn st fa fd) (S : FnScope N qs (defScope st))
    (hlen : ∀ us H Q E, sp us H Q E → us.length = qs.length)
    (hb : ∀ (cv : Value) (B : Around) (out : List Env) (s0 : Shared) (H : Hp) (us : List V) (Q : VK) (E : XK), Room lv (B.deeper (envOfC qn (defScope st) s0.heap.objs.size fa cv)) → sp us H Q E →
      ∃ z, PSs (cxOf (L2N.CX P w) P w K mg base N qn (defScope st) fa cv B out s0 H E) (defBody st) z ∧ z { nx := fun _ G => Q .non G, rt := Q } (start N us) H) : FnOk P w K mg base (L2N.CX P w) (lv + 1) fa fd qs sp := by
  obtain ⟨_, _, _, _, _, _, cv, _, _, rfl, h1, h2⟩ := F.ex
  exact fn_of h1 h2 S hlen fun B out s0 H us Q E r h => hb cv B out s0 H us Q E r h
/-- C(e, ..), C an own error with its own __init__; the new error bears no context -/
theorem pmk_oexN {X : Cx} {CX : CXT} {nm : Str} {C fi : Addr} {lv : Nat} {fd : FuncData} {qs : List Str} {sp : Sp} {e : Expr} {es : List Expr} {ta : TA} {p p' : Pos} (O : OexC X.K C) (hi : PySem.W.findIn X.K (.ref C) "__init__" = some (some (.ref fi))) (ht : PySem.W.typeIn X.K (.ref fi) = some (.type "function"))
    (FI : FnOk X.prog X.w X.K X.mg X.base CX lv fi fd qs sp) (hr : Room (lv + 1) X.A) (hb : Binds X.K fd qs []) (hp : Passes CX X (fun _ _ _ => False)) (hg : Gl X nm) (hm : X.mg nm = some (.ref C)) (ha : PA X (e :: es) ta)
    (hdb : (nm == ("__debug__" : Str)) = false := by decide) (hst : starEach (e :: es) X.env = (false, eval e X.env) :: starEach es X.env := by rfl) (hpl : (backTo p' (starEach es X.env)).any (·.1) = false := by rfl) :
    L2N.PMk X (.Call (.Name nm p) (e :: es) [] p') (tMkO C sp [] ta) := by
  intro pins s σ H Q I h
  obtain ⟨n1, n2, n3, n4, bm, n6, n7, n8, n9, n10, n11, n12, n13, n14, n15, hC, hbm⟩ := O.cls
  refine wpAny_Call_Name_kw (ld_glob I hg hm ?_ hdb)
  refine PySem.W.callWith_K (h₀ := X.base) I.ok.mod.kin O.kC (thn (ha.run p' pins s σ H _ I h) fun us s1 z1 => ?_) hst hpl
  obtain ⟨vs, H1, J, rv, hz, q⟩ := z1
  refine ⟨J.kIn, ?_⟩
  show wpAny _ _ (call (.ref C) us) _ _ _
  obtain ⟨g0, ga, dr, tk, os⟩ := s1
  have up1 : g0.objs.size ≤ g0.objs.size + 1 := Nat.le_succ _
  have q1 := q (g0.objs.size + 1) (J.hok.fresh up1)
  rw [List.append_nil] at q1
  have kp : ∀ b o, g0.get? b = some o → ((g0.push (PySem.W.kdv_tup us)).push (PySem.HandSPX.excO C g0.objs.size)).get? b = some o := fun _ _ y => Heap.get?_push_of_some _ (Heap.get?_push_of_some _ y)
  have at1 : ((g0.push (PySem.W.kdv_tup us)).push (PySem.HandSPX.excO C g0.objs.size)).get? (g0.objs.size + 1) = some (PySem.HandSPX.excO C g0.objs.size) := by heap_get
  have J2 := J.laid (t' := tk) (a := g0.objs.size + 1) (o := exo (g0.objs.size + 1) C none) kp up1 (exo_ok at1)
  have r2 : Vals (V.ref (g0.objs.size + 1) :: vs) (Value.ref (g0.objs.size + 1) :: us) := .cons rfl rv
  have ln : (Value.ref (g0.objs.size + 1) :: us ++ []).length = qs.length := by
    have y := r2.length
    rw [FI.len _ _ _ _ q1] at y
    rw [List.append_nil]
    exact y.symm
  have usz : us.length ≤ sizeLine := by
    rw [← Paired.length rv, sizeLine_eq]
    omega
  have b1 := hb _ (Value.ref (g0.objs.size + 1) :: us) J2.kIn ln
  rw [List.append_nil] at b1
  have run := FI.run _ X.stack _ _ ⟨Value.ref (g0.objs.size + 1) :: us, []⟩ (Value.ref (g0.objs.size + 1) :: us) _ _ (fun _ _ _ => False) (hr.make C us []) (J2.env0.make C us []) b1 r2 q1
  refine wpAny_call (PySem.HandSPX.call_own F.excBase_ValueError (fun Y => PySem.HandSPX.refsVE_contains Y bm hbm) (J.kIn _ _ hC) (PySem.W.looks_findIn J.kIn hi) (fun self => PySem.W.bind_fn J.kIn self ht) usz (codeAny_mono run fun r s2 z => ?_))
  cases r with
  | error er => exact hp pins σ _ _ er s2 J2 z
  | ok fl =>
    cases fl with
    | next => exact z.elim
    | brk => exact z.elim
    | cont => exact z.elim
    | ret u =>
      obtain ⟨v, H2, e1, e2, e3, e4, e5, ev, d, fs, e6, e7, e8, e9⟩ := z
      subst ev
      obtain ⟨g2, ga2, d2, t2, os2⟩ := s2
      obtain ⟨t0, G, J3, kG, gn, go, na⟩ := mk_end0 (d2 := d2) (t2 := t2) J up1 kp e3 e4 e1 e2 e6 e7 e8
      refine ⟨e5, g0.objs.size + 1, _, _, ⟨G, ga2, d2, t2, os2⟩, _, .ref C, some d, rfl, J3, kG, gn, go, ⟨rfl, rfl, fun vs hv => ?_⟩, rfl, rfl, na, rfl, e2, raises_own O.exC O.tyC, e9⟩
      cases hv
      rfl
end Vk
set_option Elab.async false
set_option linter.all false
set_option maxRecDepth 100000
set_option maxHeartbeats 4000000
namespace Vk
open PySem PySem.Spec PyProof.Rows L2
/-! several except clauses, each with a name: one step for each clause -/
/-- D, the clause's name gone behind its suite -/
def goneD (D : Ends) (i : Nat) : Ends := { nx := fun σ' H' => D.nx (σ'.set i none) H', rt := D.rt, bk := fun σ' H' => D.bk (σ'.set i none) H', ct := fun σ' H' => D.ct (σ'.set i none) H' }
/-- a clause: its class, its name's slot, its suite's reading -/
structure Cl where
  c : Value
  i : Nat
  ts : Addr → Value → Option Addr → TS
def wAsN (K : PySem.W.Frag) (Wout : WX) (D : Ends) : List Cl → WX
  | [] => Wout
  | q :: r => fun cls d σ H => ∃ b, PySem.W.exmOne K cls q.c = some b ∧ (b = true → ∀ a, H a = none → q.ts a cls d (goneD D q.i) (σ.set q.i (some (.ref a))) H) ∧ (b = false → wAsN K Wout D r cls d σ H)
inductive AsOk (X : Cx) : List ExceptHandler → List Cl → Prop
  | nil : AsOk X [] []
  | cons {x n : Str} {q : Cl} {b₀ : Stmt} {suite : List Stmt} {np pos' : Pos} {hds : List ExceptHandler} {l : List Cl} (hi : X.N[q.i]? = some n) (hln : X.env.kindOf n = some .local) (hc : Names X x q.c)
      (hsu : ∀ (a : Addr) (oe : Obj) (cls : Value) (d : Option Addr) (pn : List (Addr × Obj)), Zc cls d oe → (∃ vs, oe.data = .fields vs) → PSs (X.suite a ((a, oe) :: pn)) (b₀ :: suite) (q.ts a cls d)) (r : AsOk X hds l) :
      AsOk X (.ExceptHandler (some (.Name x np)) (some n) (b₀ :: suite) pos' :: hds) (q :: l)
section
variable {X : Cx} {body : List Stmt} {h₀ : ExceptHandler} {hds : List ExceptHandler} {l : List Cl} {pos : Pos} {tb : WX → TS} {Wout : WX}
theorem ps_try_asN (hs : X.stack = X.env :: X.outer) (hf : X.env.frame = some X.env.locals) (hN : X.N.Nodup) (tk : Takes X Wout)
    (hb : ∀ (W : WX) (pn : List (Addr × Obj)) (xe : Value → Shared → Prop), Takes (X.tr pn xe) W → PassesOwn (model X.prog X.w) X.A X.env xe → PSs (X.tr pn xe) body (tb W))
    (hh : AsOk X (h₀ :: hds) l) : PS X (.Try body (h₀ :: hds) [] [] pos) (fun D σ H => tb (wAsN X.K Wout D l) D σ H) := by
  refine ⟨fun pins s σ H D I h => ?_⟩
  have ok := I.ok
  have hfr : X.A.frames = some (X.env :: X.outer) := by rw [ok.frames, hs]
  refine wpAny_Try_except (wpAny_mono ((hb (wAsN X.K Wout D l) (X.pn ++ pins) (fun e s₁ => wpAny (model X.prog X.w) X.A (noteFrame e X.env) (fun _ s₂ => wpAny (model X.prog X.w) X.A (setFlight e none) (fun _ s₃ =>
    wpAny (model X.prog X.w) X.A (handleBy e X.env (h₀ :: hds)) (SP X pins D) X.xe s₃) X.xe s₂) X.xe s₁) (fun u s' hx => ?_) PassesOwn.looking).run [] s σ H D (I.toTry _) h) (fun f s1 hsp => ?_) fun e s1 he => he)
  · obtain ⟨a, B, sI, pn', σ1, H1, cls, d, rfl, J0, nb, up, sky, na, os, ag, wish⟩ := hx
    have J : Inv X pins σ1 H1 sI := J0.ofTry ok
    rw [hs] at sky
    show wpAny (model X.prog X.w) X.A (noteFrame (.ref a) X.env) _ _ _
    refine Sky.land Zc.steady hfr hf sky fun h3 fl up3 => ?_
    have J3 : Inv X pins σ1 H1 { s' with heap := h3 } := J.landed nb fl.1 (up.trans up3) os ag
    obtain ⟨o3, vs3, e3, z3, d3⟩ := fl.there
    have nfr : a ∉ frs (X.env :: X.outer) := fun hm => by
      obtain ⟨_, o', e', hnf⟩ := fl.2.2.1.mem hm
      rw [e3] at e'
      cases e'
      exact hnf _ d3
    have nL : a ≠ X.env.locals := fun z => nfr (List.mem_filterMap.mpr ⟨X.env, List.mem_cons_self, by rw [hf, z]⟩)
    have nF : a ∉ X.fs := fun hm => by
      obtain ⟨e, he, q⟩ := List.mem_filterMap.mp hm
      exact nfr (List.mem_filterMap.mpr ⟨e, List.mem_cons_of_mem _ he, q⟩)
    have S3 := J3.suite e3 d3 na nL nF
    have LT : PySem.W.Looks (model X.prog X.w) h3 (typeOf (.ref a)) cls := fun A Q E s k q => wpAny_typeOf_ref (k _ _ e3) (by rw [z3.1]; exact q)
    suffices all : ∀ {hds' : List ExceptHandler} {l' : List Cl}, AsOk X hds' l' → wAsN X.K Wout D l' cls d σ1 H1 → wpAny (model X.prog X.w) X.A (handleBy (.ref a) X.env hds') (SP X pins D) X.xe { s' with heap := h3 } from all hh wish
    clear wish hh
    intro hds' l' hk
    induction hk with
    | nil =>
      intro wo
      obtain ⟨_, _, _, oe, vs, T, oT, ts', he, hz, hd, h1, hr⟩ := id fl
      have out : wpAny (model X.prog X.w) X.A (setFlight (.ref a) X.env.frame) (fun _ s4 => wpAny (model X.prog X.w) X.A (throw (.ref a) : Sem Flow) (SP X pins D) X.xe s4) X.xe { s' with heap := h3 } := by
        rw [hf]
        exact HandSPX.setFlight_upZ fl fun h4 hh4 up4 => wpAny_throw (tk _ _ ⟨a, B, sI, pins, σ1, H1, cls, d, rfl, J, nb, (up.trans up3).trans up4, .inr (.inr (by rw [hs]; exact hh4)), na, os, ag, wo⟩)
      refine wpAny_handleBy_nil ?_
      unfold PySem.passOn
      refine wpAny_bind (wpAny_field he hd h1 ?_)
      rw [if_neg (show ¬ ((Value.ref T == Value.none) = true) from by simp)]
      first
        | exact wpAny_bind (wpAny_pure (wpAny_bind out))
        | exact wpAny_bind out
    | @cons x n q b₀ suite np pos' hds2 l2 hi hln hc hsu r ih =>
      intro wo
      obtain ⟨b, hb1, hyes, hno⟩ := wo
      have LM := PySem.W.exm_one (M := model X.prog X.w) J3.kIn LT hb1
      refine wpAny_handleBy_cons (codeAny_handlers_test ?_) (by intro z; cases z)
      have name : ∀ {Q : Value → Shared → Prop} {E : Value → Shared → Prop}, Q q.c { s' with heap := h3 } → wpAny (model X.prog X.w) (X.A.mark (some (.ref a))) (eval (.Name x np) X.env) Q E { s' with heap := h3 } := fun {Q E} hQ => by
        obtain ⟨hg, hdbg, hm | ⟨hm, hv, hnn⟩⟩ := hc
        · exact ld_glob (X := X.suite a ((a, o3) :: (X.pn ++ pins))) S3 hg hm hQ hdbg
        · exact ld_blt (X := X.suite a ((a, o3) :: (X.pn ++ pins))) S3 hg hm hv hQ hnn hdbg
      refine name (LM.here ?_)
      cases b with
      | false =>
        show wpAny _ X.A (handleBy (.ref a) X.env hds2) _ _ _
        exact ih (hno rfl)
      | true =>
        refine codeAny_handlers_suite_as (HandSPX.lands_againZ fl fun h4 fl4 up4 => ?_)
        have J4 : Inv X pins σ1 H1 { s' with heap := h4 } := J.landed nb fl4.1 ((up.trans up3).trans up4) os ag
        obtain ⟨o4, vs4, e4, z4, d4⟩ := fl4.there
        refine store_ok (X := X.suite a ((a, o4) :: (X.pn ++ pins))) (v := .ref a) (J4.suite e4 d4 na nL nF) hN hi (.inl hln) rfl (fun s5 S5 => ?_) (.inr hln)
        refine wpAny_mono ((hsu a o4 cls d (X.pn ++ pins) z4 ⟨_, d4⟩).run [] s5 _ H1 _ S5 (hyes rfl a na)) (fun f s6 hsp => ?_) fun _ _ z => z.elim
        cases f with
        | next =>
          obtain ⟨σ6, H6, S6, q6⟩ := hsp
          exact gone_ok (S6.unsuite ok) hN hi hln fun s7 J7 => ⟨_, _, J7, q6⟩
        | brk =>
          obtain ⟨σ6, H6, S6, q6⟩ := hsp
          exact gone_ok (S6.unsuite ok) hN hi hln fun s7 J7 => ⟨_, _, J7, q6⟩
        | cont =>
          obtain ⟨σ6, H6, S6, q6⟩ := hsp
          exact gone_ok (S6.unsuite ok) hN hi hln fun s7 J7 => ⟨_, _, J7, q6⟩
        | ret u =>
          obtain ⟨v6, σ6, H6, S6, r6, q6⟩ := hsp
          exact gone_ok (S6.unsuite ok) hN hi hln fun s7 J7 => ⟨_, _, _, J7, r6, q6⟩
  · cases f with
    | next =>
      obtain ⟨σ', H', J', q⟩ := hsp
      exact wpAny_execs_nil ⟨σ', H', J'.ofTry ok, q⟩
    | brk =>
      obtain ⟨σ', H', J', q⟩ := hsp
      exact ⟨σ', H', J'.ofTry ok, q⟩
    | cont =>
      obtain ⟨σ', H', J', q⟩ := hsp
      exact ⟨σ', H', J'.ofTry ok, q⟩
    | ret u =>
      obtain ⟨v, σ', H', J', r, q⟩ := hsp
      exact ⟨v, σ', H', J'.ofTry ok, r, q⟩
end
end Vk
set_option Elab.async false
set_option linter.all false
set_option maxRecDepth 100000
set_option maxHeartbeats 4000000
namespace Vk
open PySem PySem.Spec PyProof.Rows L2
/-! len of an instance with its own `__len__` -/
def rLenI (C : Addr) (sp : Sp) (E : XK) : List V → Hp → VK → Prop := fun xs H Q => ∃ (a dx : Addr) (fs : List (Str × V)), xs = [V.ref a] ∧ H a = some (.ins C dx fs) ∧ sp [.ref a] H (fun z H' => ∃ n : Nat, z = .int (n : Int) ∧ n < 2 ^ 63 ∧ Q z H') E
theorem call_lenI {X : Cx} {CX : CXT} {C g : Addr} {n : Nat} {sp : Sp} {E : XK} (hs : PySem.W.findIn X.K (.ref C) "__len__" = some (some (.ref g))) (hf : PySem.W.isFn X.K (.ref g) = true) (F : FnR X.prog X.w X.K X.mg X.base CX n g sp) (hr : Room (n + 1) X.A) (hx : Passes CX X E) :
    CallR X (.builtin "len") (rLenI C sp E) := by
  intro pins s σ H xs us Q I r h
  obtain ⟨a, dx, fs, rfl, ha, q⟩ := h
  obtain ⟨u, rfl, ru⟩ := vals1 r
  cases (show u = Value.ref a from ru)
  obtain ⟨mA, O, _⟩ := ins_get I.hok ha
  obtain ⟨od, J, _⟩ := O.look
  obtain ⟨m, hF⟩ := I.fr
  have hr1 : Room n X.A.in1 := Room.in1 hr
  refine PySem.W.len_K hF I.ok.mod.kin J hs hf (wpAny_mono (wpAny_call (SlX.run_at (us := [.ref a]) (ws := [.ref a]) F hr1 I.env0.in1 hx I (.cons rfl .nil) q)) (fun w s' z => ?_) fun _ _ x => x)
  obtain ⟨z', H', I', rz, k, ei, hk, qz⟩ := z
  subst ei
  obtain ⟨t, e⟩ := (show ∃ t, w = Value.int (k : Int) t from rz)
  cases e
  exact ⟨⟨by omega, by omega⟩, .int (k : Int), H', I'.tok _, ⟨_, rfl⟩, qz⟩
end Vk
set_option Elab.async false
set_option linter.all false
set_option maxRecDepth 100000
set_option maxHeartbeats 4000000
namespace Vk
open PySem PySem.Spec PyProof.Rows L2
/-- what a class says of its own operator, the right hand side a builtin T -/
structure BinF (K : PySem.W.Frag) (C g : Addr) (op : Operator) (T : String) : Prop where
  sf : PySem.W.selfFirst K C = true
  own : PySem.W.findIn K (.ref C) (PySem.dunder op.info.2) = some (some (.ref g))
  fn : PySem.W.isFn K (.ref g) = true
  nr : PySem.W.findIn K (.ref C) (dunderR op.info.2) = some none
  t1 : ∃ fo, PySem.W.findIn K (.type T) (PySem.dunder op.info.2) = some fo
  t2 : ∃ ro, PySem.W.findIn K (.type T) (dunderR op.info.2) = some ro
  sub : PySem.W.subIn K (.type T) (.ref C) = some false
section
variable {prog : Program} {w : World} {A : Around} {E : Value → Shared → Prop} {s : Shared} {K : PySem.W.Frag} {x C L g : Addr} {h0 : Heap} {m : Str → Option Value} {ox : Obj} {od : Option Obj} {T : String}
theorem bin_any {op : Operator} {b : Value} {Q : Value → Shared → Prop} (F : PyProof.Rows.Fr h0 L s.heap m) (X0 : K.In h0) (I : PySem.W.InstAt s.heap x ox C od) (lb : PySem.W.Looks (model prog w) s.heap (typeOf b) (.type T)) (B : BinF K C g op T)
    (go : wpAny (model prog w) A (call (.ref g) [.ref x, b]) (PySem.W.CmpBack Q) E s) : wpAny (model prog w) A (binaryOp op (.ref x) b) Q E s := by
  have Xs := X0.keeps F.keep
  obtain ⟨B1, B2, B3, B4, ⟨fo, B5⟩, ⟨ro, B6⟩, B7⟩ := B
  obtain ⟨cd, rest, hcd, hm⟩ := PySem.W.ksp_first B1
  obtain ⟨sym, n2, hi⟩ : ∃ sym n2, op.info = (sym, n2) := ⟨_, _, rfl⟩
  simp only [hi] at B2 B4 B5 B6
  have run := PySem.W.ksp_try Xs I B2 B3 go
  have l1 := I.type (M := model prog w)
  have l3 := PySem.W.fills_K (M := model prog w) Xs hcd hm B2
  have l4 := PySem.W.ksp_fillsT (M := model prog w) Xs B5 B6
  have l5 := PySem.W.looks_subIn (M := model prog w) Xs B7
  have l6 := PySem.W.ksp_inPy (M := model prog w) Xs B2 B4 (.inl rfl)
  have l7 : PySem.W.Looks (model prog w) s.heap (numberSlotInPython (.type T) n2) false := .of_pure rfl
  have l8 := PySem.W.looks_findIn (M := model prog w) Xs B6
  generalize ((fo.isSome && !isSeqSlot fo) || (ro.isSome && !isSeqSlot ro)) = rgt at l4
  have ne : (Value.ref C == Value.type T) = false := rfl
  cases s
  simp only [binaryOp, hi]
  refine wpAny_holding (wpAny_bind ?_)
  unfold binaryOp1
  refine wpAny_bind (l1.at (wpAny_bind (lb.at (wpAny_bind (l3.at ?_)))))
  simp only [ne, Bool.false_eq_true, if_false]
  cases rgt <;>
  · ksp_lk
    refine wpAny_mono run (fun r s' z => ?_) fun _ _ e => e
    obtain ⟨v, rfl, q⟩ := z
    ksp_lk
    exact q
end
theorem looks_tuple {M : Model} {h : Heap} {p : Addr} {o : Obj} (e : h.get? p = some o) (c : o.cls = .type "tuple") : PySem.W.Looks M h (typeOf (.ref p)) (.type "tuple") :=
  fun _ _ _ _ k q => wpAny_typeOf ⟨o, k _ _ e, c⟩ q
/-! x op y by an own method, y a text or a tuple; what it raises is wished for at the slots -/
def tBinI (K : PySem.W.Frag) (C : Addr) (sp : Sp) (E : L2.St → XK) (ta tb : TE) : TE := fun σ H Q => ta σ H fun x H1 => tb σ H1 fun y H2 => ∃ a dx fs, x = .ref a ∧ H2 a = some (.ins C dx fs) ∧ ((∃ z, y = .str z) ∨ ∃ p xs, y = .ref p ∧ SqT K H2 p xs) ∧ sp [x, y] H2 Q (E σ)
section
variable {X : Cx} {CX : CXT} {k : Nat} {g C : Addr} {fd : FuncData} {ps : List Str} {sp : Sp} {E : L2.St → XK} {pos : Pos} {e f : Expr} {ta tb : TE} {op : Operator}
theorem pe_binI (B1 : BinF X.K C g op "str") (B2 : BinF X.K C g op "tuple") (F : FnOk X.prog X.w X.K X.mg X.base CX k g fd ps sp) (hr : Room k X.A) (hb : Binds X.K fd ps []) (hx : ∀ σ, PassesAt CX X σ (E σ)) (he : PE X e ta) (hf : PE X f tb) :
    PE X (.BinOp e op f pos) (tBinI X.K C sp E ta tb) := by
  refine ⟨fun pins s σ H Q I h => ?_⟩
  refine wpAny_BinOp (binT he hf (R := fun x y H2 => ∃ a dx fs, x = .ref a ∧ H2 a = some (.ins C dx fs) ∧ ((∃ z, y = .str z) ∨ ∃ p xs, y = .ref p ∧ SqT X.K H2 p xs) ∧ sp [x, y] H2 Q (E σ)) I h fun v u s2 x y H2 I2 rx ry q => ?_)
  obtain ⟨a, dx, fs, rfl, ha, hy, q⟩ := q
  cases (show v = Value.ref a from rx)
  obtain ⟨mA, O, _⟩ := ins_get I2.hok ha
  obtain ⟨od, J, _⟩ := O.look
  obtain ⟨m, hF⟩ := I2.fr
  have run : wpAny (model X.prog X.w) X.A (call (.ref g) [.ref a, u]) (PySem.W.CmpBack (EP X pins σ Q)) X.xe s2 := by
    refine wpAny_mono (run_fnS (us := [.ref a, u]) (vs := [.ref a, y]) F hr hb (hx σ) I2 (.cons rfl (.cons ry .nil)) q) (fun w s1 z => ?_) fun _ _ z => z
    obtain ⟨z1, H1, I1, rz, qz⟩ := z
    exact SlX.cmpback rz ⟨z1, H1, I1, rz, qz⟩
  rcases hy with ⟨z, rfl⟩ | ⟨p, xs, rfl, hp⟩
  · obtain ⟨t, rfl⟩ := ry
    exact bin_any hF I2.ok.mod.kin J (.of_pure rfl) B1 run
  · cases (show u = Value.ref p from ry)
    obtain ⟨its, _, ⟨o, ho, hc, _⟩, _⟩ := I2.tuple hp
    exact bin_any hF I2.ok.mod.kin J (looks_tuple ho hc) B2 run
/-! y in x by an own __contains__ that never raises -/
def rInI (C : Addr) (sp : Sp) (E : XK) : R2 := fun y x H Q => ∃ a dx fs, x = .ref a ∧ H a = some (.ins C dx fs) ∧ sp [x, y] H (fun z H' => ∃ b, z = .bl b ∧ Q (.bl b) H') E
theorem op_inI {E : XK} (hs : PySem.W.findIn X.K (.ref C) "__contains__" = some (some (.ref g))) (hf : PySem.W.isFn X.K (.ref g) = true) (F : FnOk X.prog X.w X.K X.mg X.base CX k g fd ps sp) (hr : Room k X.A) (hb : Binds X.K fd ps []) (hx : Passes CX X E) :
    OpR X (compareOp .In) (rInI C sp E) := by
  intro pins s σ H y x u v Q I ry rx h
  obtain ⟨a, dx, fs, rfl, ha, q⟩ := h
  cases (show v = Value.ref a from rx)
  obtain ⟨mA, O, _⟩ := ins_get I.hok ha
  obtain ⟨od, J, _⟩ := O.look
  obtain ⟨m, hF⟩ := I.fr
  refine PySem.W.in_K hF I.ok.mod.kin J hs hf ?_
  refine wpAny_mono (run_fn (us := [.ref a, u]) (vs := [.ref a, y]) F hr hb .nil hx I (.cons rfl (.cons ry .nil)) (by rw [List.append_nil]; exact q)) (fun w s1 z => ?_) fun _ _ z => z
  obtain ⟨z1, H1, I1, rz, b, rfl, qz⟩ := z
  cases (show w = Value.bool b from rz)
  exact wpAny_truthy_bool ⟨.bl b, H1, I1, rfl, qz⟩
/-! x[y] by an own __getitem__ that may raise, in a try -/
def tIxI (C : Addr) (sp : Sp) (E : L2.St → XK) (ta tb : TE) : TE := fun σ H Q => ta σ H fun x H1 => tb σ H1 fun y H2 => ∃ a dx fs, x = .ref a ∧ H2 a = some (.ins C dx fs) ∧ sp [x, y] H2 Q (E σ)
theorem pe_ixI (hs : PySem.W.findIn X.K (.ref C) "__getitem__" = some (some (.ref g))) (hn : PySem.W.fnIn X.K g = true) (hi : PySem.W.isFn X.K (.ref g) = true) (F : FnR X.prog X.w X.K X.mg X.base CX k g sp) (hr : Room (k + 1) X.A) (hx : ∀ σ, PassesAt CX X σ (E σ)) (he : PE X e ta) (hf : PE X f tb)
    (hsl : ∀ o i, subscripted f true o i = runValue (.builtin "lifetime.subscript" ⟨[o, i], []⟩)) : PE X (.Subscript e f pos) (tIxI C sp E ta tb) := by
  refine ⟨fun pins s σ H Q I h => ?_⟩
  refine Subscript_ (binT he hf (R := fun x y H2 => ∃ a dx fs, x = .ref a ∧ H2 a = some (.ins C dx fs) ∧ sp [x, y] H2 Q (E σ)) I h fun v u s2 x y H2 I2 rx ry q => ?_)
  obtain ⟨a, dx, fs, rfl, ha, q⟩ := q
  cases (show v = Value.ref a from rx)
  obtain ⟨mA, O, _⟩ := ins_get I2.hok ha
  obtain ⟨od, J, _⟩ := O.look
  obtain ⟨m, hF⟩ := I2.fr
  have hr1 : Room k X.A.in1 := Room.in1 hr
  refine PySem.W.sub_K hF I2.ok.mod.kin J hs hn hi (wpAny_call (codeAny_mono (F X.A.in1 X.stack s2 H2 [.ref a, u] [.ref a, y] Q (E σ) hr1 I2.env0.in1 (.cons rfl (.cons ry .nil)) q) fun r s' z => ?_)) (hsl _ _)
  match r, z with
  | .error e, z => exact hx σ pins H2 s2 e s' I2 z
  | .ok (.ret u), z => exact I2.after z
  | .ok .next, z => exact z.elim
  | .ok .brk, z => exact z.elim
  | .ok .cont, z => exact z.elim
end
end Vk
set_option Elab.async false
set_option linter.all false
set_option maxRecDepth 100000
set_option maxHeartbeats 4000000
namespace NSet
open PySem PySem.Spec PyProof.Rows L2
/-! X28: sets of tuples of whole numbers and texts -/
/-- a cell of a tuple: a number or a text -/
abbrev Cell := Int ⊕ Str
def cell : Cell → NestedKey
  | .inl i => .num i
  | .inr x => .text x
def nk (k : List Cell) : NestedKey := .tup (k.map cell)
theorem cell_inj {a b : Cell} (h : cell a = cell b) : a = b := by
  cases a <;> cases b <;> simp only [cell, NestedKey.num.injEq, NestedKey.text.injEq, reduceCtorEq] at h <;> rw [h]
theorem nk_inj {a b : List Cell} (h : nk a = nk b) : a = b := by
  unfold nk at h
  exact List.map_inj_right (fun _ _ e => cell_inj e) |>.mp (NestedKey.tup.inj h)
theorem depth_cells : ∀ k : List Cell, NestedKey.depthAll (k.map cell) = 0
  | [] => rfl
  | .inl _ :: k => by
    show max 0 (NestedKey.depthAll (k.map cell)) = 0
    rw [depth_cells k]
    rfl
  | .inr _ :: k => by
    show max 0 (NestedKey.depthAll (k.map cell)) = 0
    rw [depth_cells k]
    rfl
theorem depth_nk (k : List Cell) : (nk k).depth ≤ 1 := by
  unfold nk
  simp only [NestedKey.depth, depth_cells]
  omega
/-- the tuple at a has the cells k -/
def At (h : Heap) (k : List Cell) (a : Addr) : Prop := NestedIs h (nk k) (.ref a)
theorem At.obj {h : Heap} {k : List Cell} {a : Addr} (x : At h k a) : ∃ (o : Obj) (vs : Array Value) (n : Nat), h.get? a = some o ∧ o.cls = .type "tuple" ∧ o.data = .seq vs n ∧ NestedAll h (k.map cell) vs.toList := by
  unfold At nk at x
  cases x with
  | tup h1 h2 h3 h4 => exact ⟨_, _, _, h1, h2, h3, h4⟩
theorem At.one {h : Heap} {k k' : List Cell} {a : Addr} (x : At h k a) (y : At h k' a) : k = k' := nk_inj (NestedIs.inj _ _ _ x y)
theorem At.on {h h' : Heap} {k : List Cell} {a : Addr} (x : At h k a) (hk : ∀ b o vs n, h.get? b = some o → o.data = .seq vs n → h'.get? b = some o) : At h' k a := NestedIs.at hk _ _ x
theorem At.wide {h h' : Heap} {k : List Cell} {a : Addr} (x : At h k a) (hk : ∀ b o, h.get? b = some o → h'.get? b = some o) : At h' k a := x.on fun b o _ _ e _ => hk b o e
theorem At.past {h h' : Heap} {k : List Cell} {a d : Addr} {o : Obj} {es : Array (Int × Value)} {ep : Nat} {t : SetTable} (x : At h k a) (ho : h.get? d = some o) (hd : o.data = .set es ep t) (hs : Heap.SameBut d h h') : At h' k a :=
  x.on fun b u vs n e c => (hs.2 b fun z => by
    rw [z, ho] at e
    rw [← Option.some.inj e, hd] at c
    cases c).trans e
/-- what is asked of the cells -/
theorem cells_told {h : Heap} : ∀ {k : List Cell} {vs : List Value}, NestedAll h (k.map cell) vs → ∀ v ∈ vs, (∀ n, ofAClassStatement n v = pure false) ∧ ∃ b, ∀ n, hashByValue n v = pure b
  | [], _, .nil, v, hv => by cases hv
  | c :: k, _, .cons x xs, v, hv => by
    rcases List.mem_cons.mp hv with e | hv
    · subst e
      cases c with
      | inl i =>
        change NestedIs h (.num i) v at x
        cases x with
        | bool _ => exact ⟨fun n => by cases n <;> rfl, true, fun n => by cases n <;> rfl⟩
        | int _ t => exact ⟨fun n => by cases n <;> rfl, true, fun n => by cases n <;> rfl⟩
      | inr y =>
        change NestedIs h (.text y) v at x
        cases x with
        | text _ t => exact ⟨fun n => by cases n <;> rfl, false, fun n => by cases n <;> rfl⟩
    · exact cells_told xs v hv
section
variable {P : Program} {w : World} {A : Around} {E : Value → Shared → Prop} {s : Shared}
theorem At.noClass {k : List Cell} {a : Addr} {Q : Bool → Shared → Prop} (x : At s.heap k a) (h : Q false s) : wpAny (model P w) A (ofAClassStatement 8 (.ref a)) Q E s := by
  obtain ⟨o, vs, n, ho, hc, hd, hv⟩ := x.obj
  have told := cells_told hv
  have hT : s.TypeIs (.ref a) "tuple" := ⟨o, ho, hc⟩
  unfold ofAClassStatement
  refine wpAny_bind (wpAny_typeOf hT ?_)
  have et : (("tuple" : String) == "tuple") = true := by decide
  simp only [et, if_true]
  refine wpAny_bind (wpAny_pure ?_)
  refine wp_if_neg (by decide) ?_
  try refine wpAny_bind (wpAny_pure ?_)
  refine wpAny_bind (wpAny_seqItems ho hd ?_)
  refine wpAny_bind ?_
  show wpAny _ _ (forIn vs _ _) _ _ s
  rw [← Array.forIn_toList]
  refine wpAny_forIn_list _ (fun rest r s' => r.1 = none ∧ s' = s ∧ ∀ v ∈ rest, v ∈ vs.toList) _ ?_ ?_ _ _ ⟨rfl, rfl, fun _ h => h⟩
  · rintro v rest r s' ⟨hr, rfl, hall⟩
    rw [(told v (hall v List.mem_cons_self)).1]
    refine wpAny_bind (wpAny_pure ?_)
    refine wp_if_neg (by decide) ?_
    exact wpAny_pure ⟨rfl, rfl, fun u hu => hall u (List.mem_cons_of_mem _ hu)⟩
  · rintro ⟨r1, r2⟩ s' ⟨hr, rfl, _⟩
    simp only at hr
    subst hr
    exact wpAny_pure h
/-- whether the hash is by value: either answer will do -/
theorem At.byVal {k : List Cell} {a : Addr} {Q : Bool → Shared → Prop} (x : At s.heap k a) (h : ∀ b, Q b s) : wpAny (model P w) A (hashByValue 8 (.ref a)) Q E s := by
  obtain ⟨o, vs, n, ho, hc, hd, hv⟩ := x.obj
  have told := cells_told hv
  have hT : s.TypeIs (.ref a) "tuple" := ⟨o, ho, hc⟩
  unfold hashByValue
  refine wpAny_bind (wpAny_specialOf hT F.slot_tuple_hash.lookup ?_)
  show wpAny _ _ (seqItems? (.ref a) >>= _) _ _ s
  refine wpAny_bind (wpAny_seqItems ho hd ?_)
  refine wpAny_bind ?_
  show wpAny _ _ (forIn vs _ _) _ _ s
  rw [← Array.forIn_toList]
  refine wpAny_forIn_list _ (fun rest r s' => r.1 = none ∧ s' = s ∧ ∀ v ∈ rest, v ∈ vs.toList) _ ?_ ?_ _ _ ⟨rfl, rfl, fun _ h => h⟩
  · rintro v rest r s' ⟨hr, rfl, hall⟩
    obtain ⟨b, hb⟩ := (told v (hall v List.mem_cons_self)).2
    rw [hb]
    refine wpAny_bind (wpAny_pure ?_)
    cases b with
    | true =>
      refine wp_if_neg (by decide) ?_
      exact wpAny_pure ⟨rfl, rfl, fun u hu => hall u (List.mem_cons_of_mem _ hu)⟩
    | false =>
      refine wp_if_pos (by decide) ?_
      exact wpAny_pure (wpAny_pure (h false))
  · rintro ⟨r1, r2⟩ s' ⟨hr, rfl, _⟩
    simp only at hr
    subst hr
    exact wpAny_pure (h true)
theorem At.depth8 {h : Heap} {k : List Cell} {a : Addr} (x : At h k a) : (nestedKind P w).is h (nk k) a := ⟨x, Nat.le_trans (depth_nk k) (by decide)⟩
abbrev hsh (w : World) (k : List Cell) : Int := (nk k).hash w
theorem At.hashed {k : List Cell} {a : Addr} {Q : Int → Shared → Prop} (hu : A.units + 8 < cLine) (x : At s.heap k a) (h : ∀ n, Q (hsh w k) { s with toks := s.toks + n }) : wpAny (model P w) A (PySem.pyHash (.ref a)) Q E s :=
  (nestedKind P w).pyHash hu x.depth8 (h _)
theorem At.equal {k k' : List Cell} {a b : Addr} {Q : Bool → Shared → Prop} (hu : A.units + 8 < cLine) (x : At s.heap k a) (y : At s.heap k' b) (h : Q (decide (k = k')) s) : wpAny (model P w) A (PySem.eqBool (.ref a) (.ref b)) Q E s := by
  refine (nestedKind P w).eqBool hu x.depth8 y.depth8 ?_
  have e : decide (nk k = nk k') = decide (k = k') := by
    by_cases z : k = k'
    · rw [z, decide_eq_true rfl, decide_eq_true rfl]
    · rw [decide_eq_false z, decide_eq_false fun q => z (nk_inj q)]
  rw [e]
  exact h
theorem At.still {k : List Cell} {a : Addr} {Q : Bool → Shared → Prop} (x : At s.heap k a) (h : Q true s) : wpAny (model P w) A (eqIsQuiet 8 (.ref a)) Q E s := (nestedKind P w).quiet x.depth8 h
/-- the search shows nothing -/
theorem unseen {k : List Cell} {a : Addr} {Q : Bool → Shared → Prop} (x : At s.heap k a) {ys : List Value} (hy : ∀ y ∈ ys, ∃ k' c, y = Value.ref c ∧ At s.heap k' c) (h : Q false s) : wpAny (model P w) A (searchCouldBeSeen (.ref a) ys) Q E s := by
  unfold searchCouldBeSeen
  refine wpAny_bind (wpAny_forIn_list _ (fun rest r s' => r.1 = none ∧ s' = s ∧ ∀ y ∈ rest, y ∈ ys) _ (fun v rest r s' hI => ?_) (fun r s' hI => ?_) _ _ ⟨rfl, rfl, fun _ h => h⟩)
  · obtain ⟨hr, rfl, hall⟩ := hI
    obtain ⟨k', c, rfl, hc⟩ := hy v (hall v List.mem_cons_self)
    have rest' : ∀ y ∈ rest, y ∈ ys := fun u hu => hall u (List.mem_cons_of_mem _ hu)
    dsimp only
    by_cases hv : (a == c || (carriedByValue (.ref a) && carriedByValue (.ref c))) = true
    · exact wp_if_pos hv (wpAny_pure ⟨rfl, rfl, rest'⟩)
    refine wp_if_neg hv (wpAny_bind (x.still ?_))
    refine wp_if_neg (by decide) (wpAny_bind (hc.still ?_))
    refine wp_if_neg (by decide) (wpAny_bind (x.noClass ?_))
    refine wp_if_neg (by decide) (wpAny_bind (hc.noClass ?_))
    exact wp_if_neg (by decide) (wpAny_pure ⟨rfl, rfl, rest'⟩)
  · obtain ⟨r1, r2⟩ := r
    obtain ⟨hr, rfl, _⟩ := hI
    simp only at hr
    subst hr
    exact wpAny_pure h
end
end NSet
set_option Elab.async false
set_option linter.all false
set_option maxRecDepth 100000
set_option maxHeartbeats 4000000
namespace NSet
open PySem PySem.Spec PyProof.Rows L2
/-! X29: the search of a set of such tuples -/
/-- where a search stands after c steps -/
abbrev St (t : SetTable) (h : Int) (c : Nat) : SetTable.Probe := nth t.mask (runAt t.mask (SetTable.bits h % (t.mask + 1)) (SetTable.bits h)) c
theorem nth_dummy (m : Nat) : ∀ (n : Nat) (p : SetTable.Probe), p.dummy = none → (nth m p n).dummy = none
  | 0, _, h => h
  | n + 1, p, h => nth_dummy m n _ (by
    unfold adv
    split <;> exact h)
/-- what a probe from the c-th step on tells, by the way's own count -/
theorem probe_from {t : SetTable} {hs : List Int} (T : TabOk t hs) (h : Int) (hat : Nat → Int) {K c : Nat} (hf : K < 10 * SetTable.turns t.mask) (hK : way t.mask h K ∉ t.place.toList) (hb : ∀ e, e < K → way t.mask h e ∈ t.place.toList) (hc : c ≤ K) :
    (∃ e i, c ≤ e ∧ e < K ∧ t.place.toList[i]? = some (way t.mask h e) ∧ hat i = h ∧ (∀ e' i', c ≤ e' → e' < e → t.place.toList[i']? = some (way t.mask h e') → hat i' ≠ h) ∧
      t.probe hat h (St t h c) = some (.candidate (way t.mask h e) i (St t h (e + 1)))) ∨
    ((∀ e' i', c ≤ e' → e' < K → t.place.toList[i']? = some (way t.mask h e') → hat i' ≠ h) ∧ t.probe hat h (St t h c) = some (.empty (way t.mask h K) none)) := by
  have go : ∀ q, nth t.mask (St t h c) q = St t h (c + q) := fun q => (nth_add t.mask c _ q).symm
  have goj : ∀ q, (nth t.mask (St t h c) q).j = way t.mask h (c + q) := fun q => congrArg SetTable.Probe.j (go q)
  have back : c + (K - c) = K := by omega
  rcases go_spec t T.ris T.dm hat h (10 * SetTable.turns t.mask) (K - c) (St t h c) (nth_dummy _ _ _ rfl) (by omega) (fun q hq => goj q ▸ hb _ (by omega)) (by rw [goj, back]; exact hK) with ⟨q, i, h1, h2, h3, h4, h5⟩ | ⟨h4, h5⟩
  · rw [goj] at h2
    refine .inl ⟨c + q, i, by omega, by omega, h2, h3, fun e' i' a1 a2 a3 => h4 (e' - c) i' (by omega) (by rw [goj, show c + (e' - c) = e' by omega]; exact a3), ?_⟩
    rw [goj, go, ← Nat.add_assoc] at h5
    exact h5
  · refine .inr ⟨fun e' i' a1 a2 a3 => h4 (e' - c) i' (by omega) (by rw [goj, show c + (e' - c) = e' by omega]; exact a3), ?_⟩
    rw [goj, back] at h5
    exact h5
/-- the set at a holds the tuples L -/
structure Tups (w : World) (h : Heap) (a : Addr) (L : List (Addr × List Cell)) (es : Array (Int × Value)) (ep : Nat) (t : SetTable) : Prop where
  obj : ∃ o, h.get? a = some o ∧ o.ExactSet ∧ o.data = .set es ep t
  row : es.toList = L.map fun p => (hsh w p.2, Value.ref p.1)
  tab : TabOk t (L.map fun p => hsh w p.2)
  dif : (L.map (·.2)).Nodup
  tup : ∀ p ∈ L, At h p.2 p.1
  led : w.params.followText "set-order" = true ∨ t.led = true
  gap : L.length * 5 < t.mask * 3
  few : L.length < 64
section
variable {P : Program} {w : World} {A : Around} {E : Value → Shared → Prop} {s : Shared} {a : Addr} {L : List (Addr × List Cell)} {es : Array (Int × Value)} {ep : Nat} {t : SetTable}
theorem Tups.count {h : Heap} (R : Tups w h a L es ep t) : es.size = L.length := by rw [← Array.length_toList, R.row, List.length_map]
theorem Tups.places {h : Heap} (R : Tups w h a L es ep t) : t.place.size = L.length := by rw [R.tab.sz, List.length_map]
theorem Tups.fit {h : Heap} (R : Tups w h a L es ep t) : t.fits es.size = true := by
  have h1 := R.places
  have h2 := R.count
  have h3 := R.gap
  unfold SetTable.fits SetTable.fill
  rw [R.tab.dm, Bool.and_eq_true, beq_iff_eq, decide_eq_true_eq]
  show t.place.size = es.size ∧ t.place.size + 0 ≤ t.mask
  omega
theorem Tups.cell {h : Heap} (R : Tups w h a L es ep t) {i : Nat} {p : Addr × List Cell} (hp : L[i]? = some p) : es[i]? = some (hsh w p.2, Value.ref p.1) := by
  rw [← Array.getElem?_toList, R.row, List.getElem?_map, hp]
  rfl
theorem Tups.kept {h : Heap} (R : Tups w h a L es ep t) : ¬ t.gaveWay = true := by
  unfold SetTable.gaveWay
  rw [mask_odd R.tab.mok]
  decide
theorem seek (R : Tups w s.heap a L es ep t) {x : Addr} {k : List Cell} (hx : At s.heap k x) (hu : A.units + 8 < cLine) {K : Nat} (hf : K < 10 * SetTable.turns t.mask) (hK : way t.mask (hsh w k) K ∉ t.place.toList) (hb : ∀ c, c < K → way t.mask (hsh w k) c ∈ t.place.toList)
    {Q : SetFound → Shared → Prop} (yes : k ∈ L.map (·.2) → Q (.there none) s) (no : k ∉ L.map (·.2) → Q (.free (way t.mask (hsh w k) K) false) s) :
    ∀ (f c : Nat) (stand : Option SetTable.Probe), stand.getD (t.probeStart (hsh w k)) = St t (hsh w k) c → c ≤ K → K - c < f →
      (∀ (i : Nat) p, L[i]? = some p → p.2 = k → ∃ e, c ≤ e ∧ e < K ∧ t.place.toList[i]? = some (way t.mask (hsh w k) e)) → wpAny (model P w) A (setSearchFrom a (.ref x) (hsh w k) true f stand) Q E s := by
  intro f
  induction f with
  | zero => intro c stand _ _ hlt; exact absurd hlt (Nat.not_lt_zero _)
  | succ f ih =>
    intro c stand hst hc hlt hre
    obtain ⟨o, ho, hex, hd⟩ := R.obj
    have hat : ∀ (i : Nat) p, L[i]? = some p → (fun i => (es[i]?.map (·.1)).getD 0) i = hsh w p.2 := fun i p hp => by
      show (es[i]?.map (·.1)).getD 0 = _
      rw [R.cell hp]
      rfl
    rw [setSearchFrom_succ]
    refine wpAny_bind (wpAny_setState_of ho hd R.fit ?_)
    dsimp only
    refine wp_if_neg R.kept ?_
    try refine wpAny_bind (wpAny_pure ?_)
    rw [hst]
    rcases probe_from R.tab (hsh w k) (fun i => (es[i]?.map (·.1)).getD 0) hf hK hb hc with ⟨e, i, h1, h2, h3, h4, h5, h6⟩ | ⟨h5, h6⟩
    · rw [h6]
      dsimp only
      have hi : i < L.length := by
        have := (List.getElem?_eq_some_iff.mp h3).1
        rw [Array.length_toList, R.places] at this
        exact this
      obtain ⟨p, hp⟩ : ∃ p, L[i]? = some p := ⟨_, List.getElem?_eq_getElem hi⟩
      have hm := List.mem_of_getElem? hp
      have live : t.slot (way t.mask (hsh w k) e) = .live i := slot_live R.tab.ris h3
      have on : wpAny (model P w) A (searchRest a (.ref x) (hsh w k) true f es t (way t.mask (hsh w k) e) i (St t (hsh w k) (e + 1))) Q E s := by
        unfold searchRest
        rw [R.cell hp]
        dsimp only
        refine wpAny_bind (wpAny_holding ((R.tup p hm).equal hu hx ?_))
        refine wpAny_bind (wpAny_setState_of ho hd R.fit ?_)
        dsimp only
        by_cases same : p.2 = k
        · exact wp_if_pos (by simp [same]) (wpAny_pure (yes (List.mem_map.mpr ⟨p, hm, same⟩)))
        · refine wp_if_neg (by simp [same]) ?_
          try refine wpAny_bind (wpAny_pure ?_)
          rw [sameMem]
          dsimp only
          simp only [if_true, live, R.cell hp]
          refine wpAny_bind (wpAny_isSame_ref_self (wpAny_bind (wpAny_pure ?_)))
          simp only [if_true]
          refine wp_if_neg (by simp [same]) (ih (e + 1) _ rfl (by omega) (by omega) fun i0 p0 g0 gk => ?_)
          obtain ⟨e0, a1, a2, a3⟩ := hre i0 p0 g0 gk
          refine ⟨e0, Nat.lt_of_le_of_ne (Nat.le_of_not_lt fun z => h5 e0 i0 a1 z a3 ((hat i0 p0 g0).trans (congrArg (hsh w) gk))) (fun z => ?_), a2, a3⟩
          rw [← z] at a3
          have l2 := slot_live R.tab.ris a3
          rw [live] at l2
          injection l2 with l2
          rw [← l2, hp] at g0
          exact same ((congrArg Prod.snd (Option.some.inj g0)).trans gk)
      by_cases hl : t.led = true
      · refine wp_if_neg (by simp [hl]) ?_
        try refine wpAny_bind (wpAny_pure ?_)
        exact on
      · refine wp_if_pos (by simp [hl]) (wpAny_bind (unseen hx (fun y hy => ?_) ?_))
        · obtain ⟨u, hu1, rfl⟩ := List.mem_map.mp hy
          have hu2 : u ∈ es.toList := by
            have : u ∈ es ∧ u.1 = hsh w k := by simpa using hu1
            simpa using this.1
          rw [R.row] at hu2
          obtain ⟨q, hq, rfl⟩ := List.mem_map.mp hu2
          exact ⟨q.2, q.1, rfl, R.tup q hq⟩
        · refine wp_if_neg (by decide) ?_
          try refine wpAny_bind (wpAny_pure ?_)
          exact on
    · rw [h6]
      dsimp only
      refine wpAny_pure (no fun hm => ?_)
      obtain ⟨p0, g0, gk⟩ := List.mem_map.mp hm
      obtain ⟨i0, hi0, ei⟩ := List.getElem_of_mem g0
      have g1 : L[i0]? = some p0 := by rw [List.getElem?_eq_getElem hi0, ei]
      obtain ⟨e0, a1, a2, a3⟩ := hre i0 p0 g1 gk
      exact h5 e0 i0 a1 a2 a3 ((hat i0 p0 g1).trans (congrArg (hsh w) gk))
end
end NSet
set_option Elab.async false
set_option linter.all false
set_option maxRecDepth 100000
set_option maxHeartbeats 4000000
namespace NSet
open PySem PySem.Spec PyProof.Rows L2
/-! X30: laying anew, adding -/
theorem all_of {α : Type} : ∀ L : List α, (List.range L.length).filterMap (fun i => L[i]?) = L
  | [] => rfl
  | x :: L => by
    rw [List.length_cons, List.range_succ_eq_map, List.filterMap_cons]
    show x :: _ = _
    rw [List.filterMap_map]
    exact congrArg (x :: ·) (all_of L)
theorem drawn_map {α β : Type} (L : List α) (f : α → β) (d : β) : ∀ l : List Nat, (∀ i ∈ l, i < L.length) → (l.filterMap fun i => L[i]?).map f = l.map fun i => ((L.map f)[i]?).getD d
  | [], _ => rfl
  | i :: l, h => by
    have hi := h i List.mem_cons_self
    have e : L[i]? = some L[i] := List.getElem?_eq_getElem hi
    rw [List.filterMap_cons, e]
    show f L[i] :: _ = _
    rw [List.map_cons, List.getElem?_map, e, drawn_map L f d l fun j hj => h j (List.mem_cons_of_mem _ hj)]
    rfl
theorem ordered {w : World} {L : List (Addr × List Cell)} {es : Array (Int × Value)} {order : Array Nat} (row : es.toList = L.map fun p => (hsh w p.2, Value.ref p.1)) (hp : order.toList.Perm (List.range L.length)) :
    ∃ L2 : List (Addr × List Cell), (order.filterMap (es[·]?)).toList = L2.map (fun p => (hsh w p.2, Value.ref p.1)) ∧ L2.Perm L ∧ L2.map (fun p => hsh w p.2) = order.toList.map fun i => (es.map (·.1)).getD i 0 := by
  have hb : ∀ i ∈ order.toList, i < L.length := fun i hi => List.mem_range.mp (hp.mem_iff.mp hi)
  refine ⟨order.toList.filterMap fun i => L[i]?, ?_, ?_, ?_⟩
  · rw [Array.toList_filterMap, List.map_filterMap]
    refine congrArg (fun g => List.filterMap g order.toList) (funext fun i => ?_)
    rw [← Array.getElem?_toList, row, List.getElem?_map]
  · have := hp.filterMap fun i => L[i]?
    rwa [all_of] at this
  · rw [drawn_map L (fun p => hsh w p.2) 0 _ hb]
    refine List.map_congr_left fun i hi => ?_
    have hl := hb i hi
    have e : L[i]? = some L[i] := List.getElem?_eq_getElem hl
    have e2 : (es.map (·.1))[i]? = some (hsh w L[i].2) := by
      rw [← Array.getElem?_toList, Array.toList_map, row, List.map_map, List.getElem?_map, e]
      rfl
    rw [List.getElem?_map, e, Array.getD_eq_getD_getElem?, e2]
    rfl
section
variable {P : Program} {w : World} {A : Around} {E : Value → Shared → Prop} {s : Shared} {a : Addr} {L : List (Addr × List Cell)} {es : Array (Int × Value)} {ep : Nat} {t : SetTable}
theorem relay {o : Obj} (ho : s.heap.get? a = some o) (hex : o.ExactSet) (hd : o.data = .set es ep t) (row : es.toList = L.map fun p => (hsh w p.2, Value.ref p.1)) (pl : t.place.size = es.size) (dm : t.dummies = #[]) (le : es.size ≤ t.mask)
    (dif : (L.map (·.2)).Nodup) (tup : ∀ p ∈ L, At s.heap p.2 p.1) (led : w.params.followText "set-order" = true ∨ t.led = true) (few : L.length < 64) {wanted M : Nat} (hw : SetTable.sizeAbove wanted - 1 = M) (hM : MaskOk M) (hw2 : SetTable.sizeAbove wanted ≤ 128)
    (hn : L.length * 5 < M * 3) {Q : Unit → Shared → Prop} (hQ : ∀ h' L' es' ep' t', Heap.SameBut a s.heap h' → Tups w h' a L' es' ep' t' → L'.Perm L → Q () { s with heap := h' }) : wpAny (model P w) A (setRelay a wanted) Q E s := by
  have cnt : es.size = L.length := by rw [← Array.length_toList, row, List.length_map]
  have fit : t.fits es.size = true := by
    unfold SetTable.fits SetTable.fill
    rw [dm, Bool.and_eq_true, beq_iff_eq, decide_eq_true_eq]
    show t.place.size = es.size ∧ t.place.size + 0 ≤ t.mask
    omega
  obtain ⟨t', order, re, hp, T, em, el, _, _⟩ := relaid_ok t (hs := es.map (·.1)) (wanted := wanted) hw hM (by rw [Array.size_map]; omega)
  rw [Array.size_map, cnt] at hp
  obtain ⟨L2, r1, r2, r3⟩ := ordered row hp
  rw [← r3] at T
  have cnt2 : (order.filterMap (es[·]?)).size = L.length := by rw [← Array.length_toList, r1, List.length_map, r2.length_eq]
  have sb : Heap.SameBut a s.heap (s.heap.update a (Obj.putSet (order.filterMap (es[·]?)) t')) := Heap.SameBut.update ..
  rw [setRelay_eq]
  refine wpAny_bind (wpAny_setState_of ho hd fit ?_)
  dsimp only
  refine wp_if_neg (by rw [sizeLine_eq]; omega) ?_
  try refine wpAny_bind (wpAny_pure ?_)
  rw [re]
  dsimp only
  refine wpAny_bind (wp_if_neg (by rw [cnt2, cnt]; simp) ?_)
  try refine wpAny_bind (wpAny_pure ?_)
  refine wpAny_pure ?_
  dsimp only
  refine wpAny_storeSet_of ho hd (hQ _ L2 (order.filterMap (es[·]?)) (ep + 1) t' sb ?_ r2) (by rw [cnt2, sizeLine_eq]; omega)
  exact { obj := ⟨_, store_at ho hd, ⟨hex.1, hex.2.1, hex.2.2⟩, rfl⟩, row := r1, tab := T, dif := (r2.map (·.2)).nodup_iff.mpr dif, tup := fun p hm => (tup p (r2.mem_iff.mp hm)).past ho hd sb, led := by rw [el]; exact led, gap := by rw [r2.length_eq, em]; exact hn, few := by rw [r2.length_eq]; exact few }
theorem asked {t : SetTable} {k : List Cell} {x : Addr} (hx : At s.heap k x) {F : Bool → Sem Bool} {Q : Bool → Shared → Prop} (h : ∀ b, wpAny (model P w) A (F b) Q E s) : wpAny (model P w) A (if t.plain = true then hashByValue 8 (.ref x) >>= F else pure true >>= F) Q E s := by
  by_cases hp : t.plain = true
  · exact wp_if_pos hp (wpAny_bind (hx.byVal h))
  · exact wp_if_neg hp (wpAny_bind (wpAny_pure (h true)))
theorem put_in (R : Tups w s.heap a L es ep t) {x : Addr} {k : List Cell} (hx : At s.heap k x) (hu : A.units + 8 < cLine) (more : L.length + 1 < 64) {Q : Bool → Shared → Prop}
    (hQ : ∀ b h' L' es' ep' t', Heap.SameBut a s.heap h' → Tups w h' a L' es' ep' t' → (k ∈ L.map (·.2) → L' = L) → (k ∉ L.map (·.2) → L'.Perm ((x, k) :: L)) → Q b { s with heap := h' }) :
    wpAny (model P w) A (setAddHashed a (.ref x) (hsh w k)) Q E s := by
  obtain ⟨o, ho, hex, hd⟩ := R.obj
  have cnt := R.count
  have gap := R.gap
  obtain ⟨K, hf, hK, hb⟩ := R.tab.first (by rw [List.length_map]; omega) (hsh w k)
  have big : K < 100000 := by
    have : 10 * SetTable.turns t.mask ≤ 1420 := by
      unfold SetTable.turns
      rcases R.tab.mok with e | e | e <;> omega
    omega
  have pass : ∀ (i : Nat) p, L[i]? = some p → p.2 = k → ∃ e, 0 ≤ e ∧ e < K ∧ t.place.toList[i]? = some (way t.mask (hsh w k) e) := fun i p hp hk => by
    have h1 : (L.map fun p => hsh w p.2)[i]? = some (hsh w k) := by rw [List.getElem?_map, hp, ← hk]; rfl
    have h2 : i < t.place.toList.length := by
      rw [Array.length_toList, R.places]
      exact (List.getElem?_eq_some_iff.mp hp).1
    obtain ⟨e, he, ee⟩ := R.tab.before hK h1 (List.getElem?_eq_getElem h2)
    exact ⟨e, Nat.zero_le _, he, by rw [List.getElem?_eq_getElem h2, ee]⟩
  unfold setAddHashed
  refine wpAny_holding ?_
  rw [show (100000 : Nat) = 99999 + 1 from rfl, setAddHashedIn_succ]
  refine wpAny_bind (wpAny_setState_of ho hd R.fit ?_)
  dsimp only
  refine wp_if_neg (by simp [byScan, Value.scannable]) ?_
  try refine wpAny_bind (wpAny_pure ?_)
  refine wpAny_bind ?_
  unfold setSearch
  refine seek R hx hu hf hK hb (fun hm => ?_) (fun hm => ?_) 100000 0 none rfl (Nat.zero_le _) (by omega) pass
  · dsimp only
    exact wpAny_pure (hQ false s.heap L es ep t (Heap.SameBut.refl a s.heap) R (fun _ => rfl) fun z => absurd hm z)
  dsimp only
  refine wpAny_bind (wpAny_setState_of ho hd R.fit ?_)
  dsimp only
  obtain ⟨q1, q2, q3, q4, q5, _, _, _, q9⟩ := R.tab.put hK hb
  generalize hpt : t.put (way t.mask (hsh w k) K) = pt at q1 q3 q4 q5 q9 ⊢
  obtain ⟨t1, p⟩ := pt
  dsimp only at q1 q3 q4 q5 q9 ⊢
  refine asked (t := t1) hx fun bv => ?_
  have two : (if bv = true then t1 else { t1 with plain := false }) = t1 ∨ (if bv = true then t1 else { t1 with plain := false }) = { t1 with plain := false } := by
    cases bv
    · exact .inr rfl
    · exact .inl rfl
  generalize (if bv = true then t1 else { t1 with plain := false }) = t2 at two ⊢
  have T2 : TabOk t2 ((L.map fun p => hsh w p.2).take (SetTable.below t.place (way t.mask (hsh w k) K)) ++ hsh w k :: (L.map fun p => hsh w p.2).drop (SetTable.below t.place (way t.mask (hsh w k) K))) := by
    rcases two with e | e
    · rw [e]; exact q3
    · rw [e]; exact ⟨q3.ris, q3.dm, q3.sz, q3.mok, q3.bd, q3.reach⟩
  have m2 : t2.mask = t.mask := by rcases two with e | e <;> rw [e] <;> exact q4
  have l2 : t2.led = t.led := by rcases two with e | e <;> rw [e] <;> exact q5
  have f2 : t2.fill = (L.map fun p => hsh w p.2).length + 1 := by rcases two with e | e <;> rw [e] <;> exact q9
  clear two q3 q4 q5 q9 hpt
  subst q1
  generalize SetTable.below t.place (way t.mask (hsh w k) K) = p at q2 T2 ⊢
  rw [List.length_map] at q2 f2
  have row1 : (SetTable.insertAt es p (hsh w k, Value.ref x)).toList = (L.take p ++ (x, k) :: L.drop p).map fun p => (hsh w p.2, Value.ref p.1) := by
    rw [SetTable.toList_insertAt, R.row, List.map_append, List.map_cons, List.map_take, List.map_drop]
  have eT : (L.take p ++ (x, k) :: L.drop p).map (fun p => hsh w p.2) = (L.map fun p => hsh w p.2).take p ++ hsh w k :: (L.map fun p => hsh w p.2).drop p := by
    rw [List.map_append, List.map_cons, List.map_take, List.map_drop]
  rw [← eT] at T2
  have pm : (L.take p ++ (x, k) :: L.drop p).Perm ((x, k) :: L) := put_perm L p (x, k)
  have cnt1 : (SetTable.insertAt es p (hsh w k, Value.ref x)).size = L.length + 1 := by rw [← Array.length_toList, row1, List.length_map, pm.length_eq, List.length_cons]
  generalize SetTable.insertAt es p (hsh w k, Value.ref x) = es1 at row1 cnt1 ⊢
  generalize L.take p ++ (x, k) :: L.drop p = L1 at pm T2 row1
  have len1 : L1.length = L.length + 1 := pm.length_eq
  have sb : Heap.SameBut a s.heap (s.heap.update a (Obj.putSet es1 t2)) := Heap.SameBut.update ..
  have ho1 := store_at (es' := es1) (t' := t2) ho hd
  refine wpAny_bind (wpAny_storeSet_of ho hd ?_ (by rw [cnt1, sizeLine_eq]; omega))
  generalize s.heap.update a (Obj.putSet es1 t2) = h1 at sb ho1 ⊢
  have dif1 : (L1.map (·.2)).Nodup := (pm.map (·.2)).nodup_iff.mpr (List.nodup_cons.mpr ⟨hm, R.dif⟩)
  have tup1 : ∀ q ∈ L1, At h1 q.2 q.1 := fun q hq => by
    rcases List.mem_cons.mp (pm.mem_iff.mp hq) with e | hq
    · rw [e]; exact hx.past ho hd sb
    · exact (R.tup q hq).past ho hd sb
  have led1 : w.params.followText "set-order" = true ∨ t2.led = true := by rw [l2]; exact R.led
  have pl1 : t2.place.size = es1.size := by rw [T2.sz, List.length_map, len1, cnt1]
  by_cases full : t2.tooFull = true
  · refine wp_if_pos (by simp [full]) (wpAny_bind ?_)
    have lim : (L.length + 1) * 5 ≥ t.mask * 3 := by
      unfold SetTable.tooFull at full
      rw [decide_eq_true_eq, f2, m2] at full
      exact full
    have go : ∀ M, SetTable.sizeAbove (SetTable.grown (L.length + 1)) - 1 = M → MaskOk M → SetTable.sizeAbove (SetTable.grown (L.length + 1)) ≤ 128 → (L.length + 1) * 5 < M * 3 →
        wpAny (model P w) A (setRelay a (SetTable.grown (es.size + 1))) (fun _ s' => wpAny (model P w) A (pure true) Q E s') E { s with heap := h1 } := fun M g1 g2 g3 g4 => by
      rw [cnt]
      exact relay (s := { s with heap := h1 }) ho1 ⟨hex.1, hex.2.1, hex.2.2⟩ rfl row1 pl1 T2.dm (by rw [cnt1, m2]; omega) dif1 tup1 led1 (by rw [len1]; exact more) g1 g2 g3 (by rw [len1]; exact g4)
        fun h2 L2 es2 ep2 t3 sb2 R2 pm2 => wpAny_pure (hQ true h2 L2 es2 ep2 t3 (sb.trans sb2) R2 (fun z => absurd z hm) fun _ => pm2.trans pm)
    rcases R.tab.mok with e | e | e
    · have l4 : L.length = 4 := by omega
      exact go 31 (by rw [l4, size_20]) (.inr (.inl rfl)) (by rw [l4, size_20]; decide) (by omega)
    · have l18 : L.length = 18 := by omega
      exact go 127 (by rw [l18, size_76]) (.inr (.inr rfl)) (by rw [l18, size_76]; decide) (by omega)
    · omega
  · refine wp_if_neg (by simp [full]) (wpAny_pure (hQ true h1 L1 es1 (ep + 1) t2 sb ?_ (fun z => absurd z hm) fun _ => pm))
    have lim : ¬ (L.length + 1) * 5 ≥ t.mask * 3 := fun z => full (by
      unfold SetTable.tooFull
      rw [decide_eq_true_eq, f2, m2]
      exact z)
    exact { obj := ⟨_, ho1, ⟨hex.1, hex.2.1, hex.2.2⟩, rfl⟩, row := row1, tab := T2, dif := dif1, tup := tup1, led := led1, gap := by rw [len1, m2]; omega, few := by rw [len1]; exact more }
end
end NSet
set_option Elab.async false
set_option linter.all false
set_option maxRecDepth 100000
set_option maxHeartbeats 4000000
namespace NSet
open PySem PySem.Spec PyProof.Rows L2
/-! X31: a set filled from a walk -/
/-- L is what a set has of the first i of ks -/
structure Part (ks : List (Addr × List Cell)) (i : Nat) (L : List (Addr × List Cell)) : Prop where
  inn : ∀ p ∈ L, p ∈ ks.take i
  cov : ∀ p ∈ ks.take i, p.2 ∈ L.map (·.2)
  len : L.length ≤ i
theorem Part.next {ks L L' : List (Addr × List Cell)} {i : Nat} {x : Addr × List Cell} (g : Part ks i L) (hx : ks[i]? = some x) (c1 : x.2 ∈ L.map (·.2) → L' = L) (c2 : x.2 ∉ L.map (·.2) → L'.Perm (x :: L)) : Part ks (i + 1) L' := by
  have e : ks.take (i + 1) = ks.take i ++ [x] := take_next hx
  by_cases c : x.2 ∈ L.map (·.2)
  · rw [c1 c]
    refine ⟨fun p hp => by rw [e]; exact List.mem_append_left _ (g.inn p hp), fun p hp => ?_, Nat.le_succ_of_le g.len⟩
    rw [e] at hp
    rcases List.mem_append.mp hp with z | z
    · exact g.cov p z
    · rw [List.mem_singleton.mp z]; exact c
  · have pm := c2 c
    refine ⟨fun p hp => ?_, fun p hp => ?_, by rw [pm.length_eq, List.length_cons]; exact Nat.succ_le_succ g.len⟩
    · rw [e]
      rcases List.mem_cons.mp (pm.mem_iff.mp hp) with z | z
      · rw [z]; exact List.mem_append_right _ List.mem_cons_self
      · exact List.mem_append_left _ (g.inn p z)
    · rw [(pm.map (·.2)).mem_iff, List.map_cons]
      rw [e] at hp
      rcases List.mem_append.mp hp with z | z
      · exact List.mem_cons_of_mem _ (g.cov p z)
      · rw [List.mem_singleton.mp z]; exact List.mem_cons_self
section
variable {P : Program} {w : World} {A : Around} {E : Value → Shared → Prop} {s : Shared}
theorem Tups.later {h h' : Heap} {a : Addr} {L : List (Addr × List Cell)} {es : Array (Int × Value)} {ep : Nat} {t : SetTable} (R : Tups w h a L es ep t) (ha : ∀ o, h.get? a = some o → h'.get? a = some o) (ht : ∀ p ∈ L, At h' p.2 p.1) : Tups w h' a L es ep t := by
  obtain ⟨o, ho, r⟩ := R.obj
  exact { R with obj := ⟨o, ha o ho, r⟩, tup := ht }
theorem Tups.new {h : Heap} {a : Addr} (ho : h.get? a = some { cls := .type "set", dict := none, data := .set #[] 0 (.fresh 0 0 (!w.params.followText "set-order")) }) : Tups w h a [] #[] 0 (.fresh 0 0 (!w.params.followText "set-order")) where
  obj := ⟨_, ho, ⟨rfl, rfl, rfl⟩, rfl⟩
  row := rfl
  tab := ⟨List.Pairwise.nil, rfl, rfl, .inl rfl, (fun x hx => by cases hx), fun i h j hi => by simp at hi⟩
  dif := List.nodup_nil
  tup := fun p hp => nomatch hp
  led := by
    show _ ∨ (!w.params.followText "set-order") = true
    cases w.params.followText "set-order"
    · exact .inr rfl
    · exact .inl rfl
  gap := by show 0 * 5 < 7 * 3; decide
  few := by show 0 < 64; decide
theorem fill {I : Addr} {fp wr : List Addr} {G : Array GenState → Array GenState → Prop} {n : Nat} {Pv : Nat → Value → Prop} {St : Nat → Shared → Prop} {R : Result → Shared → Prop} (W : WalksS P w A.in1 I fp wr G n Pv St) (S : Addr) (nS : S ∉ fp)
    (ks : List (Addr × List Cell)) (hn : n = ks.length) (bd : ∀ L : List (Addr × List Cell), (L.map (·.2)).Nodup → (∀ p ∈ L, p ∈ ks) → L.length < 63) (hval : ∀ i v, Pv i v → ∃ p, ks[i]? = some p ∧ v = .ref p.1) (h0 : Heap) (hk : ∀ p ∈ ks, At h0 p.2 p.1) (hS0 : h0.get? S = none) (hw0 : ∀ b ∈ wr, h0.get? b = none)
    (hu : A.in1.units + 8 < cLine) : ∀ (j i : Nat) (s : Shared), n - i = j → i ≤ n → St i s → (∀ b o, h0.get? b = some o → s.heap.get? b = some o) → (∃ L es ep t, Tups w s.heap S L es ep t ∧ Part ks i L) →
      (∀ s' L es ep t, Moved (S :: wr) G s s' → Tups w s'.heap S L es ep t → Part ks n L → (∀ b o, h0.get? b = some o → s'.heap.get? b = some o) → R (.ok (.ret .none)) s') → codeAny (model P w) A (.builtin "set.update.loop" ⟨[.ref S, .ref I], []⟩) R s := by
  have nw : S ∉ wr := fun z => nS (W.sub _ z)
  have wide : ∀ b ∈ wr, b ∈ S :: wr := fun b hb => List.mem_cons_of_mem _ hb
  have old : ∀ {s s' : Shared}, Moved wr G s s' → (∀ b o, h0.get? b = some o → s.heap.get? b = some o) → ∀ b o, h0.get? b = some o → s'.heap.get? b = some o := fun m k b o e => m.heap b o (fun z => by rw [hw0 b z] at e; cases e) (k b o e)
  have carry : ∀ {s s' : Shared} {i : Nat} {L es ep t}, Moved wr G s s' → (∀ b o, h0.get? b = some o → s'.heap.get? b = some o) → Part ks i L → Tups w s.heap S L es ep t → Tups w s'.heap S L es ep t := fun m k g R => R.later (fun o e => m.heap S o nw e) fun p hp => (hk p (List.mem_of_mem_take (g.inn p hp))).wide k
  intro j
  induction j with
  | zero =>
    intro i s hj hi hst hkp ⟨L, es, ep, t, hS, g⟩ hR
    obtain rfl : i = n := by omega
    refine codeAny_builtin F.entry_set_update_loop ?_
    rw [Around.under_plainId F.plain_set_update_loop _]
    show wpAny _ A.in1 (pyNext (.ref I) >>= _) _ _ s
    refine wpAny_bind (W.done s _ _ hst fun s' m => ?_)
    have k' := old m hkp
    show wpAny _ A.in1 (ret Value.none) _ _ s'
    exact wpAny_pure (hR s' L es ep t (m.mono wide) (carry m k' g hS) g k')
  | succ j ih =>
    intro i s hj hi hst hkp ⟨L, es, ep, t, hS, g⟩ hR
    have lt : i < n := by omega
    refine codeAny_builtin F.entry_set_update_loop ?_
    rw [Around.under_plainId F.plain_set_update_loop _]
    show wpAny _ A.in1 (pyNext (.ref I) >>= _) _ _ s
    refine wpAny_bind (W.item i s _ _ lt hst fun v s' hP hst' m => ?_)
    obtain ⟨p, hp, rfl⟩ := hval i v hP
    have k' := old m hkp
    have hx : At s'.heap p.2 p.1 := (hk p (List.mem_of_getElem? hp)).wide k'
    have hS' := carry m k' g hS
    show wpAny _ A.in1 (holding [Value.ref p.1] (setAdd S (.ref p.1)) >>= _) _ _ s'
    refine wpAny_bind (wpAny_holding ?_)
    unfold setAdd
    refine wpAny_holding (wpAny_bind (hx.hashed hu fun dn => ?_))
    refine put_in (s := { s' with toks := s'.toks + dn }) hS' hx hu (Nat.succ_lt_succ (bd L hS'.dif fun p hp => List.mem_of_mem_take (g.inn p hp))) fun b h2 L2 es2 ep2 t2 sb R2 c1 c2 => ?_
    have k2 : ∀ b o, h0.get? b = some o → h2.get? b = some o := fun b o e => (sb.2 b fun z => by rw [z, hS0] at e; cases e).trans (k' b o e)
    refine wpAny_pure ⟨plainId_quiet F.plain_set_update_loop _, ih (i + 1) _ (by omega) lt (W.frame _ s' _ _ hst' (Nat.le_add_right _ _) fun b hb o e => ?_) k2 ⟨L2, es2, ep2, t2, R2, g.next hp c1 c2⟩ fun s3 L3 es3 ep3 t3 m3 R3 g3 k3 => ?_⟩
    · rw [sb.2 b fun z : b = S => nS (z ▸ hb)]
      exact e
    · refine hR s3 L3 es3 ep3 t3 (Moved.trans W.gtrans ((m.mono wide).then_heap (Nat.le_add_right _ _) fun b o hb e => ?_) m3) R3 g3 k3
      rw [sb.2 b fun z : b = S => hb (z ▸ List.mem_cons_self)]
      exact e
end
end NSet
set_option Elab.async false
set_option linter.all false
set_option maxRecDepth 100000
set_option maxHeartbeats 4000000
namespace NSet
open PySem PySem.Spec PyProof.Rows L2
/-! X32: set(list of such tuples) -/
section
variable {P : Program} {w : World} {A : Around} {E : Value → Shared → Prop} {s : Shared}
/-- a set just made -/
abbrev blank (w : World) : Obj := { cls := .type "set", dict := none, data := .set #[] 0 (.fresh 0 0 (!w.params.followText "set-order")) }
theorem beyond {h : Heap} {b : Addr} (hb : h.objs.size ≤ b) : h.get? b = none := by
  cases e : h.get? b with
  | none => rfl
  | some o => exact absurd (Heap.lt_size e) (Nat.not_lt.mpr hb)
theorem set_of {l : Addr} {items : Array Value} (ks : List (Addr × List Cell)) {Q : Value → Shared → Prop} (hh : A.handled = none) (hl : s.heap.IsList l items) (hit : items.toList = ks.map fun p => Value.ref p.1) (hk : ∀ p ∈ ks, At s.heap p.2 p.1)
    (bd : ∀ L : List (Addr × List Cell), (L.map (·.2)).Nodup → (∀ p ∈ L, p ∈ ks) → L.length < 63) (hu : A.units + 3 + 8 < cLine)
    (out : ∀ (h' : Heap) (tk : Nat) L es ep t, Tups w h' s.heap.objs.size L es ep t → Part ks ks.length L → (∀ b o, s.heap.get? b = some o → h'.get? b = some o) → Q (.ref s.heap.objs.size) { s with heap := h', toks := tk }) :
    wpAny (model P w) A (call (.type "set") [.ref l]) Q E s := by
  have cnt : items.size = ks.length := by rw [← Array.length_toList, hit, List.length_map]
  obtain ⟨c, tl, hmro⟩ := F.called_set.mro
  have hmade := F.called_set.made
  have hsub := F.called_set.sub
  refine wpAny_call (codeAny_of_tree ?_)
  show wpAny _ _ (callAny (.type "set") _) _ _ _
  refine wpAny_pure ⟨Code.quiet_builtin _ (by decide +kernel), codeAny_builtin F.entry_type_call ?_⟩
  rw [Around.under_plain (weight_type_call_type "set" [.ref l] []) rfl]
  have h1 := F.called_set.notType
  have h2 := F.called_set.canCreate
  have hct := F.typeCall_set_1 (.ref l)
  repeat (any_goals (first | assumption | wp_step))
  refine codeAny_mono (code_set_led1 (.ref l) (E := E) (Q₁ := fun ob s₁ => ob = .ref s.heap.objs.size ∧ s₁ = { s with heap := s.heap.push (blank w) }) ⟨rfl, rfl⟩) fun r s₁ hr => ?_
  match r, hr with
  | .error e, hr => exact hr
  | .ok (.ret ob), hr =>
    obtain ⟨rfl, rfl⟩ := hr
    have hS : (s.heap.push (blank w)).get? s.heap.objs.size = some (blank w) := Heap.get?_push_size _ rfl
    have hT : Shared.TypeIs { s with heap := s.heap.push (blank w) } (.ref s.heap.objs.size) "set" := ⟨_, hS, rfl⟩
    have hli := F.called_set.init.lookup
    have hbi := F.called_set.init.bind (.ref s.heap.objs.size)
    repeat (any_goals (first | assumption | wp_step))
    refine codeAny_mono (codeAny_call_builtin (R := wants (fun r s₂ => r = .none ∧ ∃ h' tk L es ep t, s₂ = { s with heap := h', toks := tk } ∧ Tups w h' s.heap.objs.size L es ep t ∧ Part ks ks.length L ∧ (∀ b o, s.heap.get? b = some o → h'.get? b = some o)) E) F.called_set.init.plain F.entry_set_init (check_set_init_1 hT ?_)) fun r₂ s₂ hr₂ => ?_
    · obtain ⟨ol, hol, hcl, nl, hdl⟩ := hl
      obtain ⟨ocls, odict, odata, oslots⟩ := ol
      simp only at hcl hdl
      subst hcl hdl
      have hol' : (s.heap.push (blank w)).get? l = some { cls := .type "list", dict := odict, data := .seq items nl, slots := oslots } := Heap.get?_push_of_some _ hol
      have hsls := F.sub_list_set
      have hslf := F.sub_list_frozenset
      have hne : (Value.type "list" == Value.type "dict") = false := by decide
      have hl1 : (s.heap.push (blank w)).IsList l items := ⟨_, hol', rfl, nl, rfl⟩
      have ll : l < s.heap.objs.size := Heap.lt_size hol
      have hz : (s.heap.push (blank w)).objs.size = s.heap.objs.size + 1 := Heap.size_push ..
      unfold Builtin.«set.__init__» noKeywords Builtin.Frozenset.updateFrom
      generalize hPI : pyIter = PI
      wp_walk
      subst hPI
      refine wpAny_pyIter_list hl1 (wpAny_bind (wpAny_runValue ?_))
      have hh3 : A.in1.in1.in1.handled = none := by simp [hh]
      refine fill ((Walks.list hh3 _ l (by rw [hz]; exact Nat.ne_of_lt (Nat.lt_succ_of_lt ll)) items).toS) s.heap.objs.size ?f1 ks cnt bd (fun i v hv => ?f2) s.heap hk (beyond (Nat.le_refl _)) (fun b hb => ?f3) hu (items.size - 0) 0 _ rfl (Nat.zero_le _) ⟨⟨_, Heap.get?_push_size _ rfl, rfl, rfl⟩, hl1.push _⟩
        (fun b o e => Heap.get?_push_of_some _ (Heap.get?_push_of_some _ e)) ⟨[], #[], 0, _, Tups.new (Heap.get?_push_of_some _ hS), ⟨(fun p hp => by cases hp), (fun p hp => by rw [List.take_zero] at hp; cases hp), Nat.le_refl _⟩⟩ fun s' L es ep t m R g k => ?f4
      case f1 =>
        rw [hz]
        simp only [List.mem_cons, List.mem_singleton, List.not_mem_nil, or_false, not_or]
        exact ⟨Nat.ne_of_lt (Nat.lt_succ_self _), Nat.ne_of_gt ll⟩
      case f2 =>
        have q : (ks.map fun p => Value.ref p.1)[i]? = some v := by rw [← hit, Array.getElem?_toList]; exact hv
        rw [List.getElem?_map] at q
        obtain ⟨p, hp, e⟩ := Option.map_eq_some_iff.mp q
        exact ⟨p, hp, e.symm⟩
      case f3 =>
        refine beyond ?_
        rw [List.mem_singleton.mp hb, hz]
        exact Nat.le_succ _
      case f4 =>
        obtain ⟨h', g2, d', tk', os'⟩ := s'
        obtain rfl : g2 = s.gens := m.gens
        obtain rfl : d' = s.drawn := m.drawn
        obtain rfl : os' = s.os := m.os
        rw [cnt] at g
        show wpAny _ _ _ _ _ _
        refine wpAny_pure ?_
        show wpAny _ _ (ret Value.none) _ _ _
        exact wpAny_pure ⟨rfl, h', tk', L, es, ep, t, rfl, R, g, k⟩
    · match r₂, hr₂ with
      | .error e, hr₂ => exact hr₂
      | .ok (.ret r), hr₂ =>
        obtain ⟨rfl, h', tk, L, es, ep, t, rfl, R, g, k⟩ := hr₂
        repeat (any_goals (first | assumption | wp_step))
        exact out _ _ _ _ _ _ R g k
end
end NSet
set_option Elab.async false
set_option linter.all false
set_option maxRecDepth 100000
set_option maxHeartbeats 4000000
namespace NSet
open PySem PySem.Spec PyProof.Rows L2
/-! X33: sorted of a set of such tuples -/
def vc : Cell → V
  | .inl i => .int i
  | .inr x => .str x
def kc : Cell → Int ⊕ List Nat
  | .inl i => .inl i
  | .inr x => .inr x.cps.toList
/-- what kind of cell stands where -/
def Shp (sh : Nat → Bool) : Nat → List Cell → Prop
  | _, [] => True
  | i, .inl _ :: r => sh i = false ∧ Shp sh (i + 1) r
  | i, .inr _ :: r => sh i = true ∧ Shp sh (i + 1) r
/-- the tuple itself, its cells as values -/
def Tup (h : Heap) (k : List Cell) (a : Addr) : Prop := ∃ (o : Obj) (its : Array Value) (n : Nat), h.get? a = some o ∧ o.cls = .type "tuple" ∧ o.data = .seq its n ∧ Vals (k.map vc) its.toList
theorem Tup.wide {h h' : Heap} {k : List Cell} {a : Addr} (x : Tup h k a) (hk : ∀ b o, h.get? b = some o → h'.get? b = some o) : Tup h' k a := by
  obtain ⟨o, its, n, ho, z⟩ := x
  exact ⟨o, its, n, hk _ _ ho, z⟩
theorem all_of_vals {h : Heap} : ∀ {k : List Cell} {us : List Value}, Vals (k.map vc) us → NestedAll h (k.map cell) us
  | [], _, .nil => .nil
  | .inl i :: k, _, .cons r t => by
    obtain ⟨tk, rfl⟩ := r
    exact .cons (.int i tk) (all_of_vals t)
  | .inr x :: k, _, .cons r t => by
    obtain ⟨tk, rfl⟩ := r
    exact .cons (.text x tk) (all_of_vals t)
theorem Tup.at {h : Heap} {k : List Cell} {a : Addr} (x : Tup h k a) : At h k a := by
  obtain ⟨o, its, n, ho, hc, hd, r⟩ := x
  exact .tup ho hc hd (all_of_vals r)
theorem items_vals {sh : Nat → Bool} : ∀ {k : List Cell} {i : Nat} {us : List Value}, Vals (k.map vc) us → Shp sh i k → tupItems sh i us = some (k.map kc)
  | [], _, _, .nil, _ => by simp [tupItems]
  | .inl n :: k, i, _, .cons r t, h => by
    obtain ⟨tk, rfl⟩ := r
    have e := items_vals t h.2
    rw [tupItems, if_neg (by rw [h.1]; exact Bool.false_ne_true), e]
    rfl
  | .inr x :: k, i, _, .cons r t, h => by
    obtain ⟨tk, rfl⟩ := r
    have e := items_vals t h.2
    rw [tupItems, if_pos h.1, e]
    rfl
theorem Tup.key {h : Heap} {sh : Nat → Bool} {k : List Cell} {a : Addr} (x : Tup h k a) (z : Shp sh 0 k) : G.tupKeyC h sh (.ref a) = some (k.map kc) := by
  obtain ⟨o, its, n, ho, hc, hd, r⟩ := x
  unfold G.tupKeyC
  have e1 : G.isTupObj h (.ref a) = true := by simp [G.isTupObj, ho, hc]
  rw [if_pos e1]
  simp only [tupKey, ho, hd]
  exact items_vals r z
theorem Tup.first {h : Heap} {sh : Nat → Bool} {k : List Cell} {a : Addr} (x : Tup h k a) (z : Shp sh 0 k) (ne : k ≠ []) : ∃ f, TupOf h sh (.ref a) f := by
  obtain ⟨o, its, n, ho, hc, hd, r⟩ := x
  obtain ⟨c, k, rfl⟩ := List.exists_cons_of_ne_nil ne
  have f0 : ∀ {u us}, its.toList = u :: us → its[0]? = some u := fun {u us} e => by
    rw [← Array.getElem?_toList, e]
    rfl
  generalize hits : its.toList = l at r f0
  cases c with
  | inl i =>
    cases r with
    | cons r1 rs =>
      obtain ⟨tk, rfl⟩ := r1
      exact ⟨_, a, o, its, n, rfl, ho, hc, hd, f0 rfl, fun _ => ⟨i, tk, rfl⟩, fun q => absurd (z.1.symm.trans q) Bool.false_ne_true⟩
  | inr y =>
    cases r with
    | cons r1 rs =>
      obtain ⟨tk, rfl⟩ := r1
      exact ⟨_, a, o, its, n, rfl, ho, hc, hd, f0 rfl, fun q => absurd (q.symm.trans z.1) Bool.false_ne_true, fun _ => ⟨y, tk, rfl⟩⟩
theorem firsts {h : Heap} {sh : Nat → Bool} : ∀ L : List (Addr × List Cell), (∀ p ∈ L, Tup h p.2 p.1 ∧ Shp sh 0 p.2 ∧ p.2 ≠ []) → ∃ fs, TupsOf h sh (L.map fun p => Value.ref p.1) fs
  | [], _ => ⟨[], .nil⟩
  | p :: L, hp => by
    obtain ⟨fs, hf⟩ := firsts L fun q hq => hp q (List.mem_cons_of_mem _ hq)
    obtain ⟨h1, h2, h3⟩ := hp p List.mem_cons_self
    obtain ⟨f, h4⟩ := h1.first h2 h3
    exact ⟨f :: fs, .cons h4 hf⟩
theorem unmap {α β : Type} (f : α → β) {l m : List β} (h : l.Perm m) : ∀ ps : List α, m = ps.map f → ∃ qs : List α, qs.Perm ps ∧ l = qs.map f := by
  induction h with
  | nil =>
    intro ps e
    cases ps with
    | nil => exact ⟨[], .refl _, rfl⟩
    | cons p r => cases e
  | cons x _ ih =>
    intro ps e
    cases ps with
    | nil => cases e
    | cons p r =>
      obtain ⟨e1, e2⟩ := List.cons.inj e
      obtain ⟨qs, h1, h2⟩ := ih r e2
      exact ⟨p :: qs, h1.cons p, by rw [List.map_cons, ← h2, e1]⟩
  | swap x y l =>
    intro ps e
    match ps, e with
    | a :: b :: r, e =>
      obtain ⟨e1, e2⟩ := List.cons.inj e
      obtain ⟨e3, e4⟩ := List.cons.inj e2
      exact ⟨b :: a :: r, .swap _ _ _, by rw [e1, e3, e4]; rfl⟩
  | trans _ _ ih1 ih2 =>
    intro ps e
    obtain ⟨q2, p2, e2⟩ := ih2 ps e
    obtain ⟨q1, p1, e1⟩ := ih1 q2 e2
    exact ⟨q1, p1.trans p2, e1⟩
/-- in the order of their keys -/
def InOrder (L : List (Addr × List Cell)) : Prop := L.Pairwise fun q r => lexLt itemOrd (r.2.map kc) (q.2.map kc) = false
theorem placed {h : Heap} {sh : Nat → Bool} {ps : List (Addr × List Cell)} (hp : ∀ q ∈ ps, G.tupKeyC h sh (.ref q.1) = some (q.2.map kc)) {arr : Array Keyed}
    (h1 : arr.Perm (pairsOf (ps.map fun q => Value.ref q.1))) (h2 : SortedToK (G.tupKindC h sh) arr (pairsOf (ps.map fun q => Value.ref q.1)).size) :
    ∃ qs : List (Addr × List Cell), qs.Perm ps ∧ InOrder qs ∧ (arr.map (·.2)).toList = qs.map fun q => Value.ref q.1 := by
  have e := Array.perm_iff_toList_perm.mp h1
  have ez : (pairsOf (ps.map fun q => Value.ref q.1)).toList = ps.map fun q => ((Value.ref q.1, Value.ref q.1) : Keyed) := by
    rw [pairsOf_toList]
    clear hp h1 h2 e
    induction ps with
    | nil => rfl
    | cons q r ih => rw [List.map_cons, List.zip_cons_cons, ih, List.map_cons]
  rw [ez] at e
  obtain ⟨qs, p1, e1⟩ := unmap _ e ps rfl
  refine ⟨qs, p1, ?_, ?_⟩
  · unfold InOrder
    rw [List.pairwise_iff_getElem]
    intro i j hi hj hij
    have hlen : (pairsOf (ps.map fun q => Value.ref q.1)).size = qs.length := by rw [pairsOf_size, List.length_map, p1.length_eq]
    have kk : ∀ (k : Nat) (hk : k < qs.length), KK (G.tupKindC h sh) arr k = qs[k].2.map kc := fun k hk => by
      have e2 : arr[k]? = some ((Value.ref qs[k].1, Value.ref qs[k].1) : Keyed) := by
        rw [← Array.getElem?_toList, e1, List.getElem?_map, List.getElem?_eq_getElem hk]
        rfl
      unfold KK
      rw [e2]
      show (G.tupKeyC h sh (.ref qs[k].1)).getD _ = _
      rw [hp _ (p1.mem_iff.mp (List.getElem_mem hk))]
      rfl
    have := h2 i j (Nat.le_of_lt hij) (by rw [hlen]; exact hj)
    rw [kk i hi, kk j hj] at this
    exact this
  · rw [Array.toList_map, e1, List.map_map]
    rfl
section
variable {P : Program} {w : World} {A : Around} {E : Value → Shared → Prop} {s : Shared} {a : Addr} {L : List (Addr × List Cell)} {es : Array (Int × Value)} {ep : Nat} {t : SetTable}
theorem sorted_set {Q : Value → Shared → Prop} (R : Tups w s.heap a L es ep t) (hh : A.handled = none) {sh : Nat → Bool} (hs : ∀ p ∈ L, Tup s.heap p.2 p.1 ∧ Shp sh 0 p.2 ∧ p.2 ≠ [])
    (res : ∀ s' p (out : Array Value) (c : Nat) L', (∀ b o, s.heap.get? b = some o → s'.heap.get? b = some o) → s'.gens = s.gens → s'.os = s.os → s.heap.objs.size ≤ p →
      s'.heap.get? p = some (seqObj "list" out c) → out.toList = L'.map (fun q => Value.ref q.1) → L'.Perm L → InOrder L' → Q (.ref p) s') :
    wpAny (model P w) A (call (.builtin "sorted") [.ref a]) Q E s := by
  obtain ⟨o, ho, hex, hd⟩ := R.obj
  have few := R.few
  have cnt := R.count
  refine Calls.call_function_entry kind_sorted plain_sorted entry_sorted (args_sorted1 _) ?_
  unfold Builtin.«sorted»
  refine wpAny_bind (m := checkCount "sorted" 1 1 _) (wpAny_pure ?_)
  refine wpAny_bind (collect_set (A := A.in1) hh ⟨o, ho, hex.1, hd⟩ R.fit (by unfold scanBound; omega) R.tab.ris R.led fun s1 vs k1 hz g1 o1 pm => ?_)
  have hes : es.toList.map (·.2) = L.map fun q => Value.ref q.1 := by
    rw [R.row, List.map_map]
    rfl
  rw [hes] at pm
  obtain ⟨L1, p1, rfl⟩ := unmap _ pm L rfl
  have n1 : L1.length < 64 := by rw [p1.length_eq]; exact few
  refine wpAny_bind (wpAny_newList ?_ (by rw [List.length_map, sizeLine_eq]; omega))
  have hoL : (s1.heap.push (seqObj "list" (L1.map fun q => Value.ref q.1).toArray 0)).get? s1.heap.objs.size = some (seqObj "list" (L1.map fun q => Value.ref q.1).toArray 0) := Heap.get?_push_size _ rfl
  have tp : ∀ q ∈ L1, Tup (s1.heap.push (seqObj "list" (L1.map fun q => Value.ref q.1).toArray 0)) q.2 q.1 ∧ Shp sh 0 q.2 ∧ q.2 ≠ [] := fun q hq => by
    obtain ⟨h1, h2⟩ := hs q (p1.mem_iff.mp hq)
    exact ⟨h1.wide fun b u e => Heap.get?_push_of_some _ (k1 b u e), h2⟩
  obtain ⟨fs, hf⟩ := firsts L1 tp
  have keys : ∀ q ∈ L1, G.tupKeyC (s1.heap.push (seqObj "list" (L1.map fun q => Value.ref q.1).toArray 0)) sh (.ref q.1) = some (q.2.map kc) := fun q hq => (tp q hq).1.key (tp q hq).2.1
  refine wpAny_bind (wpAny_holding (wpAny_call_entry slot_list_sort ⟨_, hoL, rfl⟩ entry_list_sort (G.list_sort_tups (s := { s1 with heap := s1.heap.push (seqObj "list" (L1.map fun q => Value.ref q.1).toArray 0) }) hoL hf (fun v hv => ?_) (by rw [List.length_map, sizeLine_eq]; omega) fun st' a1 a2 a3 => ⟨_, rfl, ?_⟩) (args_list_sort _)))
  · obtain ⟨q, hq, rfl⟩ := List.mem_map.mp hv
    exact ⟨_, keys q hq⟩
  · obtain ⟨L2, q1, q2, q3⟩ := placed keys a1 a2
    obtain ⟨c, hc⟩ := sortedHeap_at (vs := L1.map fun q => Value.ref q.1) (out := (arrOf st').map (·.2)) hoL
    refine wpAny_pure ⟨_, rfl, res _ s1.heap.objs.size _ c L2 (fun b u e => ?_) g1 o1 hz hc q3 (q1.trans p1) q2⟩
    have q := k1 b u e
    have hlt := Heap.lt_size q
    show (sortedHeap (s1.heap.push (seqObj "list" (L1.map fun q => Value.ref q.1).toArray 0)) s1.heap.objs.size _ _).get? b = some u
    rw [sortedHeap_old (Nat.ne_of_lt hlt) (by rw [size_push']; exact Nat.lt_succ_of_lt hlt)]
    exact Heap.get?_push_of_some _ q
end
end NSet
set_option Elab.async false
set_option linter.all false
set_option maxRecDepth 100000
set_option maxHeartbeats 4000000
namespace NSet
open PySem PySem.Spec PyProof.Rows L2
/-! X34: such sets as tracked objects, set(list), sorted(set) -/
/-- the set at a, but for the tuples themselves -/
structure Bare (w : World) (a : Addr) (L : List (Addr × List Cell)) (h : Heap) : Prop where
  ex : ∃ (es : Array (Int × Value)) (ep : Nat) (t : SetTable), (∃ o, h.get? a = some o ∧ o.ExactSet ∧ o.data = .set es ep t) ∧ es.toList = L.map (fun p => (hsh w p.2, Value.ref p.1)) ∧ TabOk t (L.map fun p => hsh w p.2) ∧ (L.map (·.2)).Nodup ∧
    (w.params.followText "set-order" = true ∨ t.led = true) ∧ L.length * 5 < t.mask * 3 ∧ L.length < 64
def SetN (w : World) (a : Addr) (L : List (Addr × List Cell)) : HO := .ext (Bare w a L)
theorem Tups.bare {w : World} {h : Heap} {a : Addr} {L : List (Addr × List Cell)} {es : Array (Int × Value)} {ep : Nat} {t : SetTable} (R : Tups w h a L es ep t) : Bare w a L h := ⟨es, ep, t, R.obj, R.row, R.tab, R.dif, R.led, R.gap, R.few⟩
theorem Bare.full {w : World} {h : Heap} {a : Addr} {L : List (Addr × List Cell)} (R : Bare w a L h) (ht : ∀ p ∈ L, At h p.2 p.1) : ∃ es ep t, Tups w h a L es ep t := by
  obtain ⟨es, ep, t, h1, h2, h3, h4, h5, h6, h7⟩ := R.ex
  exact ⟨es, ep, t, h1, h2, h3, h4, ht, h5, h6, h7⟩
theorem setN_ok {P : Program} {w : World} {H : Hp} {h : Heap} {a : Addr} {L : List (Addr × List Cell)} (R : Bare w a L h) : ObjOk P w H h a (SetN w a L) := by
  obtain ⟨es, ep, t, ⟨o, ho, r⟩, q⟩ := id R.ex
  refine ⟨R, ⟨o, ho⟩, fun h1 h2 p k => ?_⟩
  obtain ⟨es', ep', t', ⟨o', ho', r'⟩, q'⟩ := Bare.ex p
  exact ⟨es', ep', t', ⟨o', k o' ho', r'⟩, q'⟩
theorem refs_vals : ∀ {ks : List (Addr × List Cell)} {us : List Value}, Vals (ks.map fun p => V.ref p.1) us → us = ks.map fun p => Value.ref p.1
  | [], _, .nil => rfl
  | p :: ks, _, .cons r t => by
    cases r
    rw [refs_vals t]
    rfl
theorem vals_refs : ∀ (ks : List (Addr × List Cell)), Vals (ks.map fun p => V.ref p.1) (ks.map fun p => Value.ref p.1)
  | [] => .nil
  | p :: ks => .cons rfl (vals_refs ks)
section
variable {X : Cx}
theorem tup_of {pins : List (Addr × Obj)} {σ : L2.St} {H : Hp} {s : Shared} {b : Addr} {k : List Cell} (I : Inv X pins σ H s) (h : SqT X.K H b (k.map vc)) : Tup s.heap k b := by
  obtain ⟨its, r, ⟨o, ho, hc, n, hd⟩, _⟩ := I.tuple h
  exact ⟨o, its.toArray, n, ho, hc, hd, by simpa using r⟩
/-- set(xs), xs a list of such tuples -/
def rSetN (K : PySem.W.Frag) (w : World) : List V → Hp → VK → Prop := fun xs H Q => ∃ (l : Addr) (ks : List (Addr × List Cell)), xs = [V.ref l] ∧ SqL K H l (ks.map fun p => V.ref p.1) ∧ (∀ p ∈ ks, SqT K H p.1 (p.2.map vc)) ∧ (∀ L : List (Addr × List Cell), (L.map (·.2)).Nodup → (∀ p ∈ L, p ∈ ks) → L.length < 63) ∧
  ∀ a L, H a = none → (L.map (·.2)).Nodup → (∀ p ∈ L, p ∈ ks) → (∀ p ∈ ks, p.2 ∈ L.map (·.2)) → Q (.ref a) (upd H a (SetN w a L))
theorem cr_setN (hc : X.calm = true) (hu : X.A.units + 64 < cLine) : CallR X (.type "set") (rSetN X.K X.w) := by
  intro pins s σ H xs us Q I r h
  obtain ⟨l, ks, rfl, hl, hk, hf, q⟩ := h
  rw [Vals.ref1 r]
  obtain ⟨its, rv, pl, hz⟩ := I.list hl
  have hn : H s.heap.objs.size = none := I.hok.fresh (Nat.le_refl _)
  refine set_of (P := X.prog) (w := X.w) ks (I.ok.hd hc) pl.isList (by simpa using refs_vals rv) (fun p hp => (tup_of I (hk p hp)).at) hf (by omega) fun h' tk L es ep t R g k => ?_
  refine ⟨.ref s.heap.objs.size, upd H s.heap.objs.size (SetN X.w s.heap.objs.size L), I.laid (t' := tk) k (Nat.le_refl _) (setN_ok R.bare), rfl, q _ L hn R.dif (fun p hp => List.mem_of_mem_take (g.inn p hp)) fun p hp => g.cov p (by rw [List.take_length]; exact hp)⟩
/-- sorted(set) -/
def rSortN (K : PySem.W.Frag) (w : World) : List V → Hp → VK → Prop := fun vs H Q => ∃ (a : Addr) (L : List (Addr × List Cell)) (sh : Nat → Bool), vs = [V.ref a] ∧ H a = some (SetN w a L) ∧ (∀ p ∈ L, SqT K H p.1 (p.2.map vc) ∧ Shp sh 0 p.2 ∧ p.2 ≠ []) ∧
  ∀ (L' : List (Addr × List Cell)) (p : Addr), L'.Perm L → (L'.map (·.2)).Nodup → L'.length < 64 → InOrder L' → H p = none → Q (.ref p) (upd H p (.lst (L'.map fun q => V.ref q.1)))
theorem cr_sortN (hc : X.calm = true) : CallR X (.builtin "sorted") (rSortN X.K X.w) := by
  intro pins s σ H vs us Q I r h
  obtain ⟨a, L, sh, rfl, ha, hk, q⟩ := h
  have R0 : Bare X.w a L s.heap := (I.hok a _ ha).1
  obtain ⟨es, ep, t, R⟩ := R0.full fun p hp => (tup_of I (hk p hp).1).at
  rw [Vals.ref1 r]
  refine sorted_set R (I.ok.hd hc) (fun p hp => ⟨tup_of I (hk p hp).1, (hk p hp).2⟩) fun s' p out c L' k g o hp hg hout pm pw => ?_
  have hfew : L'.length < 64 := by rw [pm.length_eq]; exact R.few
  have hlen : (L'.map fun q => V.ref q.1).length ≤ sizeLine := by rw [List.length_map, sizeLine_eq]; omega
  have hn : H p = none := I.hok.fresh hp
  have hv : Vals (L'.map fun q => V.ref q.1) out.toList := by rw [hout]; exact vals_refs L'
  have J : Inv X pins σ (upd H p (.lst (L'.map fun q => V.ref q.1))) s' :=
    I.call' (ch := []) o (Un.laid k hp hn) (I.hok.laid k hp ⟨hlen, out.toList, c, hv, hg⟩) (by rw [g]; exact I.bare) (fun _ z => nomatch z)
  exact ⟨.ref p, _, J, rfl, q L' p pm ((pm.map (·.2)).nodup_iff.mpr R.dif) hfew pw hn⟩
end
end NSet
set_option Elab.async false
set_option linter.all false
set_option maxRecDepth 100000
set_option maxHeartbeats 4000000
namespace NSet
open PySem PySem.Spec PyProof.Rows L2
/-! X35: {a tuple of numbers and texts for .. in ..} -/
/-- the tuple y put into the set at D -/
def putN (K : PySem.W.Frag) (w : World) (D : Addr) (y : V) (H : Hp) (Nx : Hp → Prop) : Prop := ∃ (x : Addr) (k : List Cell) (L : List (Addr × List Cell)), y = .ref x ∧ SqT K H x (k.map vc) ∧ H D = some (SetN w D L) ∧ (∀ p ∈ L, SqT K H p.1 (p.2.map vc)) ∧ L.length + 1 < 64 ∧
  ∀ L', (k ∈ L.map (·.2) → L' = L) → (k ∉ L.map (·.2) → L'.Perm ((x, k) :: L)) → Nx (upd H D (SetN w D L'))
section
variable {X : Cx}
theorem put_ok {pins : List (Addr × Obj)} {σ : L2.St} {H : Hp} {s : Shared} {E : Value → Shared → Prop} {D : Addr} {y : V} {z : Value} {Nx : Hp → Prop} {Q : Value → Shared → Prop} (I : Inv X pins σ H s) (hu : X.A.units + 64 < cLine) (r : RelV y z) (p : putN X.K X.w D y H Nx)
    (out : ∀ H' s', Inv X pins σ H' s' → Nx H' → Q .none s') : wpAny (model X.prog X.w) X.A (call (.builtin "set.add") [.ref D, z]) Q E s := by
  obtain ⟨x, k, L, rfl, hx, hD, hL, room, nx⟩ := p
  cases r
  obtain ⟨es, ep, t, R⟩ := (show Bare X.w D L s.heap from (I.hok D _ hD).1).full fun q hq => (tup_of I (hL q hq)).at
  have ax : At s.heap k x := (tup_of I hx).at
  obtain ⟨o, ho, hex, hd⟩ := R.obj
  refine wpAny_call_entry F.slot_set_add (show s.TypeIs (.ref D) "set" from ⟨o, ho, hex.1⟩) F.entry_set_add ?_ (F.args_set_add_2 _ _)
  unfold Builtin.«set.add» Builtin.Frozenset.oneOther
  simp only [List.isEmpty_nil, bind_assoc]
  unfold Builtin.Frozenset.addrOf setAdd
  refine wpAny_bind (wpAny_pure ?_)
  try dsimp only
  refine wpAny_bind (wpAny_pure ?_)
  try dsimp only
  refine wpAny_bind (wpAny_holding (wpAny_bind (ax.hashed (by show X.A.in1.units + 8 < cLine; have : X.A.in1.units ≤ X.A.units + 1 := Nat.le_refl _; omega) fun dn => ?_)))
  refine put_in (s := { s with toks := s.toks + dn }) R ax (by show X.A.in1.units + 8 < cLine; have : X.A.in1.units ≤ X.A.units + 1 := Nat.le_refl _; omega) room fun b h' L' es' ep' t' sb R2 c1 c2 => ?_
  show wpAny _ _ (ret Value.none) _ _ _
  have he : ∃ u, h'.get? D = some u := by
    obtain ⟨o2, ho2, _⟩ := R2.obj
    exact ⟨o2, ho2⟩
  exact wpAny_pure ⟨_, rfl, out _ _ (I.write (e := D) (t' := s.toks + dn) (by rw [hD]; trivial) (.inl rfl) (fun c u hc e => (sb.2 c hc).trans e) he (setN_ok R2.bare)) (nx L' c1 c2)⟩
/-- what the comprehension owes: D the new set -/
def tScN (K : PySem.W.Frag) (w : World) (wi : TI) (g : TG) (tt : TT) (te : TE) (vs : List Nat) : TE := fun σ H Q => wi σ H fun J H1 => ∀ D, H1 D = none → ∃ W : Nat → Nat → Hp → Prop, (∃ m, W 0 m (upd H1 D (SetN w D []))) ∧ ∀ i m H, W i m H →
  (J.stop i H ∧ Q (.ref D) H) ∨ (J.go i H ∧ ∃ Nx : Hp → Prop, (∀ H', Nx H' → ∃ m', m' < m ∧ W (i + 1) m' H') ∧ ∀ x H', J.yld i H x H' → g x (wipe σ vs) H' fun σ2 H2 => wipe σ2 vs = wipe σ vs ∧ tt σ2 H2 fun b H3 =>
    if b = true then te σ2 H3 fun y H4 => putN K w D y H4 Nx else Nx H3)
section
variable {elt tg iter : Expr} {ifs : List Expr} {scope : Scope} {own : List (PySem.Str × Nat)} {pos : Pos} {wi : TI} {g : TG} {tt : TT} {te : TE}
/-- the comprehension as a value -/
theorem pe_scN (hc : X.calm = true) (hu : X.A.units + 64 < cLine) (hN : X.N.Nodup) (hi : PI X tg iter wi) (ok : BlkOk X.N X.env.scope scope own)
    (hg : ∀ (s : Shared) (H : Hp) (C : Addr) (cl : List (PySem.Str × Addr)) (fp : List Addr), PG (X.blk s H scope (compEnvC scope cl C X.env) fp) tg g)
    (ht : ∀ (s : Shared) (H : Hp) (C : Addr) (cl : List (PySem.Str × Addr)) (fp : List Addr), PTs (X.blk s H scope (compEnvC scope cl C X.env) fp) ifs tt)
    (he : ∀ (s : Shared) (H : Hp) (C : Addr) (cl : List (PySem.Str × Addr)) (fp : List Addr), PE (X.blk s H scope (compEnvC scope cl C X.env) fp) elt te)
    (hs : ∀ x, foldedSetIterable iter X.env x = pure x := by intro _; rfl) :
    PE X (.SetComp elt [⟨tg, iter, ifs, 0⟩] scope pos) (tScN X.K X.w wi g tt te (own.map (·.2))) := by
  refine ⟨fun pins s σ H Q I h => ?_⟩
  rw [PpSet.eval_SetComp]
  have clo : ∀ y ∈ scope.names, y.2 = .free → ∃ c, X.env.cells.lookup y.1 = some c := fun y hy e => I.ok.has _ (ok.free y hy e)
  refine wpAny_comprehension_free (use := none) rfl hs (closure_ok clo) ok.kind (fun y hy e => by rw [ok.uniq y hy, e]) (thn (hi.run pins s σ H _ I h) fun xv s1 hx => thn hx fun itv s2 h2 => ?_)
  obtain ⟨it, fp, tn, J, H2, rfl, I2, T, st2, f2, q⟩ := h2
  refine PpSet.newSet_ok (newEnv_comp ?_)
  generalize hD : s2.heap.objs.size = D
  have nD : H2 D = none := I2.hok.fresh (Nat.le_of_eq hD)
  obtain ⟨W, ⟨m0, w0⟩, turn⟩ := q D nD
  -- the empty set stands
  obtain ⟨s3, e3⟩ : ∃ s3 : Shared, s3 = { s2 with heap := s2.heap.push (blank X.w) } := ⟨_, rfl⟩
  have hp3 : s3.heap = s2.heap.push (blank X.w) := by rw [e3]
  obtain ⟨H3, eH⟩ : ∃ H3 : Hp, H3 = upd H2 D (SetN X.w D []) := ⟨_, rfl⟩
  have at3 : s3.heap.get? D = some (blank X.w) := by rw [hp3, ← hD]; exact Heap.get?_push_size _ rfl
  have I3 : Inv X pins σ H3 s3 := by
    rw [eH, e3]
    exact I2.laid (t' := s2.toks) (fun b o e => Heap.get?_push_of_some _ e) (Nat.le_of_eq hD) (setN_ok (Tups.new (by rw [hp3] at at3; exact at3)).bare)
  rw [← eH] at w0
  have under : ∀ b ∈ fp, b < s2.heap.objs.size := fun b hb => by
    obtain ⟨o, e, _⟩ := T.obj _ _ st2 b hb
    exact Heap.lt_size e
  have f3 : ∀ b ∈ fp, FpOk X pins H3 b ∧ b < s3.heap.objs.size := fun b hb => by
    have lt := under b hb
    refine ⟨⟨?_, (f2 b hb).2⟩, by rw [hp3, Heap.size_push]; exact Nat.lt_succ_of_lt lt⟩
    rw [eH, upd_ne (by rw [← hD]; exact Nat.ne_of_lt lt)]
    exact (f2 b hb).1
  have st3 : tn 0 s3.heap := T.keep _ _ _ st2 fun b _ o e => by rw [hp3]; exact Heap.get?_push_of_some _ e
  have I4 := block_start I3 ok hN f3
  have pg := hg s3 H3 s3.heap.objs.size (cellsFrom (s3.heap.objs.size + 1) scope.names (cloFrom X.env.cells scope.names [])) fp
  have pt := ht s3 H3 s3.heap.objs.size (cellsFrom (s3.heap.objs.size + 1) scope.names (cloFrom X.env.cells scope.names [])) fp
  have pe := he s3 H3 s3.heap.objs.size (cellsFrom (s3.heap.objs.size + 1) scope.names (cloFrom X.env.cells scope.names [])) fp
  subst e3
  show codeAny _ _ (.compStart _ 0 (.ref it) (.ref D) (compEnvC scope (cellsFrom ((s2.heap.push (blank X.w)).objs.size + 1) scope.names (cloFrom X.env.cells scope.names [])) (s2.heap.push (blank X.w)).objs.size X.env)) (compPost (model X.prog X.w) X.A X.xe none (EP X pins σ Q) (.ref D) (s2.heap.push (blank X.w)).objs.size) { s2 with heap := pushCells ((s2.heap.push (blank X.w)).push { cls := .type "dict", data := .dict #[] }) scope.names }
  generalize e3 : ({ s2 with heap := s2.heap.push (blank X.w) } : Shared) = s3 at *
  rw [← hp3]
  have none3 : ∀ b ∈ fp, H3 b = none := fun b hb => (f3 b hb).1.1
  generalize hce : compEnvC scope (cellsFrom (s3.heap.objs.size + 1) scope.names (cloFrom X.env.cells scope.names [])) s3.heap.objs.size X.env = ce at I4 pg pt pe ⊢
  have cL : ce.locals = s3.heap.objs.size := by rw [← hce]; rfl
  have es : ({ s2 with heap := pushCells (s3.heap.push { cls := .type "dict", data := .dict #[] }) scope.names } : Shared) = { s3 with heap := pushCells (s3.heap.push { cls := .type "dict", data := .dict #[] }) scope.names } := by rw [← e3]
  rw [es]
  generalize hs4 : ({ s3 with heap := pushCells (s3.heap.push { cls := .type "dict", data := .dict #[] }) scope.names } : Shared) = s4 at I4 ⊢
  have st4 : tn 0 s4.heap := T.keep _ _ _ st3 fun b _ o e => by rw [← hs4]; exact pushCells_keeps _ _ _ _ (Heap.get?_push_of_some _ e)
  have foot : ∀ {σ' : L2.St} {H' : Hp} {s' : Shared}, Inv (X.blk s3 H3 scope ce fp) [] σ' H' s' → (∀ b ∈ fp, H' b = none) → ∀ b ∈ fp, FpOk (X.blk s3 H3 scope ce fp) [] H' b := fun {σ' H' s'} I' hn b hb =>
    ⟨hn b hb, (I'.ok.exf b hb).1, I'.ok.exfs b hb, .inl hb, fun x c e => (I'.ok.exf b hb).2 x c e, fun p hp => nomatch (show p ∈ ([] : List (Addr × Obj)) from by simpa using hp)⟩
  have loop : codeAny (model X.prog X.w) X.A (.compLoop (.SetComp elt [⟨tg, iter, ifs, 0⟩] scope pos) 0 (.ref it) (.ref D) ce) (compPost (model X.prog X.w) X.A X.xe none (EP X pins σ Q) (.ref D) s3.heap.objs.size) s4 := by
    refine PpSet.compLoopS_any (fun n s' => ∃ i H', Inv (X.blk s3 H3 scope ce fp) [] (wipe σ (own.map (·.2))) H' s' ∧ tn i s'.heap ∧ (∀ b ∈ fp, H' b = none) ∧ W i n H') ?_ m0 ⟨0, H3, I4, st4, none3, w0⟩
    rintro n s5 ⟨i, H5, I5, st5, n5, w5⟩
    rcases turn i n H5 w5 with ⟨stop, qq⟩ | ⟨go, Nx, hNx, step⟩
    · refine thnF (T.done (X.blk s3 H3 scope ce fp) rfl rfl rfl hc i [] s5 _ H5 (fun _ _ => False) I5 (foot I5 n5) st5 stop) fun r s6 ⟨hr, I6⟩ => ?_
      subst hr
      have I7 : Inv X pins σ H5 s6 := I3.call' (ch := fp) I6.os I6.base I6.hok I6.bare fun b hb => ⟨(f3 b hb).1.2.2.2.1, (f3 b hb).1.2.1, (f3 b hb).1.2.2.2.2.1, (f3 b hb).1.2.2.2.2.2⟩
      have nC : H5 s3.heap.objs.size = none := by
        have z : H5 ce.locals = none := I6.free
        rwa [cL] at z
      obtain ⟨m, hn, _⟩ := I6.loc
      have hn2 : s6.heap.Ns ce.locals m := hn
      rw [cL] at hn2
      refine ⟨m, hn2, fun h'' sb => ?_⟩
      obtain ⟨g0, g1, g2, g3, g4, g5⟩ := I3.fpOk (Nat.le_refl _) nC
      exact ⟨.ref D, H5, I7.turned (t' := s6.toks) (fun b o hb e => (sb.2 b hb).trans e) g0 g1 g3 g4 g5, rfl, qq⟩
    · refine thnF (T.item (X.blk s3 H3 scope ce fp) rfl rfl rfl hc i [] s5 _ H5 (fun _ _ => False) I5 (foot I5 n5) st5 go) fun r s6 ⟨u, hr, h6⟩ => ?_
      subst hr
      refine thnF h6 fun _ s7 ⟨x, H7, I7, r7, y7, st7, n7⟩ => ?_
      refine thnF (pg.run _ s7 _ H7 x u _ (I7.pinned (foot I7 n7) (T.obj _ _ st7)) r7 (step x H7 y7)) fun _ s8 ⟨σ8, H8, I8, hw8, q8⟩ => ?_
      refine thnF (pt.run _ s8 σ8 H8 _ I8 q8) fun b s9 ⟨H9, I9, q9⟩ => ?_
      have next : ∀ {s' : Shared} {H' : Hp}, Inv (X.blk s3 H3 scope ce fp) ([] ++ pinsAt fp s7.heap) σ8 H' s' → Nx H' → ∃ m, m < n ∧ ∃ i H', Inv (X.blk s3 H3 scope ce fp) [] (wipe σ (own.map (·.2))) H' s' ∧ tn i s'.heap ∧ (∀ b ∈ fp, H' b = none) ∧ W i m H' := fun {s' H'} I' nx => by
        obtain ⟨m', hm, w'⟩ := hNx H' nx
        have fixed : ∀ b ∈ fp, ∀ o, s7.heap.get? b = some o → s'.heap.get? b = some o ∧ H' b = none := fun b hb o e =>
          let z := I'.pin (b, o) (List.mem_append_right _ (List.mem_append_right _ (mem_pinsAt hb e)))
          ⟨z.1, z.2.1⟩
        refine ⟨m', hm, i + 1, H', (I'.unpinned (pins := [])).weak (by rw [← hw8, wipe_length]) (fun j v e => ?_), T.keep _ _ _ st7 fun b hb o e => (fixed b hb o e).1, fun b hb => ?_, w'⟩
        · rw [← hw8] at e
          exact (wipe_some e).1
        · obtain ⟨o, e, _⟩ := T.obj _ _ st7 b hb
          exact (fixed b hb o e).2
      cases b with
      | false =>
        simp only [Bool.false_eq_true, if_false] at q9 ⊢
        exact next I9 q9
      | true =>
        simp only [if_true] at q9 ⊢
        refine thnF (pe.run _ s9 σ8 H9 _ I9 q9) fun z s10 ⟨yv, H10, I10, r10, pp⟩ => ?_
        exact put_ok (X := X.blk s3 H3 scope ce fp) I10 hu r10 pp fun H11 s11 I11 nx => next I11 nx
  exact PpSet.codeAny_compStart_set loop (T.self X.A 0 _ _ _ st4 loop)
end
end
end NSet
set_option Elab.async false
set_option linter.all false
set_option maxRecDepth 100000
set_option maxHeartbeats 4000000
namespace NSet
open PySem PySem.Spec PyProof.Rows L2
/-! X36: the set comprehension over a list that stays -/
theorem scN_list {w : World} {K : PySem.W.Frag} {a : Addr} {xs : List V} {g : TG} {tt : TT} {te : TE} {vs : List Nat} {σ : L2.St} {H1 : Hp} {D : Addr} {Fin : Hp → Prop} (Pv : Nat → Hp → Prop) (first : Pv 0 (upd H1 D (SetN w D []))) (here : ∀ i H, i ≤ xs.length → Pv i H → SqL K H a xs)
    (turn : ∀ i x H, xs[i]? = some x → Pv i H → g x (wipe σ vs) H fun σ2 H2 => wipe σ2 vs = wipe σ vs ∧ tt σ2 H2 fun b H3 => if b = true then te σ2 H3 fun y H4 => putN K w D y H4 (Pv (i + 1)) else Pv (i + 1) H3) (last : ∀ H, Pv xs.length H → Fin H) :
    ∃ W : Nat → Nat → Hp → Prop, (∃ m, W 0 m (upd H1 D (SetN w D []))) ∧ ∀ i m H, W i m H →
      ((Itl K a).stop i H ∧ Fin H) ∨ ((Itl K a).go i H ∧ ∃ Nx : Hp → Prop, (∀ H', Nx H' → ∃ m', m' < m ∧ W (i + 1) m' H') ∧ ∀ x H', (Itl K a).yld i H x H' → g x (wipe σ vs) H' fun σ2 H2 => wipe σ2 vs = wipe σ vs ∧ tt σ2 H2 fun b H3 =>
        if b = true then te σ2 H3 fun y H4 => putN K w D y H4 Nx else Nx H3) := by
  refine ⟨fun i m H => m + i = xs.length ∧ Pv i H, ⟨xs.length, rfl, first⟩, fun i m H ⟨hm, p⟩ => ?_⟩
  have q := here i H (by omega) p
  rcases Nat.lt_or_ge i xs.length with lt | ge
  · refine .inr ⟨⟨xs, xs[i], q, by simp [lt]⟩, Pv (i + 1), fun H' p' => ⟨m - 1, by omega, by omega, p'⟩, fun x H' y => ?_⟩
    obtain ⟨e, y⟩ := y
    subst e
    exact turn i x _ (y xs q) p
  · obtain rfl : i = xs.length := by omega
    exact .inl ⟨⟨xs, q, Nat.le_refl _⟩, last H p⟩
end NSet
set_option Elab.async false
set_option linter.all false
set_option maxRecDepth 100000
set_option maxHeartbeats 4000000
namespace Vk
open PySem PySem.Spec PyProof.Rows L2
/-! X37: x != y by an own __eq__ alone; ~x and x op y by own methods, y of the same class -/
section
variable {M : Model} {prog : Program} {w : World} {A : Around} {E : Value → Shared → Prop} {s : Shared} {K : PySem.W.Frag} {x C g : Addr} {ox : Obj} {od : Option Obj}
theorem bound_ne {args : List Value} {Q : Option Value → Shared → Prop} (X : K.In s.heap) (I : PySem.W.InstAt s.heap x ox C od) (hs : PySem.W.findIn K (.ref C) "__ne__" = some (some (.builtin "object.__ne__")))
    (h : wpAny M A (call (.builtin "object.__ne__") (.ref x :: args)) (fun v => Q (some v)) E s) : wpAny M A (callSpecialIfBound? (.ref x) "__ne__" args) Q E s := by
  simp only [callSpecialIfBound?, bindSpecialIfBound?]
  have last : wpAny M A (call (.builtin "object.__ne__") ([.ref x] ++ args) >>= fun v => pure (some v)) Q E s := wpAny_bind (wpAny_mono h (fun v s' z => wpAny_pure z) fun _ _ z => z)
  refine wpAny_holding (wpAny_bind (wpAny_bind (wpAny_bind (I.type.here ((PySem.W.looks_findIn X hs).here ?_)))))
  refine wpAny_bind (wpAny_askSetting (wpAny_ite ?_))
  split
  · exact wpAny_bind (wpAny_of_eq (F.cmp_object.ne.bind _) (wpAny_pure (by exact last)))
  · exact wpAny_tryCatch (wpAny_bind (wpAny_of_eq (F.cmp_object.ne.bind _) (wpAny_pure (by exact last))))
theorem turned_eq {b : Value} {Q : Fin → Shared → Prop} (hu : A.units < cLine) (X : K.In s.heap) (I : PySem.W.InstAt s.heap x ox C od) (hs : PySem.W.findIn K (.ref C) "__eq__" = some (some (.ref g))) (hf : PySem.W.isFn K (.ref g) = true)
    (h : wpAny (model prog w) A (call (.ref g) [.ref x, b]) (fun v s' => ∃ c, v = .bool c ∧ Q (.done (.ret (.bool (!c)))) s') E s) : wpAny (model prog w) A (Builtin.«object.__ne__» ⟨[.ref x, b], []⟩) Q E s := by
  unfold Builtin.«object.__ne__»
  repeat (first
    | with_reducible refine wpAny_cRoomFor hu ?_
    | (refine wpAny_bind (m := callSpecialIfBound? (.ref x) (Str.ofString "__eq__") [b]) (PySem.W.ifBound_K X I hs hf (wpAny_mono h (fun r s' hr => by
        obtain ⟨c, rfl, hq⟩ := hr
        repeat (first | exact hq | exact wpAny_pure hq | exact wpAny_truthy_bool hq | (refine wpAny_bind (m := truthy (.bool _)) (wpAny_truthy_bool ?_)) | wp_step)) fun _ _ z => z)))
    | wp_step)
end
def rNeI (K : PySem.W.Frag) (C : Addr) (sp : Sp) (E : XK) : R2 := fun x y H Q => ∃ a dx fs b C' dy gs, x = .ref a ∧ y = .ref b ∧ H a = some (.ins C dx fs) ∧ H b = some (.ins C' dy gs) ∧ PySem.W.notFirst K C (.ref C') = true ∧ sp [x, y] H (fun z H' => ∃ c, z = .bl c ∧ Q (.bl (!c)) H') E
section
variable {X : Cx} {CX : CXT} {k : Nat} {g C : Addr} {sp : Sp} {E : XK}
theorem op_neI (hne : PySem.W.findIn X.K (.ref C) "__ne__" = some (some (.builtin "object.__ne__"))) (hm : PySem.W.mroIn X.K C (.type "object") = some true) (hs : PySem.W.findIn X.K (.ref C) "__eq__" = some (some (.ref g))) (hf : PySem.W.isFn X.K (.ref g) = true)
    (G : FnR X.prog X.w X.K X.mg X.base CX k g sp) (hr : Room (k + 1) X.A) (hx : Passes CX X E) : OpR X (compareOp .NotEq) (rNeI X.K C sp E) := by
  intro pins s σ H x y v u Q I rx ry h
  obtain ⟨a, dx, fs, b, C', dy, gs, rfl, rfl, ha, hbb, hn, q⟩ := h
  cases (show v = Value.ref a from rx)
  cases (show u = Value.ref b from ry)
  obtain ⟨mA, O, _⟩ := ins_get I.hok ha
  obtain ⟨od, J, _⟩ := O.look
  obtain ⟨mB, O2, _⟩ := ins_get I.hok hbb
  obtain ⟨od2, J2, _⟩ := O2.look
  have hr1 : Room k X.A.in1 := Room.in1 hr
  have one : wpAny (model X.prog X.w) X.A (tryCompare (.ref a) "__ne__" (.ref b)) (fun r s' => ∃ v, r = some v ∧ EP X pins σ Q v s') X.xe s := by
    unfold tryCompare
    refine wpAny_bind (bound_ne I.kIn J hne (wpAny_call (codeAny_call_builtin F.cmp_object.ne.plain F.cmpEntry_ne (PySem.W.check_slot F.cmpKind_ne F.cmpSplit_ne (J.type.andThen (PySem.W.looks_mroIn I.kIn hm)) (F.cmpArgs_ne _ _) (turned_eq hr1.units0 I.kIn J hs hf ?_)))))
    refine wpAny_mono (wpAny_call (SlX.run_at (us := [.ref a, .ref b]) (ws := [.ref a, .ref b]) G hr1 I.env0.in1 hx I (.cons rfl (.cons rfl .nil)) q)) (fun w s' z => ?_) fun _ _ x => x
    obtain ⟨z', H', I', rz, c, ei, qz⟩ := z
    subst ei
    cases (show w = Value.bool c from rz)
    exact ⟨c, rfl, wpAny_pure ⟨_, rfl, .bl (!c), H', I', rfl, qz⟩⟩
  show wpAny _ _ (richCompare .NotEq (.ref a) (.ref b)) _ _ s
  unfold richCompare
  simp only [oneThing_ref]
  refine wpAny_holding (wpAny_bind (wpAny_cRoomFor hr.units0 ?_))
  rw [cmpInfo_NotEq]
  dsimp only
  refine wpAny_bind (J.type.here (wpAny_bind (J2.type.here ?_)))
  split
  · rename_i z
    have e : PySem.W.subIn X.K (.ref C') (.ref C) = some false := by
      rcases Bool.or_eq_true_iff.mp hn with e | e
      · rw [beq_iff_eq.mp e] at z; simp at z
      · exact beq_iff_eq.mp e
    refine wpAny_bind ((PySem.W.looks_subIn I.kIn e).here ?_)
    simp only [Bool.false_eq_true, if_false]
    refine wpAny_bind (wpAny_mono one (fun r s' z => ?_) fun _ _ e => e)
    obtain ⟨v, rfl, hq⟩ := z
    exact wpAny_pure hq
  · refine wpAny_bind (wpAny_pure ?_)
    simp only [Bool.false_eq_true, if_false]
    refine wpAny_bind (wpAny_mono one (fun r s' z => ?_) fun _ _ e => e)
    obtain ⟨v, rfl, hq⟩ := z
    exact wpAny_pure hq
/-- ~x -/
def rInvI (C : Addr) (sp : Sp) (E : XK) : V → Hp → VK → Prop := fun x H Q => ∃ a dx fs, x = .ref a ∧ H a = some (.ins C dx fs) ∧ sp [x] H Q E
theorem un_invI (hs : PySem.W.findIn X.K (.ref C) "__invert__" = some (some (.ref g))) (hf : PySem.W.isFn X.K (.ref g) = true) (G : FnR X.prog X.w X.K X.mg X.base CX k g sp) (hr : Room k X.A) (hx : Passes CX X E) : UnR X (unaryOp .Invert) (rInvI C sp E) := by
  intro pins s σ H x v Q I rx h
  obtain ⟨a, dx, fs, rfl, ha, q⟩ := h
  cases (show v = Value.ref a from rx)
  obtain ⟨mA, O, _⟩ := ins_get I.hok ha
  obtain ⟨od, J, _⟩ := O.look
  obtain ⟨m, hF⟩ := I.fr
  exact PySem.W.ksp_inv hF I.ok.mod.kin J hs hf (wpAny_call (SlX.run_at (us := [.ref a]) (ws := [.ref a]) G hr I.env0 hx I (.cons rfl .nil) q))
end
/-- x op y, y of the same class; what it raises is wished for at the slots -/
def tBinO (C : Addr) (sp : Sp) (E : L2.St → XK) (ta tb : TE) : TE := fun σ H Q => ta σ H fun x H1 => tb σ H1 fun y H2 => ∃ a dx fs b dy gs, x = .ref a ∧ y = .ref b ∧ H2 a = some (.ins C dx fs) ∧ H2 b = some (.ins C dy gs) ∧ sp [x, y] H2 Q (E σ)
section
variable {X : Cx} {CX : CXT} {k : Nat} {g C : Addr} {fd : FuncData} {ps : List Str} {sp : Sp} {E : L2.St → XK} {pos : Pos} {e f : Expr} {ta tb : TE} {op : Operator}
theorem pe_binO (hc : PySem.W.selfFirst X.K C = true) (hs : PySem.W.findIn X.K (.ref C) (PySem.dunder op.info.2) = some (some (.ref g))) (hf : PySem.W.isFn X.K (.ref g) = true) (G : FnOk X.prog X.w X.K X.mg X.base CX k g fd ps sp) (hr : Room k X.A) (hb : Binds X.K fd ps [])
    (hx : ∀ σ, PassesAt CX X σ (E σ)) (he : PE X e ta) (hg : PE X f tb) : PE X (.BinOp e op f pos) (tBinO C sp E ta tb) := by
  refine ⟨fun pins s σ H Q I h => ?_⟩
  refine wpAny_BinOp (binT he hg (R := fun x y H2 => ∃ a dx fs b dy gs, x = .ref a ∧ y = .ref b ∧ H2 a = some (.ins C dx fs) ∧ H2 b = some (.ins C dy gs) ∧ sp [x, y] H2 Q (E σ)) I h fun v u s2 x y H2 I2 rx ry q => ?_)
  obtain ⟨a, dx, fs, b, dy, gs, rfl, rfl, ha, hbb, q⟩ := q
  cases (show v = Value.ref a from rx)
  cases (show u = Value.ref b from ry)
  obtain ⟨mA, O, _⟩ := ins_get I2.hok ha
  obtain ⟨od, J, _⟩ := O.look
  obtain ⟨mB, O2, _⟩ := ins_get I2.hok hbb
  obtain ⟨od2, J2, _⟩ := O2.look
  obtain ⟨m, hF⟩ := I2.fr
  refine PySem.W.binop_K hF I2.ok.mod.kin J J2.type hc hs hf ?_
  refine wpAny_mono (run_fnS (us := [.ref a, .ref b]) (vs := [.ref a, .ref b]) G hr hb (hx σ) I2 (.cons rfl (.cons rfl .nil)) q) (fun w s1 z => ?_) fun _ _ z => z
  obtain ⟨z1, H1, I1, rz, qz⟩ := z
  exact SlX.cmpback rz ⟨z1, H1, I1, rz, qz⟩
end
end Vk
set_option Elab.async false
set_option linter.all false
set_option maxRecDepth 100000
set_option maxHeartbeats 4000000
namespace Vk
open PySem PySem.Spec PyProof.Rows L2
/-! X38: f(e, ..), where the name f holds an own class -/
def tMakeV (C : Addr) (sp : Sp) (dvs : List V) (E : XK) (tf : TE) (t : TA) : TE := fun σ H Q => tf σ H fun v H0 => v = .ref C ∧ tMake C sp dvs E t σ H0 Q
theorem pe_makeV {X : Cx} {CX : CXT} {k : Nat} {f C : Addr} {fd : FuncData} {ps : List Str} {sp : Sp} {dvs : List V} {ds : List Value} {E : XK} {x : Str} {p pos : Pos} {e : Expr} {es : List Expr} {t : TA} {tf : TE} (hn : PE X (.Name x p) tf) (M : Mk X.K C f) (F : FnOk X.prog X.w X.K X.mg X.base CX k f fd ps sp) (hr : Room (k + 1) X.A) (hb : Binds X.K fd ps ds) (hd : Vals dvs ds) (hx : Passes CX X E)
    (ha : PA X (e :: es) t) (he : starEach (e :: es) X.env = (false, eval e X.env) :: starEach es X.env := by rfl) (hpl : (backTo pos (starEach es X.env)).any (·.1) = false := by rfl) :
    PE X (.Call (.Name x p) (e :: es) [] pos) (tMakeV C sp dvs E tf t) := by
  refine ⟨fun pins s σ H Q I h => ?_⟩
  refine wpAny_Call_Name_kw (thn (hn.run pins s σ H _ I h) fun u s0 hh => ?_)
  obtain ⟨v, H0, I0, rv, rfl, q0⟩ := hh
  obtain rfl : u = Value.ref C := rv
  refine PySem.W.callWith_K (h₀ := X.base) I0.ok.mod.kin M.kp (thn (ha.run pos pins s0 σ H0 _ I0 q0) fun us s1 ⟨vs, H1, I1, r, q⟩ => ⟨I1.kIn, ?_⟩) he hpl
  exact run_make M F hr hb hd hx I1 r q
end Vk
set_option Elab.async false
set_option linter.all false
set_option maxRecDepth 100000
set_option maxHeartbeats 4000000
namespace Vk
open PySem PySem.Spec PyProof.Rows L2
/-! X39: an own error without arguments -/
theorem pmk_bare {X : Cx} {C : Addr} {bmB : List Value} {B newId initId : String} {x : Str} {p pos : Pos} (F : ExcBaseFacts B newId initId bmB) (q : PySem.W.excIn X.K C bmB newId = true) (gC : X.mg x = some (.ref C)) (kC : PySem.W.keepIn X.K (.ref C) = true) (r : Raises X (.ref C)) (hg : Gl X x)
    (hdb : (x == ("__debug__" : Str)) = false := by decide) : PMk X (.Call (.Name x p) [] [] pos) (fun _ H Q => Q (.ref C) none H) := by
  intro pins s σ H Q I h
  refine wpAny_Call_Name_kw (ld_glob I hg gC ?_ hdb)
  refine PySem.W.callWith_K0 I.kIn kC ?_
  obtain ⟨bm, N, nm, qn, bs, hdct, sn, sub, ab, col, dd, k0, k1, k2, k3, k5, mN, hC, hN, hni, T⟩ := exc_obj I.kIn q
  refine wpAny_call_exc_subT F T hC hN hni (fun h' e hm => ?_) (by show 0 ≤ sizeLine; exact Nat.zero_le _)
  exact mk_of I hm r h (I.hok.gone hm.new)
end Vk
set_option Elab.async false
set_option linter.all false
set_option maxRecDepth 100000
set_option maxHeartbeats 4000000
/-! sorted(text): the signs of a text in order; list(text) -/
namespace Vk
open PySem PySem.Spec PyProof.Rows L2
def signsOf (z : Str) : List Str := z.cps.toList.map fun c => (⟨#[c]⟩ : Str)
theorem signs_strs {z : Str} {acc : Array Value} (h : ItemsOf (SignAt z) acc z.cps.size) : StrsAre acc.toList (signsOf z) := by
  have hsz : acc.size = z.cps.size := h.1
  have hL : acc.toList.length = (signsOf z).length := by
    rw [Array.length_toList, hsz]
    unfold signsOf
    rw [List.length_map, Array.length_toList]
  refine strs_at hL fun j v e => ?_
  have e1 : acc[j]? = some v := by rw [← Array.getElem?_toList]; exact e
  obtain ⟨c, u, hc, ev⟩ := h.2 j v e1
  refine ⟨⟨#[c]⟩, u, ?_, ev⟩
  unfold signsOf
  rw [List.getElem?_map, Array.getElem?_toList, hc]
  rfl
section
variable {X : Cx}
def rSortT : List V → Hp → VK → Prop := fun vs H Q => ∃ z : Str, vs = [.str z] ∧ z.length < 64 ∧
  ∀ ys p, ys.Perm (signsOf z) → sortedS ys = true → H p = none → Q (.ref p) (upd H p (.lst (ys.map V.str)))
theorem cr_sortT (hcalm : X.calm = true) : CallR X (.builtin "sorted") rSortT := by
  intro pins s σ H xs us Q I r q
  obtain ⟨z, ex, h64, q⟩ := q
  subst ex
  obtain ⟨u, eu, rx⟩ := vals1 r
  subst eu
  obtain ⟨t, rfl⟩ := rx
  have hz2 : z.cps.size < 64 := h64
  refine Calls.call_function_entry PyProof.Rows.kind_sorted PyProof.Rows.plain_sorted PyProof.Rows.entry_sorted (PyProof.Rows.args_sorted1 _) ?_
  unfold Builtin.«sorted»
  refine wpAny_bind (m := checkCount "sorted" 1 1 _) (wpAny_pure ?_)
  refine wpAny_bind (wpAny_collect_str (A := X.A.in1) (I.ok.hd hcalm) z t (fun s1 acc hk hg hd ho hacc => ?_) (by rw [sizeLine_eq]; omega))
  obtain ⟨h1, g1, d1, tk1, os1⟩ := s1
  have eg : g1 = s.gens := hg
  have ed : d1 = s.drawn := hd
  have eo : os1 = s.os := ho
  subst eg; subst ed; subst eo
  have hS := signs_strs hacc
  have hal : acc.toList.length = z.cps.size := by rw [Array.length_toList]; exact hacc.1
  have I1 : Inv X pins σ H { s with heap := h1, toks := tk1 } := I.kept hk
  refine wpAny_bind (wpAny_newList ?_ (by rw [hal, sizeLine_eq]; omega))
  have hoL : (h1.push (seqObj "list" acc.toList.toArray 0)).get? h1.objs.size = some (seqObj "list" acc.toList.toArray 0) := Heap.get?_push_size _ rfl
  show wpAny _ _ _ _ _ { s with heap := h1.push (seqObj "list" acc.toList.toArray 0), toks := tk1 }
  refine wpAny_bind (wpAny_holding (wpAny_call_entry PyProof.Rows.slot_list_sort ⟨_, hoL, rfl⟩ PyProof.Rows.entry_list_sort
    (list_sort_treeK strKind_oneLt (s := { s with heap := h1.push (seqObj "list" acc.toList.toArray 0), toks := tk1 }) hoL hS.keysOf (fun v₁ v₂ more e => keyKind_strs (by rw [← e]; exact hS)) (by rw [hal]; exact hz2) fun st2 hp hs => ⟨_, rfl, ?_⟩)
    (PyProof.Rows.args_list_sort _)))
  obtain ⟨ys, g1, g2, g3⟩ := sorted_out_str hS hp hs
  obtain ⟨e', he'⟩ := PyProof.Rows.sortedHeap_at (vs := acc.toList) (out := (arrOf st2).map (·.2)) hoL
  have hlen : (ys.map V.str).length ≤ sizeLine := by
    rw [List.length_map, g2.length_eq]
    unfold signsOf
    rw [List.length_map, Array.length_toList, sizeLine_eq]
    omega
  refine wpAny_pure ⟨_, rfl, .ref h1.objs.size, upd H h1.objs.size (.lst (ys.map V.str)), I1.laid (t' := tk1) (fun b u e => ?_) (Nat.le_refl _)
    (show ObjOk X.prog X.w _ _ _ (.lst (ys.map V.str)) from ⟨hlen, ((arrOf st2).map (·.2)).toList, e', vals_of_strs g1, by rw [Array.toArray_toList]; exact he'⟩), rfl, q ys _ g2 g3 (I1.hok.fresh (Nat.le_refl _))⟩
  have hb : b < h1.objs.size := Heap.lt_size e
  rw [PyProof.Rows.sortedHeap_old (Nat.ne_of_lt hb) (by rw [size_push']; exact Nat.lt_succ_of_lt hb)]
  exact Heap.get?_push_of_some _ e
/-- list(x), x a text -/
def rListT : List V → Hp → VK → Prop := fun vs H Q => ∃ z : Str, vs = [.str z] ∧ z.length ≤ 4000 ∧ ∀ p, H p = none → Q (.ref p) (upd H p (.lst ((signsOf z).map V.str)))
end
/-! sorted texts: two arrangements of the same texts are one -/
theorem lt_irr (a : List Nat) : ltCps a a = false := by
  rw [ltCps_eq]
  exact decide_eq_false (List.lt_irrefl a)
end Vk
set_option Elab.async false
set_option linter.all false
set_option maxRecDepth 100000
set_option maxHeartbeats 1000000
/-! texts as lists of codes; comprehensions over a text -/
namespace Vk
open PySem PySem.Spec PyProof.Rows L2
/-- the text of these codes -/
def S (l : List Nat) : Str := ⟨l.toArray⟩
theorem S_of (z : Str) : z = S z.cps.toList := by
  obtain ⟨a⟩ := z
  simp [S]
theorem S_len (l : List Nat) : (S l).length = l.length := by
  show l.toArray.size = l.length
  simp
theorem S_cps (l : List Nat) : (S l).cps.toList = l := by simp [S]
theorem S_size (l : List Nat) : (S l).cps.size = l.length := S_len l
theorem S_inj {a b : List Nat} : S a = S b ↔ a = b := by
  constructor
  · intro h
    have := congrArg (fun z : Str => z.cps.toList) h
    simpa [S] using this
  · rintro rfl
    rfl
theorem S_one (c : Nat) : (⟨#[c]⟩ : Str) = S [c] := rfl
theorem S_app (a b : List Nat) : S a ++ S b = S (a ++ b) := by
  show (⟨a.toArray ++ b.toArray⟩ : Str) = ⟨(a ++ b).toArray⟩
  simp
theorem S_get {l : List Nat} {i c : Nat} : (S l).cps[i]? = some c ↔ l[i]? = some c := by
  show l.toArray[i]? = some c ↔ _
  simp
theorem signs_S (l : List Nat) : signsOf (S l) = l.map fun c => S [c] := by
  unfold signsOf
  rw [S_cps]
  rfl
theorem S_cut (l : List Nat) (lo hi : Option Int) : cutS (S l) lo hi = S ((l.drop (HT.sIx l.length 0 lo)).take (HT.sIx l.length l.length hi - HT.sIx l.length 0 lo)) := by
  unfold cutS
  rw [S_cps, S_len]
  rfl
theorem S_to (l : List Nat) (k : Nat) : cutS (S l) none (some (k : Int)) = S (l.take k) := by
  rw [S_cut, HT.sIx_none, HT.sIx_nat, List.drop_zero, Nat.sub_zero]
  congr 1
  rw [← List.take_take, List.take_length]
theorem S_from (l : List Nat) (k : Nat) : cutS (S l) (some (k : Int)) none = S (l.drop k) := by
  rw [S_cut, HT.sIx_none, HT.sIx_nat]
  congr 1
  by_cases h : k ≤ l.length
  · rw [Nat.min_eq_left h]
    exact List.take_of_length_le (by rw [List.length_drop]; exact Nat.le_refl _)
  · rw [Nat.min_eq_right (by omega), Nat.sub_self, List.take_zero, List.drop_eq_nil_of_le (by omega)]
/-- what join does of single signs -/
theorem join_signs : ∀ l : List Nat, Txt.join (S []) (l.map fun c => S [c]) = S l := by
  have key : ∀ l : List Nat, Str.join (S []) (l.map fun c => S [c]) = S l := by
    intro l
    induction l with
    | nil => rfl
    | cons c r ih =>
      cases r with
      | nil => rfl
      | cons d r =>
        show S [c] ++ S [] ++ Str.join (S []) ((d :: r).map fun c => S [c]) = _
        rw [ih, S_app, S_app]
        rfl
  intro l
  exact (PySem.StrLaws.glued_eq_join _ _).trans (key l)
/-! sorted -/
def srtL (l : List Nat) : List Nat := l.mergeSort fun a b => decide (a ≤ b)
theorem srtL_perm (l : List Nat) : (srtL l).Perm l := List.mergeSort_perm _ _
theorem srtL_le (l : List Nat) : (srtL l).Pairwise (· ≤ ·) := by
  have h := List.pairwise_mergeSort (le := fun a b : Nat => decide (a ≤ b)) (by simp; omega) (by simp; omega) l
  exact h.imp fun h => by simpa using h
theorem srtL_len (l : List Nat) : (srtL l).length = l.length := (srtL_perm l).length_eq
theorem srtL_mem {l : List Nat} {c : Nat} : c ∈ srtL l ↔ c ∈ l := (srtL_perm l).mem_iff
theorem srtL_nodup {l : List Nat} : (srtL l).Nodup ↔ l.Nodup := (srtL_perm l).nodup_iff
theorem srt_eq {a b : List Nat} (p : a.Perm b) (ha : a.Pairwise (· ≤ ·)) : a = srtL b :=
  List.Perm.eq_of_pairwise (le := (· ≤ ·)) (fun x y _ _ h1 h2 => Nat.le_antisymm h1 h2) ha (srtL_le b) (p.trans (srtL_perm b).symm)
theorem srtL_congr {a b : List Nat} : srtL a = srtL b ↔ a.Perm b := by
  constructor
  · intro h
    exact (srtL_perm a).symm.trans (h ▸ srtL_perm b)
  · intro p
    exact srt_eq ((srtL_perm a).trans p) (srtL_le a)
theorem rising_le : ∀ (c : Nat) (l : List Nat), risingS (S [c]) (l.map fun c => S [c]) = true → (c :: l).Pairwise (· ≤ ·)
  | c, [], _ => by simp
  | c, d :: l, h => by
    have h' : (!ltCps (S [d]).cps.toList (S [c]).cps.toList && risingS (S [d]) (l.map fun c => S [c])) = true := h
    obtain ⟨h1, h2⟩ := Bool.and_eq_true_iff.mp h'
    have ih := rising_le d l h2
    have hcd : c ≤ d := by
      rw [ltCps_eq] at h1
      simp [S] at h1
      exact Nat.le_of_not_lt fun z => of_decide_eq_false h1 (List.Lex.rel z)
    rw [List.pairwise_cons]
    refine ⟨fun x hx => ?_, ih⟩
    rcases List.mem_cons.mp hx with rfl | hx
    · exact hcd
    · exact Nat.le_trans hcd ((List.pairwise_cons.mp ih).1 x hx)
theorem sorted_signs {l : List Nat} {ys : List Str} (p : ys.Perm (l.map fun c => S [c])) (h : sortedS ys = true) : ys = (srtL l).map fun c => S [c] := by
  have hq : ∃ zs : List Nat, ys = zs.map fun c => S [c] := by
    refine ⟨ys.map fun z => z.cps.toList.headD 0, ?_⟩
    rw [List.map_map]
    refine (List.map_id ys).symm.trans (List.map_congr_left fun y hy => ?_)
    obtain ⟨c, _, rfl⟩ := List.mem_map.mp (p.mem_iff.mp hy)
    simp [S]
  obtain ⟨zs, rfl⟩ := hq
  have hp : zs.Perm l := by
    have q := p.map fun z : Str => z.cps.toList.headD 0
    rw [List.map_map, List.map_map] at q
    have e : ∀ l : List Nat, l.map ((fun z : Str => z.cps.toList.headD 0) ∘ fun c => S [c]) = l := fun l => (List.map_congr_left fun c _ => by simp [S]).trans (List.map_id l)
    rw [e, e] at q
    exact q
  have hs : zs.Pairwise (· ≤ ·) := by
    cases zs with
    | nil => exact .nil
    | cons c r => exact rising_le c r h
  rw [srt_eq hp hs]
/-! a comprehension over a text -/
theorem lc_text {l : List Nat} {j : Nat} {tt : TT} {te : TE} {vs : List Nat} {σ : L2.St} {H1 : Hp} {D : Addr} {Qd : Hp → Prop} (p : Nat → Bool) (v : Nat → V) (hl : l.length ≤ 4000)
    (hw : ∀ x, wipe ((wipe σ vs).set j (some x)) vs = wipe σ vs)
    (ht : ∀ c ∈ l, ∀ (H2 : Hp) (Q : Bool → Hp → Prop), (∀ b, b ≠ D → H2 b = H1 b) → Q (p c) H2 → tt ((wipe σ vs).set j (some (.str (S [c])))) H2 Q)
    (he : ∀ c ∈ l, p c = true → ∀ (H2 : Hp) (Q : VK), (∀ b, b ≠ D → H2 b = H1 b) → Q (v c) H2 → te ((wipe σ vs).set j (some (.str (S [c])))) H2 Q)
    (hq : Qd (upd H1 D (.lst ((l.filter p).map v)))) :
    ∃ W : Nat → Nat → Hp → Prop, (∃ m, W 0 m (upd H1 D (.lst []))) ∧ ∀ i m H, W i m H →
      ((Its (S l)).stop i H ∧ Qd H) ∨ ((Its (S l)).go i H ∧ ∃ Nx : Hp → Prop, (∀ H', Nx H' → ∃ m', m' < m ∧ W (i + 1) m' H') ∧ ∀ x H', (Its (S l)).yld i H x H' → gName j x (wipe σ vs) H' fun σ2 H2 => wipe σ2 vs = wipe σ vs ∧ tt σ2 H2 fun b H3 =>
        if b = true then te σ2 H3 fun y H4 => ∃ acc, H4 D = some (.lst acc) ∧ acc.length < sizeLine ∧ Nx (upd H4 D (.lst (acc ++ [y]))) else Nx H3) := by
  have hz : (S l).cps.size = l.length := S_size l
  refine lc_it walk_str (fun i H => H = upd H1 D (.lst (((l.take i).filter p).map v))) rfl (fun _ _ _ _ => trivial) ?_ ?_
  · rintro i x H H' hi hP ⟨rfl, c, hc, rfl⟩
    subst hP
    have hc2 : l[i]? = some c := S_get.mp hc
    have hm : c ∈ l := List.mem_of_getElem? hc2
    have off : ∀ b, b ≠ D → (upd H1 D (.lst (((l.take i).filter p).map v))) b = H1 b := fun b hb => upd_ne hb
    have e1 : l.take (i + 1) = l.take i ++ [c] := by
      rw [List.take_add_one, hc2]
      rfl
    refine ⟨hw _, ht c hm _ _ off ?_⟩
    by_cases hp : p c = true
    · rw [if_pos hp]
      refine he c hm hp _ _ off ⟨_, upd_same, ?_, ?_⟩
      · rw [List.length_map, sizeLine_eq]
        have h1 := List.length_filter_le p (l.take i)
        rw [List.length_take] at h1
        omega
      · rw [upd_upd, e1, List.filter_append, List.filter_cons_of_pos hp, List.filter_nil, List.map_append]
        rfl
    · rw [if_neg hp, e1, List.filter_append, List.filter_cons_of_neg hp, List.filter_nil, List.append_nil]
  · rintro H rfl
    rw [hz, List.take_length]
    exact hq
end Vk
set_option Elab.async false
set_option linter.all false
set_option maxRecDepth 100000
set_option maxHeartbeats 4000000
namespace Vk
open PySem PySem.Spec PyProof.Rows L2
/-! V0: the readings, one step each, said the way a walk uses them -/
section
variable {D : Ends} {σ : L2.St} {H : Hp} {t u : TS} {te ta tb : TE} {c : TT} {Q : VK} {K : PySem.W.Frag}
theorem iSeq (h : t { nx := u D, rt := D.rt, bk := D.bk, ct := D.ct } σ H) : tSeq t u D σ H := h
theorem iNext (h : D.nx σ H) : tNext D σ H := h
theorem iBreak (h : D.bk σ H) : tBreak D σ H := h
theorem iCont (h : D.ct σ H) : tCont D σ H := h
theorem iDrop (h : te σ H fun _ H1 => D.nx σ H1) : tDrop te D σ H := h
theorem iRet (h : te σ H D.rt) : tRet te D σ H := h
theorem iRetN (h : D.rt .non H) : tRetN D σ H := h
theorem iIfS (h : c σ H fun b H1 => if b = true then t D σ H1 else u D σ H1) : tIfS c t u D σ H := h
theorem iAsg {g : TG} (h : te σ H fun x H1 => g x σ H1 D.nx) : tAsg te g D σ H := h
theorem iName {i : Nat} {v : V} {Q : L2.St → Hp → Prop} (h : Q (σ.set i (some v)) H) : gName i v σ H Q := h
theorem iSub {to ti : TE} {tt : TSet} {v : V} {Q : L2.St → Hp → Prop} (h : to σ H fun o H1 => ti σ H1 fun i H2 => tt o i v H2 fun H3 => Q σ H3) : gSub to ti tt v σ H Q := h
theorem iVar {i : Nat} {v : V} (e : σ[i]? = some (some v)) (h : Q v H) : tVar i σ H Q := ⟨v, e, h⟩
theorem iC {v : V} (h : Q v H) : tC v σ H Q := h
theorem iOp {r : R2} (h : ta σ H fun x H1 => tb σ H1 fun y H2 => r x y H2 Q) : tOp r ta tb σ H Q := h
theorem iUn {r : V → Hp → VK → Prop} (h : ta σ H fun x H1 => r x H1 Q) : tUn r ta σ H Q := h
theorem iI0 {g : Int → Int → V} {i j : Int} (h : Q (g i j) H) : rI0 g (.int i) (.int j) H Q := ⟨i, j, rfl, rfl, h⟩
theorem iI {C : Int → Int → Prop} {g : Int → Int → V} {i j : Int} (hc : C i j) (h : Q (g i j) H) : rI C g (.int i) (.int j) H Q := ⟨i, j, rfl, rfl, hc, h⟩
theorem iU {g : Int → V} {i : Int} (h : Q (g i) H) : rU g (.int i) H Q := ⟨i, rfl, h⟩
theorem iEq {x y : V} (hs : scal x y = true) (h : Q (.bl (decide (x = y))) H) : rEq x y H Q := ⟨hs, h⟩
theorem iNe {x y : V} (hs : scal x y = true) (h : Q (.bl (!decide (x = y))) H) : rNe x y H Q := ⟨hs, h⟩
theorem iB {Q : Bool → Hp → Prop} (h : te σ H fun x H1 => ∃ c, x = .bl c ∧ Q c H1) : tB te σ H Q := h
theorem iTest {Q : Bool → Hp → Prop} (h : te σ H fun x H1 => ∃ c, x = .bl c ∧ Q c H1) : tTest te σ H Q := h
theorem iAnd {t u : TT} {Q : Bool → Hp → Prop} (h : t σ H fun c H1 => if c = true then u σ H1 Q else Q false H1) : tAnd t u σ H Q := h
theorem iOr {t u : TT} {Q : Bool → Hp → Prop} (h : t σ H fun c H1 => if c = true then Q true H1 else u σ H1 Q) : tOr t u σ H Q := h
theorem iNot {t : TT} {Q : Bool → Hp → Prop} (h : t σ H fun c H1 => Q (!c) H1) : tNot t σ H Q := h
theorem iAndV (h : ta σ H fun x H1 => ∃ c, x = .bl c ∧ if c = true then tb σ H1 Q else Q (.bl false) H1) : tAndV ta tb σ H Q := h
theorem iOrV (h : ta σ H fun x H1 => ∃ c, x = .bl c ∧ if c = true then Q (.bl true) H1 else tb σ H1 Q) : tOrV ta tb σ H Q := h
theorem iNotV (h : ta σ H fun x H1 => ∃ c, x = .bl c ∧ Q (.bl (!c)) H1) : tNotV ta σ H Q := h
theorem iIfE (h : c σ H fun b H1 => if b = true then ta σ H1 Q else tb σ H1 Q) : tIf c ta tb σ H Q := h
theorem iNil {Q : List V → Hp → Prop} (h : Q [] H) : tNil σ H Q := h
theorem iCons {tr : TA} {Q : List V → Hp → Prop} (h : ta σ H fun x H1 => tr σ H1 fun xs H2 => Q (x :: xs) H2) : tCons ta tr σ H Q := h
theorem iTup {ts : TA} (h : ts σ H fun xs H1 => xs.length ≤ sizeLine ∧ ∀ p, H1 p = none → Q (.ref p) (upd H1 p (.tup xs))) : tTup ts σ H Q := h
theorem iLst {ts : TA} (h : ts σ H fun xs H1 => xs.length ≤ sizeLine ∧ ∀ p, H1 p = none → Q (.ref p) (upd H1 p (.lst xs))) : tLst ts σ H Q := h
theorem iCB {r : List V → Hp → VK → Prop} {ts : TA} (h : ts σ H fun vs H1 => r vs H1 Q) : tCB r ts σ H Q := h
theorem iCall {sp : Sp} {dvs : List V} {E : XK} {ts : TA} (h : ts σ H fun vs H1 => sp (vs ++ dvs) H1 Q E) : tCall sp dvs E ts σ H Q := h
theorem iFld {f : Str} (h : ta σ H fun x H1 => ∃ a C dx fs v, x = .ref a ∧ H1 a = some (.ins C dx fs) ∧ Cls K C ∧ NoAttr K C f ∧ fs.lookup f = some v ∧ Q v H1) : tFld K ta f σ H Q := h
theorem iM1 {r : V → List V → Hp → VK → Prop} {to : TE} (h : to σ H fun x H1 => (∃ a, x = .str a) ∧ te σ H1 fun y H2 => r x [y] H2 Q) : tM1 r to te σ H Q := h
theorem iBM {T : String} {r : V → List V → Hp → VK → Prop} {to : TE} {ts : TA} (h : to σ H fun x H1 => tyV K T x H1 ∧ ts σ H1 fun xs H2 => r x xs H2 Q) : tBM K T r to ts σ H Q := h
theorem iSl {r : V → Option Int → Option Int → Hp → VK → Prop} {tl th : TO} (h : te σ H fun x H1 => tl σ H1 fun l H2 => th σ H2 fun u H3 => r x l u H3 Q) : tSl r te tl th σ H Q := h
theorem iIxL {p : Addr} {xs : List V} {i : Int} {v : V} (hq : SqL K H p xs) (e : atI xs i = some v) (h : Q v H) : rIxL K (.ref p) (.int i) H Q := ⟨p, xs, i, v, rfl, rfl, hq, e, h⟩
theorem iIxT {p : Addr} {xs : List V} {i : Int} {v : V} (hq : SqT K H p xs) (e : atI xs i = some v) (h : Q v H) : rIxT K (.ref p) (.int i) H Q := ⟨p, xs, i, v, rfl, rfl, hq, e, h⟩
theorem iIxS {l : List Nat} {i : Int} {c : Nat} (hz : l.length ≤ 100000) (e : atI l i = some c) (h : Q (.str (S [c])) H) : rIxS (.str (S l)) (.int i) H Q :=
  ⟨S l, i, c, rfl, rfl, (by rw [S_len, sizeLine_eq]; omega), (by rw [S_cps]; exact e), h⟩
theorem iSlS {l : List Nat} {lo hi : Option Int} (hz : l.length ≤ 100000) (h : Q (.str (cutS (S l) lo hi)) H) : rSlS (.str (S l)) lo hi H Q :=
  ⟨S l, rfl, (by rw [S_len, sizeLine_eq]; omega), h⟩
theorem iBd {P : Prop} [Decidable P] {A B : Prop} (h1 : P → A) (h2 : ¬ P → B) : if decide P = true then A else B := ite2 (fun h => h1 (of_decide_eq_true h)) fun h => h2 fun p => h (decide_eq_true p)
theorem iBnd {P : Prop} [Decidable P] {A B : Prop} (h1 : ¬ P → A) (h2 : P → B) : if (!decide P) = true then A else B := ite2 (fun h => h1 (by simpa using h)) fun h => h2 (by simpa using h)
theorem iBb {b : Bool} {A B : Prop} (h1 : b = true → A) (h2 : b = false → B) : if b = true then A else B := ite2 h1 fun h => h2 (by simpa using h)
theorem iBbn {b : Bool} {A B : Prop} (h1 : b = false → A) (h2 : b = true → B) : if (!b) = true then A else B := ite2 (fun h => h1 (by simpa using h)) fun h => h2 (by simpa using h)
theorem iTT {A B : Prop} (h : A) : if true = true then A else B := iteT h
theorem iFF {A B : Prop} (h : B) : if false = true then A else B := iteF h
theorem iNTT {A B : Prop} (h : B) : if (!true) = true then A else B := iteF h
theorem iNFF {A B : Prop} (h : A) : if (!false) = true then A else B := iteT h
theorem iEx {α : Sort _} {p : α → Prop} (w : α) (h : p w) : ∃ x, p x := ⟨w, h⟩
theorem iSetL {p : Addr} {xs ys : List V} {i : Int} {j : Nat} {v : V} {Q : Hp → Prop} (h : H p = some (.lst xs)) (hj : ixN xs.length i = some j) (e : xs.set j v = ys) (k : Q (upd H p (.lst ys))) : rSetL (.ref p) (.int i) v H Q :=
  ⟨p, xs, i, j, rfl, rfl, h, hj, (by rw [e]; exact k)⟩
theorem iNoPart {Q : Option Int → Hp → Prop} (h : Q none H) : tNoPart σ H Q := h
theorem iPart {Q : Option Int → Hp → Prop} (h : te σ H fun x H1 => ∃ i, x = .int i ∧ Q (some i) H1) : tPart te σ H Q := h
theorem pe_strS {X : Cx} {x : Str} {l : List Nat} {j : Nat} {pos : Pos} (h : x = S l) : PE X (.Constant (.str x) j pos) (tC (.str (S l))) := h ▸ pe_str
theorem iSFld {tv : TE} {f : Str} (h : tv σ H fun y H1 => ta σ H1 fun x H2 => ∃ a C dx fs, x = .ref a ∧ H2 a = some (.ins C dx fs) ∧ Cls K C ∧ NoAttr K C f ∧ fs.length < 1000 ∧ D.nx σ (upd H2 a (.ins C dx (putF f y fs)))) : sFld K ta tv f D σ H := h
theorem eSFld {a C dx : Addr} {fs fs' : List (Str × V)} {f : Str} {y : V} (e1 : H a = some (.ins C dx fs)) (c : Cls K C) (n : NoAttr K C f) (hl : fs.length < 1000) (ep : putF f y fs = fs') (h : D.nx σ (upd H a (.ins C dx fs'))) :
    ∃ (b C dx : Addr) (gs : List (Str × V)), V.ref a = .ref b ∧ H b = some (.ins C dx gs) ∧ Cls K C ∧ NoAttr K C f ∧ gs.length < 1000 ∧ D.nx σ (upd H b (.ins C dx (putF f y gs))) := ⟨a, C, dx, fs, rfl, e1, c, n, hl, by rw [ep]; exact h⟩
theorem iCon {f : Str} (h : ta σ H fun x H1 => ∃ a C dx fs v u, x = .ref a ∧ H1 a = some (.ins C dx fs) ∧ Cls K C ∧ Con K C f v u ∧ fs.lookup f = none ∧ Q v H1) : tCon K ta f σ H Q := h
theorem iProp {C : Addr} {sp : Sp} {dvs : List V} {E : XK} (h : ta σ H fun x H1 => ∃ a dx fs, x = .ref a ∧ H1 a = some (.ins C dx fs) ∧ sp (.ref a :: dvs) H1 Q E) : tProp C sp dvs E ta σ H Q := h
theorem iMeth {C : Addr} {m : Str} {sp : Sp} {dvs : List V} {E : XK} {t : TA} (h : ta σ H fun x H1 => ∃ a dx fs, x = .ref a ∧ H1 a = some (.ins C dx fs) ∧ fs.lookup m = none ∧ t σ H1 fun vs H2 => sp (x :: (vs ++ dvs)) H2 Q E) : tMeth C m sp dvs E ta t σ H Q := h
theorem iCall0 {sp : Sp} {E : XK} {ts : TA} (h : ts σ H fun vs H1 => sp vs H1 Q E) : tCall sp [] E ts σ H Q := by
  have e : (fun (vs : List V) (H1 : Hp) => sp (vs ++ []) H1 Q E) = fun vs H1 => sp vs H1 Q E := by
    funext vs H1
    rw [List.append_nil]
  show ts σ H fun vs H1 => sp (vs ++ []) H1 Q E
  rw [e]
  exact h
theorem iMeth0 {C : Addr} {m : Str} {sp : Sp} {E : XK} {t : TA} (h : ta σ H fun x H1 => ∃ a dx fs, x = .ref a ∧ H1 a = some (.ins C dx fs) ∧ fs.lookup m = none ∧ t σ H1 fun vs H2 => sp (x :: vs) H2 Q E) : tMeth C m sp [] E ta t σ H Q := by
  have e : (fun (x : V) (H1 : Hp) => ∃ a dx fs, x = .ref a ∧ H1 a = some (.ins C dx fs) ∧ fs.lookup m = none ∧ t σ H1 fun vs H2 => sp (x :: (vs ++ [])) H2 Q E) = fun x H1 => ∃ a dx fs, x = .ref a ∧ H1 a = some (.ins C dx fs) ∧ fs.lookup m = none ∧ t σ H1 fun vs H2 => sp (x :: vs) H2 Q E := by
    funext x H1
    simp only [List.append_nil]
  show ta σ H fun (x : V) (H1 : Hp) => ∃ a dx fs, x = .ref a ∧ H1 a = some (.ins C dx fs) ∧ fs.lookup m = none ∧ t σ H1 fun vs H2 => sp (x :: (vs ++ [])) H2 Q E
  rw [e]
  exact h
/-- here the walk stands still -/
def Stop (p : Prop) : Prop := p
/-! while, by an invariant -/
def Less (W : Nat → L2.St → Hp → Prop) (m : Nat) : L2.St → Hp → Prop := fun σ' H' => ∃ m', m' < m ∧ W m' σ' H'
def WB (W : Nat → L2.St → Hp → Prop) (m : Nat) (tb : TS) (D : Ends) (b : Bool) (σ : L2.St) (H1 : Hp) : Prop :=
  if b = true then ∃ N : L2.St → Hp → Prop, (∀ σ' H', N σ' H' → ∃ m', m' < m ∧ W m' σ' H') ∧ tb { D with nx := N, ct := N, bk := D.nx } σ H1 else D.nx σ H1
theorem iWT {W : Nat → L2.St → Hp → Prop} {m : Nat} {tb : TS} (h : tb { nx := Less W m, rt := D.rt, bk := D.nx, ct := Less W m } σ H) : WB W m tb D true σ H := iteT ⟨Less W m, fun _ _ z => z, h⟩
theorem iWF {W : Nat → L2.St → Hp → Prop} {m : Nat} {tb : TS} (h : D.nx σ H) : WB W m tb D false σ H := iteF h
theorem iWD {P : Prop} [Decidable P] {W : Nat → L2.St → Hp → Prop} {m : Nat} {tb : TS} (h1 : P → tb { nx := Less W m, rt := D.rt, bk := D.nx, ct := Less W m } σ H) (h2 : ¬ P → D.nx σ H) : WB W m tb D (decide P) σ H := by
  by_cases h : P
  · rw [decide_eq_true h]
    exact iWT (h1 h)
  · rw [decide_eq_false h]
    exact iWF (h2 h)
theorem iWDN {P : Prop} [Decidable P] {W : Nat → L2.St → Hp → Prop} {m : Nat} {tb : TS} (h1 : ¬ P → tb { nx := Less W m, rt := D.rt, bk := D.nx, ct := Less W m } σ H) (h2 : P → D.nx σ H) : WB W m tb D (!decide P) σ H := by
  by_cases h : P
  · rw [decide_eq_true h]
    exact iWF (h2 h)
  · rw [decide_eq_false h]
    exact iWT (h1 h)
theorem while_w {c : TT} {tb : TS} (W : Nat → L2.St → Hp → Prop) (h0 : ∃ m, W m σ H) (hs : ∀ m σ H, W m σ H → c σ H fun b H1 => WB W m tb D b σ H1) : tWhile c tb D σ H := ⟨W, h0, hs⟩
/-! heaps -/
theorem upd_old {p x : Addr} {o u : HO} (hp : H p = none) (h : H x = some u) : upd H p o x = some u := by
  rw [upd_ne (ne_of_none h hp)]
  exact h
theorem upd_oth {p x : Addr} {o u : HO} (hp : x ≠ p) (h : H x = some u) : upd H p o x = some u := by rw [upd_ne hp]; exact h
theorem Same.get {H' : Hp} {x : Addr} {u : HO} (s : Same H H') (h : H x = some u) : H' x = some u := s _ _ h
/-- all but the listed stand as they stood -/
def Fr (L : List Addr) (H H' : Hp) : Prop := ∀ x u, x ∉ L → H x = some u → H' x = some u
theorem Fr.get {H' : Hp} {L : List Addr} {x : Addr} {u : HO} (s : Fr L H H') (hx : x ∉ L) (h : H x = some u) : H' x = some u := s _ _ hx h
theorem Fr.refl (L : List Addr) (H : Hp) : Fr L H H := fun _ _ _ h => h
theorem Fr.trans {L : List Addr} {H H1 H2 : Hp} (a : Fr L H H1) (b : Fr L H1 H2) : Fr L H H2 := fun x u n h => b x u n (a x u n h)
theorem Fr.of_same {L : List Addr} {H H1 : Hp} (a : Same H H1) : Fr L H H1 := fun x u _ h => a x u h
theorem Fr.upd_in {L : List Addr} {H : Hp} {p : Addr} {o : HO} (hp : p ∈ L) : Fr L H (upd H p o) := fun x u n h => upd_oth (fun z => n (z ▸ hp)) h
theorem Fr.upd_new {L : List Addr} {H : Hp} {p : Addr} {o : HO} (hp : H p = none) : Fr L H (upd H p o) := fun x u _ h => upd_old hp h
theorem Fr.mono {L M : List Addr} {H H1 : Hp} (a : Fr L H H1) (h : ∀ x ∈ L, x ∈ M) : Fr M H H1 := fun x u n e => a x u (fun z => n (h x z)) e
theorem Fr.in0 {L : List Addr} {H : Hp} {p : Addr} {o : HO} : Fr (p :: L) H (upd H p o) := Fr.upd_in List.mem_cons_self
theorem Fr.in1 {L : List Addr} {H : Hp} {p q : Addr} {o : HO} : Fr (q :: p :: L) H (upd H p o) := Fr.upd_in (List.mem_cons_of_mem _ List.mem_cons_self)
theorem Fr.in2 {L : List Addr} {H : Hp} {p q r : Addr} {o : HO} : Fr (q :: r :: p :: L) H (upd H p o) := Fr.upd_in (List.mem_cons_of_mem _ (List.mem_cons_of_mem _ List.mem_cons_self))
theorem Fr.wk {L : List Addr} {H H1 : Hp} {p : Addr} (h : Fr L H H1) : Fr (p :: L) H H1 := h.mono fun _ hx => List.mem_cons_of_mem _ hx
theorem Fr.wk1 {H H1 : Hp} {p q : Addr} (h : Fr [p] H H1) : Fr [p, q] H H1 := h.mono fun x hx => by
  rw [List.mem_singleton] at hx
  subst hx
  exact List.mem_cons_self
theorem Same.upd_new {H : Hp} {p : Addr} {o : HO} (hp : H p = none) : Same H (upd H p o) := fun x u h => upd_old hp h
theorem Same.tr {H H1 H2 : Hp} (a : Same H H1) (b : Same H1 H2) : Same H H2 := fun x u h => b x u (a x u h)
theorem Fr.same {H H1 : Hp} (a : Fr [] H H1) : Same H H1 := fun x u h => a x u (List.not_mem_nil) h
theorem Fr.none {L : List Addr} {H H1 : Hp} {x : Addr} (a : Fr L H H1) (hx : x ∉ L) (h : H1 x = none) : H x = none := by
  cases e : H x with
  | none => rfl
  | some u => rw [a x u hx e] at h; cases h
end
end Vk
/-! the walk -/
section
open Vk L2
local macro_rules | `(tactic| walk_at "lk") => `(tactic| first
  | assumption
  | exact upd_same
  | (refine upd_old (by assumption) ?_; walk_at "lk")
  | (refine upd_oth (by first | assumption | (apply Ne.symm; assumption)) ?_; walk_at "lk")
  | (refine Same.get (by assumption) ?_; walk_at "lk"))
example {H : L2.Hp} {a p : PySem.Addr} {o u : L2.HO} (h : H a = some u) (hp : H p = none) : L2.upd H p o a = some u := by walk_at "lk"
end
set_option Elab.async false
set_option linter.all false
set_option maxRecDepth 100000
set_option maxHeartbeats 4000000
namespace Vk
open PySem PySem.Spec PyProof.Rows L2
/-! V1: texts as lists of signs -/
theorem S_le {l : List Nat} (h : l.length ≤ 100000) : (S l).length ≤ sizeLine := by rw [S_len, sizeLine_eq]; omega
def rAddS : R2 := fun x y H Q => ∃ a b : List Nat, x = .str (S a) ∧ y = .str (S b) ∧ a.length + b.length ≤ 100000 ∧ Q (.str (S (a ++ b))) H
theorem op_addS {X : Cx} : OpR X (binaryOp .Add) rAddS := by
  intro pins s σ H x y v u Q I rx ry h
  obtain ⟨a, b, rfl, rfl, hz, q⟩ := h
  refine op_add_str pins s σ H _ _ v u Q I rx ry ⟨S a, S b, rfl, rfl, ?_, ?_⟩
  · rw [S_len, S_len, sizeLine_eq]; omega
  · rw [S_app]; exact q
def rLenS1 : List V → Hp → VK → Prop := fun xs H Q => ∃ l : List Nat, xs = [.str (S l)] ∧ l.length ≤ 100000 ∧ Q (.int (l.length : Nat)) H
theorem call_lenS {X : Cx} : CallR X (.builtin "len") rLenS1 := by
  intro pins s σ H xs us Q I r h
  obtain ⟨l, rfl, hz, q⟩ := h
  refine call_len_str pins s σ H _ us Q I r ⟨S l, rfl, S_le hz, ?_⟩
  rw [S_len]
  exact q
def rInS (neg : Bool) : R2 := fun x y H Q => ∃ (c : Nat) (l : List Nat), x = .str (S [c]) ∧ y = .str (S l) ∧ Q (.bl (if neg then !decide (c ∈ l) else decide (c ∈ l))) H
theorem op_inS {X : Cx} : OpR X (compareOp .In) (rInS false) := by
  intro pins s σ H x y v u Q I rx ry h
  obtain ⟨c, l, rfl, rfl, q⟩ := h
  exact op_in_sign pins s σ H _ _ v u Q I rx ry ⟨c, S l, rfl, rfl, by simpa [S_cps] using q⟩
theorem op_notInS {X : Cx} : OpR X (compareOp .NotIn) (rInS true) := by
  intro pins s σ H x y v u Q I rx ry h
  obtain ⟨c, l, rfl, rfl, q⟩ := h
  exact op_notIn_sign pins s σ H _ _ v u Q I rx ry ⟨c, S l, rfl, rfl, by simpa [S_cps] using q⟩
/-! the place of a sign -/
def n1 (l : List Nat) (c : Nat) : Nat := (l.takeWhile (· != c)).length
theorem n1_le (l : List Nat) (c : Nat) : n1 l c ≤ l.length := (List.takeWhile_prefix _).length_le
theorem n1_nil (c : Nat) : n1 [] c = 0 := rfl
theorem n1_cons (x : Nat) (l : List Nat) (c : Nat) : n1 (x :: l) c = if x = c then 0 else n1 l c + 1 := by
  unfold n1
  rw [List.takeWhile_cons]
  by_cases h : x = c
  · rw [if_pos h]
    simp [h]
  · rw [if_neg h]
    simp [h]
theorem n1_mem {l : List Nat} {c : Nat} : c ∈ l ↔ n1 l c < l.length := by
  induction l with
  | nil => simp [n1]
  | cons x r ih =>
    rw [n1_cons, List.mem_cons, List.length_cons]
    by_cases h : x = c
    · rw [if_pos h]
      simp [h]
    · rw [if_neg h]
      have h2 : ¬ c = x := fun z => h z.symm
      simp only [h2, false_or, ih]
      omega
theorem n1_not {l : List Nat} {c : Nat} (h : c ∉ l) : n1 l c = l.length := by
  have h1 := n1_le l c
  have h2 : ¬ n1 l c < l.length := fun z => h (n1_mem.mpr z)
  omega
theorem n1_at {l : List Nat} {c : Nat} (h : c ∈ l) : l[n1 l c]? = some c := by
  induction l with
  | nil => cases h
  | cons x r ih =>
    rw [n1_cons]
    by_cases hx : x = c
    · rw [if_pos hx, hx]
      rfl
    · rw [if_neg hx, List.getElem?_cons_succ]
      refine ih ?_
      rcases List.mem_cons.mp h with h | h
      · exact absurd h.symm hx
      · exact h
theorem n1_before {l : List Nat} {c k : Nat} (h : k < n1 l c) : l[k]? ≠ some c := by
  induction l generalizing k with
  | nil => simp
  | cons x r ih =>
    rw [n1_cons] at h
    by_cases hx : x = c
    · rw [if_pos hx] at h
      omega
    · rw [if_neg hx] at h
      cases k with
      | zero => simpa using hx
      | succ k =>
        rw [List.getElem?_cons_succ]
        exact ih (by omega)
theorem n1_eq {l : List Nat} {c k : Nat} (h : l[k]? = some c) (hb : ∀ j, j < k → l[j]? ≠ some c) : n1 l c = k := by
  have hm : c ∈ l := List.mem_of_getElem? h
  have h1 := n1_at hm
  rcases Nat.lt_trichotomy (n1 l c) k with h2 | h2 | h2
  · exact absurd h1 (hb _ h2)
  · exact h2
  · exact absurd h (n1_before h2)
theorem at_one (l : List Nat) (c i : Nat) : StrLaws.At (S l) (S [c]) (S l).length i ↔ l[i]? = some c := by
  have h := StrLaws.subAt_one (S l) c i
  rw [show (⟨#[c]⟩ : Str) = S [c] from rfl] at h
  rw [S_cps] at h
  exact h
theorem findS (l : List Nat) (c : Nat) : Txt.find (S l) (S [c]) = if c ∈ l then (n1 l c : Int) else -1 := by
  unfold Txt.find
  rcases StrLaws.occ_head (S l) (S [c]) 1 (Nat.le_refl 1) with ⟨h0, hn⟩ | ⟨i, r, h0, hi, hn⟩
  · rw [h0]
    have hc : c ∉ l := fun hm => by
      obtain ⟨j, hj⟩ := List.getElem?_of_mem hm
      exact hn j ((at_one l c j).mpr hj)
    rw [if_neg hc]
  · rw [h0]
    have h1 := (at_one l c i).mp hi
    rw [if_pos (List.mem_of_getElem? h1), n1_eq h1 fun j hj e => hn j hj ((at_one l c j).mpr e)]
theorem startsS (l : List Nat) (c : Nat) : Txt.startswith (S l) (S [c]) = decide (l[0]? = some c) := by
  have h := at_one l c 0
  unfold StrLaws.At at h
  unfold Txt.startswith
  rw [Bool.eq_iff_iff, Bool.and_eq_true, decide_eq_true_eq, decide_eq_true_eq]
  exact h
theorem partS (l : List Nat) (c : Nat) : (Txt.partition (S l) (S [c])).1 = S (l.take (n1 l c)) := by
  have ey : TL.tl (S [c]) = c :: [] := by simp [TL.tl, S]
  by_cases h : c ∈ l
  · have h1 := n1_at h
    have hlt : n1 l c < l.length := n1_mem.mp h
    have e : S l = S (l.take (n1 l c)) ++ S [c] ++ S (l.drop (n1 l c + 1)) := by
      rw [S_app, S_app]
      congr 1
      have e2 : l.drop (n1 l c) = c :: l.drop (n1 l c + 1) := by
        rw [List.drop_eq_getElem_cons hlt]
        rw [List.getElem?_eq_getElem hlt] at h1
        rw [Option.some.inj h1]
      rw [List.append_assoc, List.singleton_append, ← e2, List.take_append_drop]
    have hno : c ∉ TL.tl (S (l.take (n1 l c))) := by
      have : TL.tl (S (l.take (n1 l c))) = l.take (n1 l c) := by simp [TL.tl, S]
      rw [this]
      intro hm
      obtain ⟨j, hj⟩ := List.getElem?_of_mem hm
      have hj2 : j < n1 l c := by
        have := (List.getElem?_eq_some_iff.mp hj).1
        rw [List.length_take] at this
        omega
      rw [List.getElem?_take_of_lt hj2] at hj
      exact n1_before hj2 hj
    have q := TL.partition_app (y := S [c]) ey (a := S (l.take (n1 l c))) (b := S (l.drop (n1 l c + 1))) hno
    rw [← e] at q
    rw [q]
  · have hno : c ∉ TL.tl (S l) := by
      have : TL.tl (S l) = l := by simp [TL.tl, S]
      rw [this]
      exact h
    rw [TL.partition_none ey hno, n1_not h, List.take_length]
/-! cuts -/
section
variable {H : Hp} {Q : VK} {l : List Nat} {i j : Int} {m n : Nat}
theorem iSlTo (hz : l.length ≤ 100000) (e : i = (n : Int)) (h : Q (.str (S (l.take n))) H) : rSlS (.str (S l)) none (some i) H Q := by
  subst e
  refine ⟨S l, rfl, S_le hz, ?_⟩
  rw [S_to]
  exact h
theorem iSlFrom (hz : l.length ≤ 100000) (e : i = (n : Int)) (h : Q (.str (S (l.drop n))) H) : rSlS (.str (S l)) (some i) none H Q := by
  subst e
  refine ⟨S l, rfl, S_le hz, ?_⟩
  rw [S_from]
  exact h
theorem S_mid (l : List Nat) (m n : Nat) : cutS (S l) (some (m : Int)) (some (n : Int)) = S ((l.take n).drop m) := by
  rw [S_cut]
  have e1 : HT.sIx l.length 0 (some (m : Int)) = min m l.length := by
    have q := S_from l m
    unfold HT.sIx
    simp only []
    split
    · omega
    · omega
  have e2 : HT.sIx l.length l.length (some (n : Int)) = min n l.length := by
    unfold HT.sIx
    simp only []
    split
    · omega
    · omega
  rw [e1, e2]
  congr 1
  rw [List.drop_take]
  by_cases h : m ≤ l.length
  · rw [Nat.min_eq_left h]
    by_cases h2 : n ≤ l.length
    · rw [Nat.min_eq_left h2]
    · rw [Nat.min_eq_right (Nat.le_of_not_le h2)]
      have h3 : (l.drop m).length = l.length - m := List.length_drop
      rw [List.take_of_length_le (Nat.le_of_eq h3), List.take_of_length_le (by omega)]
  · rw [Nat.min_eq_right (Nat.le_of_not_le h), List.drop_of_length_le (Nat.le_refl _), List.drop_of_length_le (Nat.le_of_not_le h)]
    simp
theorem iSlMid (hz : l.length ≤ 100000) (e1 : i = (m : Int)) (e2 : j = (n : Int)) (h : Q (.str (S ((l.take n).drop m))) H) : rSlS (.str (S l)) (some i) (some j) H Q := by
  subst e1 e2
  refine ⟨S l, rfl, S_le hz, ?_⟩
  rw [S_mid]
  exact h
end
theorem iAddS {a b : List Nat} {H : Hp} {Q : VK} (hz : a.length + b.length ≤ 100000) (h : Q (.str (S (a ++ b))) H) : rAddS (.str (S a)) (.str (S b)) H Q := ⟨a, b, rfl, rfl, hz, h⟩
theorem iLenS1 {l : List Nat} {H : Hp} {Q : VK} (hz : l.length ≤ 100000) (h : Q (.int (l.length : Nat)) H) : rLenS1 [.str (S l)] H Q := ⟨l, rfl, hz, h⟩
theorem iInS {c : Nat} {l : List Nat} {H : Hp} {Q : VK} (h : Q (.bl (decide (c ∈ l))) H) : rInS false (.str (S [c])) (.str (S l)) H Q := ⟨c, l, rfl, rfl, by simpa using h⟩
theorem iNotInS {c : Nat} {l : List Nat} {H : Hp} {Q : VK} (h : Q (.bl (!decide (c ∈ l))) H) : rInS true (.str (S [c])) (.str (S l)) H Q := ⟨c, l, rfl, rfl, by simpa using h⟩
def rFindS : V → List V → Hp → VK → Prop := fun x xs H Q => ∃ (l : List Nat) (c : Nat), x = .str (S l) ∧ xs = [.str (S [c])] ∧ Q (.int (if c ∈ l then (n1 l c : Int) else -1)) H
theorem mt_findS {X : Cx} : MtR X "str.find" rFindS := by
  intro pins s σ H x xs v us Q I rx rs h
  obtain ⟨l, c, rfl, rfl, q⟩ := h
  exact mt_find pins s σ H _ _ v us Q I rx rs ⟨_, _, rfl, rfl, by rw [findS]; exact q⟩
def rStartS : V → List V → Hp → VK → Prop := fun x xs H Q => ∃ (l : List Nat) (c : Nat), x = .str (S l) ∧ xs = [.str (S [c])] ∧ Q (.bl (decide (l[0]? = some c))) H
theorem mt_startS {X : Cx} : MtR X "str.startswith" rStartS := by
  intro pins s σ H x xs v us Q I rx rs h
  obtain ⟨l, c, rfl, rfl, q⟩ := h
  exact mt_startswith pins s σ H _ _ v us Q I rx rs ⟨_, _, rfl, rfl, by rw [startsS]; exact q⟩
def rPartS : V → List V → Hp → VK → Prop := fun x xs H Q => ∃ (l : List Nat) (c : Nat), x = .str (S l) ∧ xs = [.str (S [c])] ∧ l.length ≤ 100000 ∧ ∀ p, H p = none → ∀ y z : V, Q (.ref p) (upd H p (.tup [.str (S (l.take (n1 l c))), y, z]))
theorem mt_partS {X : Cx} : MtR X "str.partition" rPartS := by
  intro pins s σ H x xs v us Q I rx rs h
  obtain ⟨l, c, rfl, rfl, hz, q⟩ := h
  exact mt_partition pins s σ H _ _ v us Q I rx rs ⟨_, _, rfl, rfl, rfl, S_le hz, fun p hp => by rw [partS]; exact q p hp _ _⟩
theorem iFindS {c : Nat} {l : List Nat} {H : Hp} {Q : VK} (h : Q (.int (if c ∈ l then (n1 l c : Int) else -1)) H) : rFindS (.str (S l)) [.str (S [c])] H Q := ⟨l, c, rfl, rfl, h⟩
theorem iFindYes {c : Nat} {l : List Nat} {H : Hp} {Q : VK} (hc : c ∈ l) (h : Q (.int (n1 l c : Nat)) H) : rFindS (.str (S l)) [.str (S [c])] H Q := iFindS (by rw [if_pos hc]; exact h)
theorem iFindNo {c : Nat} {l : List Nat} {H : Hp} {Q : VK} (hc : ¬ c ∈ l) (h : Q (.int (-1)) H) : rFindS (.str (S l)) [.str (S [c])] H Q := iFindS (by rw [if_neg hc]; exact h)
theorem iStartS {c : Nat} {l : List Nat} {H : Hp} {Q : VK} (h : Q (.bl (decide (l[0]? = some c))) H) : rStartS (.str (S l)) [.str (S [c])] H Q := ⟨l, c, rfl, rfl, h⟩
theorem iPartS {c : Nat} {l : List Nat} {H : Hp} {Q : VK} (hz : l.length ≤ 100000) (h : ∀ p, H p = none → ∀ y z : V, Q (.ref p) (upd H p (.tup [.str (S (l.take (n1 l c))), y, z]))) : rPartS (.str (S l)) [.str (S [c])] H Q := ⟨l, c, rfl, rfl, hz, h⟩
theorem inV_S (t : List Nat) : ∀ us : List (List Nat), inV (.str (S t)) (us.map fun l => V.str (S l)) = decide (t ∈ us)
  | [] => rfl
  | u :: r => by
    have ih := inV_S t r
    unfold inV at ih ⊢
    rw [List.map_cons, List.any_cons, ih]
    have e : eqV (V.str (S u)) (V.str (S t)) = decide (t = u) := by
      show (S u == S t) = _
      by_cases h : t = u
      · subst h
        simp
      · have h2 : S u ≠ S t := fun e => h (S_inj.mp e).symm
        rw [beq_eq_false_iff_ne.mpr h2, decide_eq_false h]
    rw [e, Bool.eq_iff_iff]
    simp
/-- a text among written texts -/
theorem iInL {K : PySem.W.Frag} {p : Addr} {t : List Nat} {us : List (List Nat)} {xs : List V} {H : Hp} {Q : VK} (hq : SqL K H p xs ∨ SqT K H p xs) (hx : xs = us.map fun l => V.str (S l)) (h : Q (.bl (decide (t ∈ us))) H) : rIn K false (.str (S t)) (.ref p) H Q := by
  subst hx
  refine ⟨p, _, rfl, hq, rfl, ?_, ?_⟩
  · rw [List.all_map]
    simp [flatV]
  · rw [if_neg Bool.false_ne_true, inV_S]
    exact h
theorem iNInL {K : PySem.W.Frag} {p : Addr} {t : List Nat} {us : List (List Nat)} {xs : List V} {H : Hp} {Q : VK} (hq : SqL K H p xs ∨ SqT K H p xs) (hx : xs = us.map fun l => V.str (S l)) (h : Q (.bl (!decide (t ∈ us))) H) : rIn K true (.str (S t)) (.ref p) H Q := by
  subst hx
  refine ⟨p, _, rfl, hq, rfl, ?_, ?_⟩
  · rw [List.all_map]
    simp [flatV]
  · rw [if_pos rfl, inV_S]
    exact h
end Vk
set_option Elab.async false
set_option linter.all false
set_option maxRecDepth 100000
set_option maxHeartbeats 4000000
namespace Vk
open PySem PySem.Spec PyProof.Rows L2
/-! V2: isinstance -/
section
variable {K : PySem.W.Frag} {H : Hp} {Q : VK}
theorem isi_int_int {i : Int} (h : Q (.bl true) H) : rIsi K [.int i, .ty "int"] H Q := ⟨_, _, _, _, true, rfl, .ty "int", .base (.int i), rfl, h⟩
theorem isi_int_bool {i : Int} (h : Q (.bl false) H) : rIsi K [.int i, .ty "bool"] H Q := ⟨_, _, _, _, false, rfl, .ty "bool", .base (.int i), rfl, h⟩
theorem isi_int_str {i : Int} (h : Q (.bl false) H) : rIsi K [.int i, .ty "str"] H Q := ⟨_, _, _, _, false, rfl, .ty "str", .base (.int i), rfl, h⟩
theorem isi_str_str {z : Str} (h : Q (.bl true) H) : rIsi K [.str z, .ty "str"] H Q := ⟨_, _, _, _, true, rfl, .ty "str", .base (.str z), rfl, h⟩
theorem isi_str_int {z : Str} (h : Q (.bl false) H) : rIsi K [.str z, .ty "int"] H Q := ⟨_, _, _, _, false, rfl, .ty "int", .base (.str z), rfl, h⟩
theorem isi_str_bool {z : Str} (h : Q (.bl false) H) : rIsi K [.str z, .ty "bool"] H Q := ⟨_, _, _, _, false, rfl, .ty "bool", .base (.str z), rfl, h⟩
theorem isi_bl_bool {b : Bool} (h : Q (.bl true) H) : rIsi K [.bl b, .ty "bool"] H Q := ⟨_, _, _, _, true, rfl, .ty "bool", .base (.bl b), rfl, h⟩
theorem isi_bl_int {b : Bool} (h : Q (.bl true) H) : rIsi K [.bl b, .ty "int"] H Q := ⟨_, _, _, _, true, rfl, .ty "int", .base (.bl b), rfl, h⟩
theorem isi_bl_str {b : Bool} (h : Q (.bl false) H) : rIsi K [.bl b, .ty "str"] H Q := ⟨_, _, _, _, false, rfl, .ty "str", .base (.bl b), rfl, h⟩
end
end Vk
set_option Elab.async false
set_option linter.all false
set_option maxRecDepth 100000
set_option maxHeartbeats 4000000
namespace Vk
open PySem PySem.Spec PyProof.Rows L2
/-! V3: comprehensions, loops, texts joined -/
theorem SqL.off {K : PySem.W.Frag} {H1 H2 : Hp} {a D : Addr} {xs : List V} (h : SqL K H1 a xs) (hD : H1 D = none) (off : ∀ b, b ≠ D → H2 b = H1 b) : SqL K H2 a xs := by
  rcases h with h | h
  · refine .inl ?_
    rcases h with h | ⟨o, h⟩
    · exact .inl ((off a (ne_of_none h hD)).trans h)
    · exact .inr ⟨o, (off a (ne_of_none h hD)).trans h⟩
  · exact .inr h
theorem SqL.same {K : PySem.W.Frag} {H1 H2 : Hp} {a : Addr} {xs : List V} (h : SqL K H1 a xs) (s : Same H1 H2) : SqL K H2 a xs := by
  rcases h with h | h
  · refine .inl ?_
    rcases h with h | ⟨o, h⟩
    · exact .inl (s _ _ h)
    · exact .inr ⟨o, s _ _ h⟩
  · exact .inr h
section
variable {K : PySem.W.Frag} {σ : L2.St} {H H1 : Hp} {Q : VK} {te tl : TE} {tt : TT} {vs : List Nat} {g : TG} {ta : TA}
/-- the loop of a comprehension, for the walk to stop at -/
def LcG (J : It) (g : TG) (tt : TT) (te : TE) (vs : List Nat) (σ : L2.St) (H1 : Hp) (D : Addr) (Q : VK) : Prop := ∃ W : Nat → Nat → Hp → Prop, (∃ m, W 0 m (upd H1 D (.lst []))) ∧ ∀ i m H, W i m H →
  (J.stop i H ∧ Q (.ref D) H) ∨ (J.go i H ∧ ∃ Nx : Hp → Prop, (∀ H', Nx H' → ∃ m', m' < m ∧ W (i + 1) m' H') ∧ ∀ x H', J.yld i H x H' → g x (wipe σ vs) H' fun σ2 H2 => wipe σ2 vs = wipe σ vs ∧ tt σ2 H2 fun b H3 =>
    if b = true then te σ2 H3 fun y H4 => ∃ acc, H4 D = some (.lst acc) ∧ acc.length < sizeLine ∧ Nx (upd H4 D (.lst (acc ++ [y]))) else Nx H3)
theorem iLcL (h : tl σ H fun x H1 => ∃ a, x = .ref a ∧ (∃ xs, SqL K H1 a xs) ∧ ∀ D, H1 D = none → LcG (Itl K a) g tt te vs σ H1 D Q) : tLc (iList K tl) g tt te vs σ H Q := h
theorem iLcS (h : tl σ H fun x H1 => ∃ z, x = .str z ∧ ∀ D, H1 D = none → LcG (Its z) g tt te vs σ H1 D Q) : tLc (iStr tl) g tt te vs σ H Q := h
theorem iLcR1 (h : ta σ H fun ws H1 => ∃ j : Int, ws = [.int j] ∧ -(2 ^ 62) ≤ j ∧ j < 2 ^ 62 ∧ ∀ D, H1 D = none → LcG (Itr 0 j.toNat) g tt te vs σ H1 D Q) : tLc (iRng1 ta) g tt te vs σ H Q := h
/-- a comprehension over a list that stands still, nothing else done -/
theorem lcg_list {a D : Addr} {xs : List V} {j : Nat} (p : V → Bool) (v : V → V) (hl : xs.length ≤ 4000) (hx : SqL K H1 a xs) (hD : H1 D = none)
    (hw : ∀ x, wipe ((wipe σ vs).set j (some x)) vs = wipe σ vs)
    (ht : ∀ x ∈ xs, ∀ (H2 : Hp) (Q : Bool → Hp → Prop), (∀ b, b ≠ D → H2 b = H1 b) → Q (p x) H2 → tt ((wipe σ vs).set j (some x)) H2 Q)
    (he : ∀ x ∈ xs, p x = true → ∀ (H2 : Hp) (Q : VK), (∀ b, b ≠ D → H2 b = H1 b) → Q (v x) H2 → te ((wipe σ vs).set j (some x)) H2 Q)
    (hq : Q (.ref D) (upd H1 D (.lst ((xs.filter p).map v)))) : LcG (Itl K a) (gName j) tt te vs σ H1 D Q := by
  refine lc_it (walk_list (K := K) (a := a) (xs := xs)) (fun i H => H = upd H1 D (.lst (((xs.take i).filter p).map v))) rfl (fun i H hi e => ?_) ?_ ?_
  · subst e
    exact SqL.off hx hD fun b hb => upd_ne hb
  · rintro i x H H' hi hP ⟨rfl, hc⟩
    subst hP
    have hm : x ∈ xs := List.mem_of_getElem? hc
    have off : ∀ b, b ≠ D → (upd H1 D (.lst (((xs.take i).filter p).map v))) b = H1 b := fun b hb => upd_ne hb
    have e1 : xs.take (i + 1) = xs.take i ++ [x] := by
      rw [List.take_add_one, hc]
      rfl
    refine ⟨hw _, ht x hm _ _ off ?_⟩
    by_cases hp : p x = true
    · rw [if_pos hp]
      refine he x hm hp _ _ off ⟨_, upd_same, ?_, ?_⟩
      · rw [List.length_map, sizeLine_eq]
        have h1 := List.length_filter_le p (xs.take i)
        rw [List.length_take] at h1
        omega
      · rw [upd_upd, e1, List.filter_append, List.filter_cons_of_pos hp, List.filter_nil, List.map_append]
        rfl
    · rw [if_neg hp, e1, List.filter_append, List.filter_cons_of_neg hp, List.filter_nil, List.append_nil]
  · rintro H rfl
    rw [List.take_length]
    exact hq
/-! for -/
/-- the loop of a for, for the walk to stop at -/
def ForG (J : It) (g : TG) (tb : TS) (D : Ends) (σ : L2.St) (H1 : Hp) : Prop := ∃ W : Nat → Nat → L2.St → Hp → Prop, (∃ m, W 0 m σ H1) ∧ ∀ i m σ H, W i m σ H →
  (J.stop i H ∧ D.nx σ H) ∨ (J.go i H ∧ ∃ N : L2.St → Hp → Prop, (∀ σ' H', N σ' H' → ∃ m', m' < m ∧ W (i + 1) m' σ' H') ∧ ∀ x H', J.yld i H x H' → g x σ H' fun σ2 H2 => tb { D with nx := N, ct := N, bk := D.nx } σ2 H2)
theorem iForL {D : Ends} {tb : TS} (h : tl σ H fun x H1 => ∃ a, x = .ref a ∧ (∃ xs, SqL K H1 a xs) ∧ ForG (Itl K a) g tb D σ H1) : tFor (iList K tl) g tb D σ H := h
theorem iForS {D : Ends} {tb : TS} (h : tl σ H fun x H1 => ∃ z, x = .str z ∧ ForG (Its z) g tb D σ H1) : tFor (iStr tl) g tb D σ H := h
theorem iForR1 {D : Ends} {tb : TS} (h : ta σ H fun ws H1 => ∃ j : Int, ws = [.int j] ∧ -(2 ^ 62) ≤ j ∧ j < 2 ^ 62 ∧ ForG (Itr 0 j.toNat) g tb D σ H1) : tFor (iRng1 ta) g tb D σ H := h
theorem iForR2 {D : Ends} {tb : TS} (h : ta σ H fun ws H1 => ∃ i j : Int, ws = [.int i, .int j] ∧ (-(2 ^ 62) ≤ i ∧ i < 2 ^ 62 ∧ -(2 ^ 62) ≤ j ∧ j < 2 ^ 62) ∧ ForG (Itr i (j - i).toNat) g tb D σ H1) : tFor (iRng2 ta) g tb D σ H := h
/-- a loop over a text -/
theorem for_S {D : Ends} {tb : TS} {l : List Nat} (Pv : Nat → L2.St → Hp → Prop) (h0 : Pv 0 σ H)
    (hs : ∀ i c σ H, l[i]? = some c → Pv i σ H → g (.str (S [c])) σ H fun σ2 H2 => tb { nx := Pv (i + 1), rt := D.rt, bk := D.nx, ct := Pv (i + 1) } σ2 H2) (hd : ∀ σ H, Pv l.length σ H → D.nx σ H) : ForG (Its (S l)) g tb D σ H := by
  refine for_it walk_str Pv h0 (fun _ _ _ _ _ => trivial) ?_ ?_
  · rintro i x σ H H' hi hP ⟨rfl, c, hc, rfl⟩
    exact hs i c σ _ (S_get.mp hc) hP
  · intro σ H h
    rw [S_size] at h
    exact hd σ H h
/-- a loop over range(n) -/
theorem for_R {D : Ends} {tb : TS} {lo : Int} {n : Nat} (Pv : Nat → L2.St → Hp → Prop) (h0 : Pv 0 σ H)
    (hs : ∀ i σ H, i < n → Pv i σ H → g (.int (lo + (i : Int))) σ H fun σ2 H2 => tb { nx := Pv (i + 1), rt := D.rt, bk := D.nx, ct := Pv (i + 1) } σ2 H2) (hd : ∀ σ H, Pv n σ H → D.nx σ H) : ForG (Itr lo n) g tb D σ H :=
  for_range Pv h0 hs hd
/-- a loop over a list -/
theorem for_L {D : Ends} {tb : TS} {a : Addr} {xs : List V} (Pv : Nat → L2.St → Hp → Prop) (h0 : Pv 0 σ H) (hl : ∀ i σ H, i ≤ xs.length → Pv i σ H → SqL K H a xs)
    (hs : ∀ i x σ H, xs[i]? = some x → Pv i σ H → g x σ H fun σ2 H2 => tb { nx := Pv (i + 1), rt := D.rt, bk := D.nx, ct := Pv (i + 1) } σ2 H2) (hd : ∀ σ H, Pv xs.length σ H → D.nx σ H) : ForG (Itl K a) g tb D σ H :=
  for_list Pv h0 hl hs hd
/-- a comprehension over range(n), which may change the heap -/
theorem lcg_R {D : Addr} {n j : Nat} {lo : Int} (Pv : Nat → Hp → Prop) (h0 : Pv 0 (upd H1 D (.lst []))) (hw : ∀ x, wipe ((wipe σ vs).set j (some x)) vs = wipe σ vs)
    (hs : ∀ i H, i < n → Pv i H → tt ((wipe σ vs).set j (some (.int (lo + (i : Int))))) H fun b H3 => if b = true then te ((wipe σ vs).set j (some (.int (lo + (i : Int))))) H3 fun y H4 => ∃ acc, H4 D = some (.lst acc) ∧ acc.length < sizeLine ∧ Pv (i + 1) (upd H4 D (.lst (acc ++ [y]))) else Pv (i + 1) H3)
    (hd : ∀ H, Pv n H → Q (.ref D) H) : LcG (Itr lo n) (gName j) tt te vs σ H1 D Q := by
  refine lc_it walk_range Pv h0 (fun _ _ _ _ => trivial) ?_ hd
  rintro i x H H' hi hP ⟨rfl, rfl⟩
  exact ⟨hw _, hs i _ hi hP⟩
/-- .. over a text -/
theorem lcg_S {D : Addr} {j : Nat} {l : List Nat} (Pv : Nat → Hp → Prop) (h0 : Pv 0 (upd H1 D (.lst []))) (hw : ∀ x, wipe ((wipe σ vs).set j (some x)) vs = wipe σ vs)
    (hs : ∀ i c H, l[i]? = some c → Pv i H → tt ((wipe σ vs).set j (some (.str (S [c])))) H fun b H3 => if b = true then te ((wipe σ vs).set j (some (.str (S [c])))) H3 fun y H4 => ∃ acc, H4 D = some (.lst acc) ∧ acc.length < sizeLine ∧ Pv (i + 1) (upd H4 D (.lst (acc ++ [y]))) else Pv (i + 1) H3)
    (hd : ∀ H, Pv l.length H → Q (.ref D) H) : LcG (Its (S l)) (gName j) tt te vs σ H1 D Q := by
  refine lc_it walk_str Pv h0 (fun _ _ _ _ => trivial) ?_ ?_
  · rintro i x H H' hi hP ⟨rfl, c, hc, rfl⟩
    exact ⟨hw _, hs i c _ (S_get.mp hc) hP⟩
  · intro H h
    rw [S_size] at h
    exact hd H h
theorem iYes {Q : Bool → Hp → Prop} (h : Q true H) : tYes σ H Q := h
end
/-- what was new is forgotten -/
theorem Fr.forget {L M : List Addr} {H H' : Hp} (f : Fr M H H') (h : ∀ x ∈ M, x ∈ L ∨ H x = Option.none) : Fr L H H' := fun x u hx e => f x u (fun hm => by
  rcases h x hm with h | h
  · exact hx h
  · rw [e] at h
    cases h) e
theorem Fr.forget2 {b D : Addr} {H H' : Hp} (f : Fr [b, D] H H') (h : H D = Option.none) : Fr [b] H H' := f.forget fun x hx => by
  rcases List.mem_cons.mp hx with rfl | hx
  · exact .inl List.mem_cons_self
  · rw [List.mem_singleton] at hx
    subst hx
    exact .inr h
theorem Fr.forget1 {D : Addr} {H H' : Hp} (f : Fr [D] H H') (h : H D = Option.none) : Same H H' := (f.forget (L := []) fun x hx => by
    rw [List.mem_singleton] at hx
    subst hx
    exact .inr h).same
/-- '' joins signs -/
theorem join_S {l : List Nat} (hl : l.length ≤ 4000) : (((l.map fun c => S [c]).map (·.length)).sum + (l.map fun c => S [c]).length * (S []).length ≤ 16777216) ∧ Txt.join (S []) (l.map fun c => S [c]) = S l := by
  refine ⟨?_, join_signs _⟩
  rw [S_len, List.length_nil, Nat.mul_zero, Nat.add_zero, List.map_map]
  have e1 : l.map ((fun x : Str => x.length) ∘ fun c => S [c]) = l.map fun _ => 1 := List.map_congr_left fun c _ => S_len [c]
  rw [e1]
  have e2 : (l.map fun _ => 1).sum = l.length := by
    clear hl e1
    induction l with
    | nil => rfl
    | cons x xs ih => rw [List.map_cons, List.sum_cons, ih, List.length_cons, Nat.add_comm]
  rw [e2]
  omega
theorem iJoinS {K : PySem.W.Frag} {p : Addr} {l : List Nat} {H : Hp} {Q : VK} (hq : SqL K H p (l.map fun c => V.str (S [c]))) (hl : l.length ≤ 4000) (h : Q (.str (S l)) H) :
    ∃ (a : Str) (q : Addr) (ys : List Str), V.str (S []) = .str a ∧ [V.ref p] = [.ref q] ∧ (SqL K H q (ys.map V.str) ∨ SqT K H q (ys.map V.str)) ∧ (ys.map (·.length)).sum + ys.length * a.length ≤ 16777216 ∧ Q (.str (Txt.join a ys)) H := by
  obtain ⟨h1, h2⟩ := join_S hl
  refine ⟨S [], p, l.map fun c => S [c], rfl, rfl, .inl ?_, h1, ?_⟩
  · rw [List.map_map]
    exact hq
  · rw [h2]
    exact h
end Vk
set_option Elab.async false
set_option linter.all false
set_option maxRecDepth 100000
set_option maxHeartbeats 4000000
namespace Vk
open PySem PySem.Spec PyProof.Rows L2
section
variable {X : Cx}
/-- list(text): its signs -/
theorem call_listT (hc : X.calm = true) : CallR X (.type "list") rListT := by
  intro pins s σ H xs us Q I r q
  obtain ⟨z, ex, hz, q⟩ := q
  subst ex
  obtain ⟨u, eu, rx⟩ := vals1 r
  subst eu
  obtain ⟨t, rfl⟩ := rx
  have hz2 : z.cps.size ≤ 4000 := hz
  refine call_list_str (hn := by rw [sizeLine_eq]; omega) (I.ok.hd hc) z t fun h' tk acc c' hk he hacc => ?_
  have hS := signs_strs hacc
  have hlen : ((signsOf z).map V.str).length ≤ sizeLine := by
    rw [List.length_map]
    unfold signsOf
    rw [List.length_map, Array.length_toList, sizeLine_eq]
    omega
  refine ⟨.ref s.heap.objs.size, upd H s.heap.objs.size (.lst ((signsOf z).map V.str)), I.laid (t' := tk) hk (Nat.le_refl _)
    (show ObjOk X.prog X.w _ _ _ (.lst ((signsOf z).map V.str)) from ⟨hlen, acc.toList, c', vals_of_strs hS, by rw [Array.toArray_toList]; exact he⟩), rfl, q _ (I.hok.fresh (Nat.le_refl _))⟩
def repL (n : Nat) (l : List Nat) : List Nat := (List.replicate n l).flatten
theorem repL_len (n : Nat) (l : List Nat) : (repL n l).length = n * l.length := by
  unfold repL
  rw [List.length_flatten, List.map_replicate, List.sum_replicate_nat]
theorem fold_rep (a : Array Nat) : ∀ (n : Nat) (acc : Array Nat), ((List.replicate n a).foldl (· ++ ·) acc).toList = acc.toList ++ (List.replicate n a.toList).flatten
  | 0, acc => by simp
  | n + 1, acc => by
    rw [List.replicate_succ, List.foldl_cons, fold_rep a n, List.replicate_succ, List.flatten_cons, Array.toList_append, List.append_assoc]
/-- text * number -/
def rMulT : R2 := fun x y H Q => ∃ (l : List Nat) (n : Nat), x = .str (S l) ∧ y = .int (n : Int) ∧ l.length * n ≤ 4000 ∧ n ≤ 4000 ∧ Q (.str (S (repL n l))) H
theorem op_mulT : OpR X (binaryOp .Mult) rMulT := by
  intro pins s σ H x y v u Q I rx ry h
  obtain ⟨l, n, rfl, rfl, hln, hn, q⟩ := h
  obtain ⟨t, rfl⟩ := rx
  obtain ⟨t', rfl⟩ := ry
  have hl := S_len l
  refine PySem.P.mul_str ?_ (fun h1 h2 => ?_) (fun h1 h2 => ?_) ?_
  · rw [decide_eq_false (by omega), decide_eq_false (by omega)]
    rfl
  · rw [hl]
    have h3 : (l.length : Int) ≤ (2 ^ 63 - 1) / (n : Int) := by
      refine Int.le_ediv_of_mul_le (by omega) ?_
      have : ((l.length * n : Nat) : Int) ≤ 4000 := by omega
      rw [Int.natCast_mul] at this
      omega
    omega
  · unfold PySem.Builtin.Str.tooLong
    rw [hl, Int.toNat_natCast, sizeLine_eq]
    exact decide_eq_false (by omega)
  · by_cases h1 : (n : Int) < 1
    · rw [if_pos h1]
      have e : n = 0 := by omega
      subst e
      exact ⟨by decide, ⟨.str (S (repL 0 l)), H, I.tok _, ⟨_, rfl⟩, q⟩⟩
    · rw [if_neg h1]
      by_cases h2 : ((n : Int) == 1 || (S l).length == 0) = true
      · rw [if_pos h2]
        have e : repL n l = l := by
          rcases Bool.or_eq_true_iff.mp h2 with h | h
          · have : n = 1 := by
              have := beq_iff_eq.mp h
              omega
            subst this
            unfold repL
            simp
          · have h3 := beq_iff_eq.mp h
            rw [hl] at h3
            have : l = [] := List.length_eq_zero_iff.mp h3
            subst this
            unfold repL
            simp
        rw [e] at q
        exact ⟨.str (S l), H, I, ⟨_, rfl⟩, q⟩
      · rw [if_neg h2]
        have e : (⟨(List.replicate (n : Int).toNat (S l).cps).foldl (· ++ ·) #[]⟩ : Str) = S (repL n l) := by
          rw [Int.toNat_natCast, S_of (⟨_⟩ : Str)]
          congr 1
          show ((List.replicate n (S l).cps).foldl (· ++ ·) #[]).toList = _
          rw [fold_rep, S_cps]
          rfl
        rw [e]
        refine ⟨?_, ⟨.str (S (repL n l)), H, I.tok _, ⟨_, rfl⟩, q⟩⟩
        rw [S_len, repL_len, sizeLine_eq, Nat.mul_comm]
        omega
end
end Vk
set_option Elab.async false
set_option linter.all false
set_option maxRecDepth 100000
set_option maxHeartbeats 4000000
namespace Vk
open PySem PySem.Spec PyProof.Rows L2
section
variable {K : PySem.W.Frag} {H : Hp} {Q : VK} {a : Addr} {xs : List V}
theorem iSlL {lo hi : Option Int} (hq : SqL K H a xs) (h : ∀ p, H p = none → Q (.ref p) (upd H p (.lst (cutV xs lo hi)))) : rSlL K (.ref a) lo hi H Q := ⟨a, xs, rfl, hq, h⟩
theorem iCat {b : Addr} {ys : List V} (ha : H a = some (.lst xs)) (hb : H b = some (.lst ys)) (hz : xs.length + ys.length ≤ sizeLine) (h : ∀ p, H p = none → Q (.ref p) (upd H p (.lst (xs ++ ys)))) : rCat (.ref a) (.ref b) H Q := ⟨a, b, xs, ys, rfl, rfl, ha, hb, hz, h⟩
theorem iAppend {y : V} (ha : H a = some (.lst xs)) (hz : xs.length < sizeLine) (h : Q .non (upd H a (.lst (xs ++ [y])))) : rAppend (.ref a) [y] H Q := ⟨a, xs, y, rfl, rfl, ha, hz, h⟩
theorem iTruL {R : Bool → Prop} (hq : SqL K H a xs) (h : R (!xs.isEmpty)) : ∃ k, TruV K (.ref a) H k ∧ R k := ⟨_, .inl ⟨xs, hq, rfl⟩, h⟩
theorem iTruNil {R : Bool → Prop} (hq : SqL K H a []) (h : R false) : ∃ k, TruV K (.ref a) H k ∧ R k := ⟨_, .inl ⟨[], hq, rfl⟩, h⟩
theorem iTruCons {R : Bool → Prop} {x : V} (hq : SqL K H a (x :: xs)) (h : R true) : ∃ k, TruV K (.ref a) H k ∧ R k := ⟨_, .inl ⟨_, hq, rfl⟩, h⟩
theorem iListT {l : List Nat} (hl : l.length ≤ 4000) (h : ∀ p, H p = none → Q (.ref p) (upd H p (.lst (l.map fun c => V.str (S [c]))))) : rListT [.str (S l)] H Q := by
  refine ⟨S l, rfl, (by rw [S_len]; exact hl), fun p hp => ?_⟩
  have e : (signsOf (S l)).map V.str = l.map fun c => V.str (S [c]) := by
    rw [signs_S, List.map_map]
    rfl
  rw [e]
  exact h p hp
end
end Vk
set_option Elab.async false
set_option linter.all false
set_option maxRecDepth 100000
set_option maxHeartbeats 4000000
/-! X62: xs[k] += e of a list -/
namespace Vk
open PySem PySem.Spec PyProof.Rows L2
def gIxN (K : PySem.W.Frag) : V → V → Hp → VK → Prop := fun x y H Q => ∃ (p : Addr) (xs : List V) (k : Nat) (v : V), x = .ref p ∧ y = .int (k : Int) ∧ H p = some (.lst xs) ∧ xs[k]? = some v ∧ Q v H
theorem get_list {X : Cx} : PGet X (gIxN X.K) := by
  intro pins s σ H x y v u Q I rx ry h
  obtain ⟨p, xs, k, z, rfl, rfl, hq, he, q⟩ := h
  cases rx
  obtain ⟨t, rfl⟩ := ry
  obtain ⟨its, r, pl, hz⟩ := I.list (SqL.of hq)
  obtain ⟨w, ew, rw'⟩ := r.get he
  have hl := r.length
  have hn := line63
  have hk : k < xs.length := (List.getElem?_eq_some_iff.mp he).1
  have fin : EP X pins σ Q w s := ⟨z, H, I, rw', q⟩
  exact wpAny_getItem_list (Q := fun r s' => EP X pins σ Q r s') pl.isList (by omega) (by omega) (by simpa using ew) fin
theorem iAugS {K : PySem.W.Frag} {D : Ends} {σ : L2.St} {H : Hp} {to ti te : TE} {tip : TIp} {tset : TSet} (h : to σ H fun o H1 => ti σ H1 fun i H2 => gIxN K o i H2 fun x H3 => te σ H3 fun y H4 => tip x y H4 fun z H5 => tset o i z H5 fun H6 => D.nx σ H6) : tAugS to ti te (gIxN K) tip tset D σ H := h
theorem iGIx {K : PySem.W.Frag} {H : Hp} {Q : VK} {p : Addr} {xs : List V} {k : Nat} {v : V} (h1 : H p = some (.lst xs)) (h2 : xs[k]? = some v) (q : Q v H) : gIxN K (.ref p) (.int (k : Int)) H Q := ⟨p, xs, k, v, rfl, rfl, h1, h2, q⟩
def CDivH (i j : Int) : Prop := 0 < j ∧ j < 2 ^ 200
theorem op_fdivH {X : Cx} : OpR X (binaryOp .FloorDiv) (rI CDivH fun i j => .int (i.fdiv j)) := opI fun i j _ _ _ _ _ hc q => floordiv_int (by have := hc.1; omega) q (.inl (PyProof.noPylong_of_log2 (by
  have h1 := hc.1
  have h2 := hc.2
  have h0 : j.natAbs ≠ 0 := by omega
  have h3 : j.natAbs < 2 ^ 200 := by
    have : (j.natAbs : Int) < ((2 ^ 200 : Nat) : Int) := by
      rw [Int.natAbs_of_nonneg (by omega)]
      exact h2
    exact Int.ofNat_lt.mp this
  have h4 : j.natAbs.log2 < 200 := (Nat.log2_lt h0).mpr h3
  omega)))
theorem iDivH {i : Int} {n : Nat} {H : Hp} {Q : VK} (h1 : 0 < n) (h2 : n < 2 ^ 200) (q : Q (.int (i.fdiv n)) H) : rI CDivH (fun i j => .int (i.fdiv j)) (.int i) (.int (n : Int)) H Q := ⟨i, n, rfl, rfl, ⟨by omega, by
  have : ((n : Nat) : Int) < ((2 ^ 200 : Nat) : Int) := Int.ofNat_lt.mpr h2
  exact this⟩, q⟩
end Vk
set_option Elab.async false
set_option linter.all false
set_option maxRecDepth 100000
set_option maxHeartbeats 4000000
/-! X60: lists of texts as data: == and != -/
namespace Vk
open PySem PySem.Spec PyProof.Rows L2
namespace TL
abbrev tv (ws : List (List Nat)) : List V := ws.map fun t => V.str (S t)
abbrev pv (ws : List (List Nat)) : List PyData := ws.map fun t => PyData.str (S t)
theorem okT {l : List Nat} (h : ∀ c ∈ l, c < 0x110000) : PyData.strOk (S l) = true := by
  show l.toArray.all (fun c => decide (c < 0x110000)) = true
  simp
  exact h
theorem inj {t u : List Nat} (h : S t = S u) : t = u := by
  have := congrArg (fun z : Str => z.cps.toList) h
  simpa [S_cps] using this
theorem dp {K : PySem.W.Frag} {H : Hp} : ∀ l : List (List Nat), DpAll K H (tv l) (pv l)
  | [] => .nil
  | a :: l => .cons (.str _) (dp l)
theorem can : ∀ l : List (List Nat), (∀ r ∈ l, ∀ c ∈ r, c < 0x110000) → PyData.canLayAll0 (pv l) = true
  | [], _ => by simp [PyData.canLayAll0]
  | a :: l, h => by
    have h1 := okT (h a List.mem_cons_self)
    have h2 := can l fun z hz => h z (List.mem_cons_of_mem _ hz)
    show (PyData.canLay0 (PyData.str (S a)) && PyData.canLayAll0 (pv l)) = true
    rw [h2]
    simp [PyData.canLay0, h1]
theorem dep : ∀ l : List (List Nat), PyData.depthAll (pv l) = 0
  | [] => by simp [PyData.depthAll]
  | a :: l => by
    show max (PyData.depth (PyData.str (S a))) (PyData.depthAll (pv l)) = 0
    rw [dep l]
    simp [PyData.depth]
theorem eqvA : ∀ l m : List (List Nat), PyData.eqvAll (pv l) (pv m) = decide (l = m)
  | [], [] => by simp [PyData.eqvAll]
  | [], _ :: _ => by simp [PyData.eqvAll]
  | _ :: _, [] => by simp [PyData.eqvAll]
  | a :: l, b :: m => by
    have e : (S a == S b) = decide (a = b) := by
      rw [Bool.eq_iff_iff, beq_iff_eq, decide_eq_true_iff]
      exact ⟨inj, fun h => by rw [h]⟩
    show (PyData.eqv (PyData.str (S a)) (PyData.str (S b)) && PyData.eqvAll (pv l) (pv m)) = _
    rw [eqvA l m]
    simp [PyData.eqv, e]
theorem shaped {l : List (List Nat)} (h : ∀ r ∈ l, ∀ c ∈ r, c < 0x110000) : SeqAt.shaped (.list (pv l)) = true := by
  simp [SeqAt.shaped, PyData.canLay0, PyData.depth, can l h, dep]
theorem eqvL (l m : List (List Nat)) : PyData.eqv (.list (pv l)) (.list (pv m)) = decide (l = m) := eqvA l m
/-- two lists of texts -/
theorem iEq {K : PySem.W.Frag} {H : Hp} {Q : VK} {p q : Addr} {l m : List (List Nat)} (h1 : H p = some (.lst (tv l))) (h2 : H q = some (.lst (tv m))) (c1 : ∀ r ∈ l, ∀ c ∈ r, c < 0x110000) (c2 : ∀ r ∈ m, ∀ c ∈ r, c < 0x110000) (k : Q (.bl (decide (l = m))) H) : rEqD K (.ref p) (.ref q) H Q := by
  refine ⟨.list (pv l), .list (pv m), .lst (SqL.of h1) (dp _), .lst (SqL.of h2) (dp _), shaped c1, shaped c2, ?_⟩
  rw [eqvL]
  exact k
end TL
end Vk
set_option Elab.async false
set_option linter.all false
set_option maxRecDepth 100000
set_option maxHeartbeats 4000000
/-! X61: lists of texts in slots: xs[:-1], xs + [e], xs[:i] + [e] + xs[i + 1:] -/
namespace Vk
open PySem PySem.Spec PyProof.Rows L2
namespace TL
theorem tr {H1 H2 H3 : Hp} (h1 : Same H1 H2) (h2 : Same H2 H3) : Same H1 H3 := fun c o h => h2 c o (h1 c o h)
theorem sz1 (v : V) : [v].length ≤ sizeLine := by
  rw [List.length_singleton, sizeLine_eq]
  omega
theorem tvA (a b : List (List Nat)) : tv a ++ tv b = tv (a ++ b) := by
  show a.map _ ++ b.map _ = (a ++ b).map _
  rw [List.map_append]
theorem tvL (a : List (List Nat)) : (tv a).length = a.length := List.length_map ..
theorem sIx_m1 (n d : Nat) : HT.sIx n d (some (-1)) = n - 1 := by
  show (if (-1 : Int) < 0 then ((-1 : Int) + (n : Int)).toNat else min (-1 : Int).toNat n) = n - 1
  rw [if_pos (by decide)]
  omega
theorem cut_init (xs : List V) : cutV xs none (some (-1)) = xs.take (xs.length - 1) := by
  unfold cutV
  rw [sIx_m1]
  show (xs.drop 0).take ((xs.length - 1) - 0) = _
  rw [List.drop_zero, Nat.sub_zero]
theorem cut_to (xs : List V) (k : Nat) : cutV xs none (some (k : Int)) = xs.take k := by
  unfold cutV
  rw [HT.sIx_nat]
  show (xs.drop 0).take (min k xs.length - 0) = _
  rw [List.drop_zero, Nat.sub_zero]
  by_cases h : k ≤ xs.length
  · rw [Nat.min_eq_left h]
  · rw [Nat.min_eq_right (by omega), List.take_of_length_le (Nat.le_refl _), List.take_of_length_le (by omega)]
theorem cut_from (xs : List V) (k : Nat) : cutV xs (some (k : Int)) none = xs.drop k := by
  unfold cutV
  rw [HT.sIx_nat]
  show (xs.drop (min k xs.length)).take (xs.length - min k xs.length) = _
  rw [List.take_of_length_le (by rw [List.length_drop]; omega)]
  by_cases h : k ≤ xs.length
  · rw [Nat.min_eq_left h]
  · rw [Nat.min_eq_right (by omega), List.drop_of_length_le (by omega), List.drop_of_length_le (by omega)]
theorem cutS_init (l : List Nat) : cutS (S l) none (some (-1)) = S (l.take (l.length - 1)) := by
  rw [S_cut]
  rw [sIx_m1]
  show S ((l.drop 0).take ((l.length - 1) - 0)) = _
  rw [List.drop_zero, Nat.sub_zero]
section
variable {K : PySem.W.Frag} {σ : L2.St} {H : Hp} {Q : VK} {te : TE} {i3 i6 r : Nat} {sl : Addr} {sa : List (List Nat)}
theorem new {H : Hp} {p : Addr} {x : HO} (hp : H p = none) : Same H (upd H p x) := Same.upd_new hp
theorem iInit (e3 : σ[i3]? = some (some (.ref sl))) (hs : H sl = some (.lst (tv sa)))
    (h : Stop (∀ p H2, Same H H2 → H2 p = some (.lst (tv (sa.take (sa.length - 1)))) → Q (.ref p) H2)) : tSl (rSlL K) (tVar i3) tNoPart (tPart (tUn (rU fun i => .int (-i)) (tC (.int 1)))) σ H Q := by
  refine iSl (iVar e3 (iNoPart (iPart ?_)))
  refine ⟨1, rfl, -1, rfl, iSlL (.of hs) fun p hp => h p _ (new hp) ?_⟩
  rw [upd_same, cut_init, List.length_map, ← List.map_take]
/-- behind e in xs + [e] -/
def CSnoc (sl : Addr) (Q : VK) : VK := fun v H1 => [v].length ≤ sizeLine ∧ ∀ p, H1 p = none → rCat (.ref sl) (.ref p) (upd H1 p (.lst [v])) Q
theorem iSnoc (e3 : σ[i3]? = some (some (.ref sl))) (h : te σ H (CSnoc sl Q)) : tOp rCat (tVar i3) (tLst (tCons te tNil)) σ H Q := iOp (iVar e3 h)
theorem cSnoc {H1 : Hp} {z : List Nat} (hs : H1 sl = some (.lst (tv sa))) (hl : sa.length ≤ 100) (h : ∀ p H2, Same H1 H2 → H2 p = some (.lst (tv (sa ++ [z]))) → Q (.ref p) H2) : CSnoc sl Q (.str (S z)) H1 := by
  refine ⟨sz1 _, fun p hp => ?_⟩
  have s1 := new (x := .lst [V.str (S z)]) hp
  refine iCat (s1 _ _ hs) upd_same (by rw [List.length_map, List.length_singleton, sizeLine_eq]; omega) fun q hq => ?_
  refine h q _ (tr s1 (new hq)) ?_
  rw [upd_same]
  exact congrArg (fun l => some (HO.lst l)) (tvA sa [z])
/-- behind e in xs[:i] + [e] + .. -/
def CMid (σ : L2.St) (p1 : Addr) (tr : TE) (Q : VK) : VK := fun v H1 => [v].length ≤ sizeLine ∧ ∀ p, H1 p = none → rCat (.ref p1) (.ref p) (upd H1 p (.lst [v])) fun y H2 => tr σ H2 fun z H3 => rCat y z H3 Q
theorem iMid {tr : TE} (e3 : σ[i3]? = some (some (.ref sl))) (e6 : σ[i6]? = some (some (.int (r : Nat)))) (hs : H sl = some (.lst (tv sa)))
    (h : Stop (∀ p1 H1, Same H H1 → H1 p1 = some (.lst (tv (sa.take r))) → te σ H1 (CMid σ p1 tr Q))) : tOp rCat (tOp rCat (tSl (rSlL K) (tVar i3) tNoPart (tPart (tVar i6))) (tLst (tCons te tNil))) tr σ H Q := by
  refine iOp (iOp (iSl (iVar e3 (iNoPart (iPart (iVar e6 ?_))))))
  refine ⟨r, rfl, iSlL (.of hs) fun p hp => ?_⟩
  exact h p _ (new hp) (by rw [upd_same, cut_to, ← List.map_take])
theorem cMid {H1 : Hp} {p1 : Addr} {z : List Nat} (e3 : σ[i3]? = some (some (.ref sl))) (e6 : σ[i6]? = some (some (.int (r : Nat)))) (hs : H1 sl = some (.lst (tv sa))) (h1 : H1 p1 = some (.lst (tv (sa.take r)))) (hl : sa.length ≤ 100)
    (h : ∀ p H2, Same H1 H2 → H2 p = some (.lst (tv (sa.take r ++ [z] ++ sa.drop (r + 1)))) → Q (.ref p) H2) : CMid σ p1 (tSl (rSlL K) (tVar i3) (tPart (tOp (rI0 fun i j => .int (i + j)) (tVar i6) (tC (.int 1)))) tNoPart) Q (.str (S z)) H1 := by
  refine ⟨sz1 _, fun p hp => ?_⟩
  have s1 := new (x := .lst [V.str (S z)]) hp
  have l1 := List.length_take (i := r) (l := sa)
  refine iCat (s1 _ _ h1) upd_same (by rw [List.length_map, List.length_singleton, sizeLine_eq]; omega) fun q hq => ?_
  have s2 := tr s1 (new (x := .lst (tv (sa.take r) ++ [V.str (S z)])) hq)
  have hq2 : (upd (upd H1 p (.lst [V.str (S z)])) q (.lst (tv (sa.take r) ++ [V.str (S z)]))) q = some (.lst (tv (sa.take r ++ [z]))) := by
    rw [upd_same]
    exact congrArg (fun l => some (HO.lst l)) (tvA (sa.take r) [z])
  generalize (upd (upd H1 p (.lst [V.str (S z)])) q (.lst (tv (sa.take r) ++ [V.str (S z)]))) = H2 at s2 hq2
  refine iSl (iVar e3 (iPart (iOp (iVar e6 ?_))))
  refine ⟨(r : Int), 1, rfl, rfl, _, rfl, ?_⟩
  refine iNoPart (iSlL (.of (s2 _ _ hs)) fun y hy => ?_)
  have hy2 : (upd H2 y (.lst (cutV (tv sa) (some ((r : Int) + 1)) none))) y = some (.lst (tv (sa.drop (r + 1)))) := by
    rw [upd_same]
    have : ((r : Int) + 1) = ((r + 1 : Nat) : Int) := rfl
    rw [this, cut_from, ← List.map_drop]
  have s3 := new (x := .lst (cutV (tv sa) (some ((r : Int) + 1)) none)) hy
  generalize (upd H2 y (.lst (cutV (tv sa) (some ((r : Int) + 1)) none))) = H3 at s3 hy2
  refine iCat (s3 _ _ hq2) hy2 (by rw [List.length_map, List.length_map, List.length_append, List.length_singleton, List.length_drop, sizeLine_eq]; omega) fun u hu => ?_
  refine h u _ (tr s2 (tr s3 (new hu))) ?_
  rw [upd_same]
  exact congrArg (fun l => some (HO.lst l)) (tvA _ _)
/-- a new list: the walk stops behind it -/
def CLst (Q : VK) : List V → Hp → Prop := fun xs H1 => xs.length ≤ sizeLine ∧ ∀ p, H1 p = none → Q (.ref p) (upd H1 p (.lst xs))
theorem iLstS {ts : TA} (h : ts σ H (CLst Q)) : tLst ts σ H Q := iLst h
theorem cLst {xs : List V} (hl : xs.length ≤ 1000) (h : ∀ p H2, H p = none → Same H H2 → H2 p = some (.lst xs) → Q (.ref p) H2) : CLst Q xs H := ⟨by rw [sizeLine_eq]; omega, fun p hp => h p _ hp (new hp) upd_same⟩
/-- two lists of whatever -/
theorem iCatS {a b : Addr} {xs ys : List V} (ha : H a = some (.lst xs)) (hb : H b = some (.lst ys)) (hz : xs.length + ys.length ≤ 10000) (h : ∀ p H2, H p = none → Same H H2 → H2 p = some (.lst (xs ++ ys)) → Q (.ref p) H2) : rCat (.ref a) (.ref b) H Q :=
  iCat ha hb (by rw [sizeLine_eq]; omega) fun p hp => h p _ hp (new hp) upd_same
end
end TL
end Vk
set_option Elab.async false
set_option linter.all false
set_option maxRecDepth 100000
set_option maxHeartbeats 4000000
namespace L2
open PySem PySem.Spec PyProof.Rows
/-! X40: a comprehension with two fors, by walks -/
def Inner (J1 : It) (g1 : TG) (tt1 : TT) (te : TE) (vs1 : List Nat) (σ2 : L2.St) (H4 : Hp) (D : Addr) (N : Hp → Prop) : Prop := ∃ W1 : Nat → Nat → Hp → Prop, (∃ m, W1 0 m H4) ∧ ∀ j k H, W1 j k H →
  (J1.stop j H ∧ N H) ∨ (J1.go j H ∧ ∃ Nx1 : Hp → Prop, (∀ H', Nx1 H' → ∃ k', k' < k ∧ W1 (j + 1) k' H') ∧ ∀ x H', J1.yld j H x H' → g1 x (wipe σ2 vs1) H' fun σ3 H5 => wipe σ3 vs1 = wipe σ2 vs1 ∧ tt1 σ3 H5 fun b H6 =>
    if b = true then te σ3 H6 fun y H7 => ∃ acc, H7 D = some (.lst acc) ∧ acc.length < sizeLine ∧ Nx1 (upd H7 D (.lst (acc ++ [y]))) else Nx1 H6)
def Lc2G (J : It) (g : TG) (tt : TT) (wi1 : TI) (g1 : TG) (tt1 : TT) (te : TE) (vs vs1 : List Nat) (σ : L2.St) (H1 : Hp) (D : Addr) (Q : VK) : Prop := ∃ W : Nat → Nat → Hp → Prop, (∃ m, W 0 m (upd H1 D (.lst []))) ∧ ∀ i m H, W i m H →
  (J.stop i H ∧ Q (.ref D) H) ∨ (J.go i H ∧ ∃ Nx : Hp → Prop, (∀ H', Nx H' → ∃ m', m' < m ∧ W (i + 1) m' H') ∧ ∀ x H', J.yld i H x H' → g x (wipe σ vs) H' fun σ2 H2 => wipe σ2 vs = wipe σ vs ∧ tt σ2 H2 fun b H3 =>
    if b = true then wi1 σ2 H3 fun J1 H4 => Inner J1 g1 tt1 te vs1 σ2 H4 D Nx else Nx H3)
section
variable {J J1 : It} {n : Nat} {G : Hp → Prop} {Y : Nat → Hp → V → Hp → Prop} {g g1 : TG} {tt tt1 : TT} {te : TE} {wi1 : TI} {vs vs1 : List Nat} {σ σ2 : L2.St} {H1 H4 : Hp} {D : Addr} {N : Hp → Prop} {Q : VK} {tl : TE}
theorem inner_it (w : Walk J1 n G Y) (Pw : Nat → Hp → Prop) (h0 : Pw 0 H4) (hG : ∀ i H, i ≤ n → Pw i H → G H)
    (hs : ∀ i x H H', i < n → Pw i H → Y i H x H' → g1 x (wipe σ2 vs1) H' fun σ3 H5 => wipe σ3 vs1 = wipe σ2 vs1 ∧ tt1 σ3 H5 fun b H6 =>
      if b = true then te σ3 H6 fun y H7 => ∃ acc, H7 D = some (.lst acc) ∧ acc.length < sizeLine ∧ Pw (i + 1) (upd H7 D (.lst (acc ++ [y]))) else Pw (i + 1) H6) (hd : ∀ H, Pw n H → N H) : Inner J1 g1 tt1 te vs1 σ2 H4 D N := by
  refine ⟨fun i m H => m = n - i ∧ i ≤ n ∧ Pw i H, ⟨n, by simp, Nat.zero_le _, h0⟩, ?_⟩
  rintro i m H ⟨rfl, hi, p⟩
  have q := hG i H hi p
  by_cases hlt : i < n
  · exact .inr ⟨w.goes i H hlt q, Pw (i + 1), fun H' p' => ⟨n - (i + 1), by omega, rfl, hlt, p'⟩, fun x H' y => hs i x H H' hlt p (w.yields i H x H' hlt q y)⟩
  · have e : i = n := by omega
    subst e
    exact .inl ⟨w.stops H q, hd H p⟩
theorem lc2_it (w : Walk J n G Y) (Pv : Nat → Hp → Prop) (h0 : Pv 0 (upd H1 D (.lst []))) (hG : ∀ i H, i ≤ n → Pv i H → G H)
    (hs : ∀ i x H H', i < n → Pv i H → Y i H x H' → g x (wipe σ vs) H' fun σ2 H2 => wipe σ2 vs = wipe σ vs ∧ tt σ2 H2 fun b H3 =>
      if b = true then wi1 σ2 H3 fun J1 H4 => Inner J1 g1 tt1 te vs1 σ2 H4 D (Pv (i + 1)) else Pv (i + 1) H3) (hd : ∀ H, Pv n H → Q (.ref D) H) : Lc2G J g tt wi1 g1 tt1 te vs vs1 σ H1 D Q := by
  refine ⟨fun i m H => m = n - i ∧ i ≤ n ∧ Pv i H, ⟨n, by simp, Nat.zero_le _, h0⟩, ?_⟩
  rintro i m H ⟨rfl, hi, p⟩
  have q := hG i H hi p
  by_cases hlt : i < n
  · exact .inr ⟨w.goes i H hlt q, Pv (i + 1), fun H' p' => ⟨n - (i + 1), by omega, rfl, hlt, p'⟩, fun x H' y => hs i x H H' hlt p (w.yields i H x H' hlt q y)⟩
  · have e : i = n := by omega
    subst e
    exact .inl ⟨w.stops H q, hd H p⟩
theorem iLc2S (h : tl σ H1 fun x H1 => ∃ z, x = .str z ∧ ∀ D, H1 D = none → Lc2G (Its z) g tt wi1 g1 tt1 te vs vs1 σ H1 D Q) : tLc2 (iStr tl) g tt wi1 g1 tt1 te vs vs1 σ H1 Q := h
theorem iLc2L {K : PySem.W.Frag} (h : tl σ H1 fun x H1 => ∃ a, x = .ref a ∧ (∃ xs, SqL K H1 a xs) ∧ ∀ D, H1 D = none → Lc2G (Itl K a) g tt wi1 g1 tt1 te vs vs1 σ H1 D Q) : tLc2 (iList K tl) g tt wi1 g1 tt1 te vs vs1 σ H1 Q := h
theorem iIStr {R : It → Hp → Prop} (h : tl σ H1 fun x H1 => ∃ z, x = .str z ∧ R (Its z) H1) : iStr tl σ H1 R := h
theorem iMakeD {C : Addr} {sp : Sp} {dvs : List V} {E : XK} {t : TA} {H : Hp} {Q : VK} (h : t σ H fun vs H1 => ∀ x dx, H1 x = none → H1 dx = none → dx ≠ x → sp (.ref x :: (vs ++ dvs)) (upd (upd H1 dx (.own x)) x (.ins C dx [])) (fun v H2 => v = .non ∧ Q (.ref x) H2) E) : tMake C sp dvs E t σ H Q := h
end
end L2
namespace Vk
open PySem PySem.Spec PyProof.Rows L2
theorem walk_S {l : List Nat} : Walk (Its (S l)) l.length (fun _ => True) (fun i H v H' => H' = H ∧ ∃ c, l[i]? = some c ∧ v = .str (S [c])) := by
  have w := walk_str (z := S l)
  rw [S_size] at w
  exact w.mono (fun _ h => h) fun i H x H' hi _ h => by
    obtain ⟨rfl, c, hc, rfl⟩ := h
    exact ⟨rfl, c, S_get.mp hc, rfl⟩
theorem iMakeV {C : Addr} {σ : L2.St} {sp : Sp} {dvs : List V} {E : XK} {tf : TE} {t : TA} {H : Hp} {Q : VK} (h : tf σ H fun v H0 => v = .ref C ∧ tMake C sp dvs E t σ H0 Q) : tMakeV C sp dvs E tf t σ H Q := h
end Vk
set_option Elab.async false
set_option linter.all false
set_option maxRecDepth 100000
set_option maxHeartbeats 4000000
namespace Vk
open PySem PySem.Spec PyProof.Rows L2 PySem.Builtin.Str
/-! X41: xs[::2], text[::-1] -/
/-- the first, the third, .. -/
def pick2 {α : Type} (xs : List α) : List α := (sliceRange (sliceBounds none none (some 2) xs.length).1 (sliceBounds none none (some 2) xs.length).2.1 (sliceBounds none none (some 2) xs.length).2.2).filterMap (xs[·]?)
theorem pick2_mem {α : Type} {xs : List α} {x : α} (h : x ∈ pick2 xs) : x ∈ xs := by
  unfold pick2 at h
  obtain ⟨i, _, e⟩ := List.mem_filterMap.mp h
  exact List.mem_of_getElem? e
theorem pick2_len {α : Type} (xs : List α) : (pick2 xs).length ≤ xs.length := by
  unfold pick2
  refine Nat.le_trans (List.length_filterMap_le _ _) (sliceRange_length_le _ _ _ _ (fun _ => ?_) fun hc => ?_)
  · simp [sliceBounds]
  · simp [sliceBounds] at hc
theorem pick2_map {α β : Type} (f : α → β) (xs : List α) : pick2 (xs.map f) = (pick2 xs).map f := by
  unfold pick2
  rw [List.length_map, List.map_filterMap]
  congr 1
  funext i
  rw [List.getElem?_map]
theorem vals_pick : ∀ (is : List Nat) {xs : List V} {us : List Value}, Vals xs us → Vals (is.filterMap (xs[·]?)) (is.filterMap (us[·]?))
  | [], _, _, _ => .nil
  | i :: is, xs, us, r => by
    have ih := vals_pick is r
    have hl := r.length
    by_cases h : i < xs.length
    · have e1 : xs[i]? = some xs[i] := List.getElem?_eq_getElem h
      obtain ⟨u, e2, ru⟩ := r.get e1
      rw [List.filterMap_cons, List.filterMap_cons, e1, e2]
      exact .cons ru ih
    · have e1 : xs[i]? = none := List.getElem?_eq_none (by omega)
      have e2 : us[i]? = none := List.getElem?_eq_none (by omega)
      rw [List.filterMap_cons, List.filterMap_cons, e1, e2]
      exact ih
def tStep2 (K : PySem.W.Frag) (te : TE) : TE := fun σ H Q => te σ H fun x H1 => ∃ a xs, x = .ref a ∧ SqL K H1 a xs ∧ ∀ p, H1 p = none → Q (.ref p) (upd H1 p (.lst (pick2 xs)))
section
variable {X : Cx}
theorem pe_step2L {e : Expr} {te : TE} {k : Nat} {p1 p3 pos : Pos} (he : PE X e te) : PE X (.Subscript e (.Slice none none (some (.Constant (.int 2) k p1)) p3) pos) (tStep2 X.K te) := by
  refine ⟨fun pins s σ H Q I h => ?_⟩
  refine Subscript_ (thn (he.run pins s σ H _ I h) fun v s1 ⟨x, H1, I1, r1, q1⟩ => ?_)
  obtain ⟨a, xs, rfl, hx, q⟩ := q1
  cases r1
  have hst : PO X (some (.Constant (.int 2) k p1)) (tPart (tC (.int 2))) := po_some pe_int
  refine wpAny_Slice (thn (po_none.run pins s1 σ H1 (fun o H2 => o = none ∧ H2 = H1) I1 ⟨rfl, rfl⟩) fun vl s2 ⟨l, H2, I2, pl, el, e2⟩ => ?_)
  subst el e2
  refine thn (po_none.run pins s2 σ H2 (fun o H3 => o = none ∧ H3 = H2) I2 ⟨rfl, rfl⟩) fun vu s3 ⟨u, H3, I3, pu, eu, e3⟩ => ?_
  subst eu e3
  refine thn (hst.run pins s3 σ H3 (fun o H4 => o = some 2 ∧ H4 = H3) I3 ⟨2, rfl, rfl, rfl⟩) fun vs s4 ⟨o, H4, I4, ps, eo, e4⟩ => ?_
  subst eo e4
  have I5 : Inv X pins σ H4 { s4 with heap := s4.heap.push { cls := .type "slice", data := .fields #[vl, vu, vs] } } := I4.kept (t' := s4.toks) fun b ob q => Heap.get?_push_of_some _ q
  obtain ⟨its, r, ht, hz⟩ := I5.list hx
  have hlen := r.length
  refine tail_any (ops := [.ref a, .ref s4.heap.objs.size]) ht.isList.typeIs (PySem.slot_list_getitem.lookup) ?_ (by with_unfolding_all rfl)
  refine wpAny_getItem_list_slice ht.isList (Heap.IsSliceOf.new _ vl vu vs) pl pu ps (by decide) ?_ (by rw [List.size_toArray]; omega)
  have hp := vals_pick (sliceRange (sliceBounds none none (some 2) xs.length).1 (sliceBounds none none (some 2) xs.length).2.1 (sliceBounds none none (some 2) xs.length).2.2) r
  have el : slicePick its.toArray none none (some 2) = ((sliceRange (sliceBounds none none (some 2) xs.length).1 (sliceBounds none none (some 2) xs.length).2.1 (sliceBounds none none (some 2) xs.length).2.2).filterMap (its[·]?)).toArray := by
    unfold slicePick
    rw [List.size_toArray, hlen]
    simp
  rw [el]
  refine ⟨.ref _, _, I5.laid (t' := s4.toks) (o := .lst (pick2 xs)) (fun b ob q => Heap.get?_push_of_some _ q) (Nat.le_refl _) ?_, rfl, q _ (I5.hok.fresh (Nat.le_refl _))⟩
  exact ⟨Nat.le_trans (pick2_len xs) hz, _, 0, hp, Heap.get?_push_size _ rfl⟩
def tRevS (te : TE) : TE := fun σ H Q => te σ H fun x H1 => ∃ l : List Nat, x = .str (S l) ∧ l.length ≤ 100000 ∧ Q (.str (S l.reverse)) H1
theorem rev_S (l : List Nat) : (⟨((strSliceIndices none none (-1) (S l).length).filterMap ((S l).cps[·]?)).toArray⟩ : Str) = S l.reverse := by
  have e : strSliceIndices none none (-1) (S l).length = (List.range (S l).cps.size).reverse := by
    show sliceRange (((S l).cps.size : Int) - 1) (-1) (-1) = _
    rw [PySem.W.krv_sliceRange, PySem.W.krv_range]
  rw [e, List.filterMap_reverse, PySem.W.krv_all, S_cps]
  rfl
theorem pe_revS {e : Expr} {te : TE} {k : Nat} {p1 p2 p3 pos : Pos} (he : PE X e te) : PE X (.Subscript e (.Slice none none (some (.UnaryOp .USub (.Constant (.int 1) k p1) p2)) p3) pos) (tRevS te) := by
  refine ⟨fun pins s σ H Q I h => ?_⟩
  refine Subscript_ (thn (he.run pins s σ H _ I h) fun v s1 ⟨x, H1, I1, r1, q1⟩ => ?_)
  obtain ⟨z, rfl, hz, q⟩ := q1
  obtain ⟨t, rfl⟩ := r1
  have hst : PO X (some (.UnaryOp .USub (.Constant (.int 1) k p1) p2)) (tPart (tUn (rU fun i => .int (-i)) (tC (.int 1)))) := po_some (pe_un un_neg pe_int)
  refine wpAny_Slice (thn (po_none.run pins s1 σ H1 (fun o H2 => o = none ∧ H2 = H1) I1 ⟨rfl, rfl⟩) fun vl s2 ⟨l, H2, I2, pl, el, e2⟩ => ?_)
  subst el e2
  refine thn (po_none.run pins s2 σ H2 (fun o H3 => o = none ∧ H3 = H2) I2 ⟨rfl, rfl⟩) fun vu s3 ⟨u, H3, I3, pu, eu, e3⟩ => ?_
  subst eu e3
  refine thn (hst.run pins s3 σ H3 (fun o H4 => o = some (-1) ∧ H4 = H3) I3 ⟨1, rfl, -1, rfl, rfl, rfl⟩) fun vs s4 ⟨o, H4, I4, ps, eo, e4⟩ => ?_
  subst eo e4
  have I5 : Inv X pins σ H4 { s4 with heap := s4.heap.push { cls := .type "slice", data := .fields #[vl, vu, vs] } } := I4.kept (t' := s4.toks) fun b ob q => Heap.get?_push_of_some _ q
  refine tail_any (ops := [.str (S z) t, .ref s4.heap.objs.size]) (typeIs_str _ _ _) F.slot_str_getitem.lookup ?_ (by with_unfolding_all rfl)
  obtain ⟨os, hos, hcs, hds⟩ := Heap.IsSliceOf.new s4.heap vl vu vs
  obtain ⟨l, rfl, el⟩ := IsPart.raw pl
  obtain ⟨u, rfl, eu⟩ := IsPart.raw pu
  obtain ⟨w, rfl, ew⟩ := IsPart.raw ps
  refine wpAny_getItem_str_slice (l := l) (u := u) (st := w) ⟨os, hos, hcs, hds⟩ (by rw [ew]; rfl) ?_
  unfold sliceMade slicePicked
  rw [el, eu, ew]
  show Made.post (if (((-1 : Int) == 1) && _) = true then _ else Made.str ⟨((strSliceIndices none none (-1) (S z).length).filterMap ((S z).cps[·]?)).toArray⟩) (EP X pins σ Q) _
  rw [if_neg (by simp), rev_S]
  refine ⟨by rw [S_len, List.length_reverse, sizeLine_eq]; omega, .str _, H4, I5.tok _, ⟨_, rfl⟩, q⟩
end
theorem iStep2 {K : PySem.W.Frag} {te : TE} {σ : L2.St} {H : Hp} {Q : VK} (h : te σ H fun x H1 => ∃ a xs, x = .ref a ∧ SqL K H1 a xs ∧ ∀ p, H1 p = none → Q (.ref p) (upd H1 p (.lst (pick2 xs)))) : tStep2 K te σ H Q := h
theorem iRevL {K : PySem.W.Frag} {te : TE} {σ : L2.St} {H : Hp} {Q : VK} (h : te σ H fun x H1 => ∃ a xs, x = .ref a ∧ SqL K H1 a xs ∧ ∀ p, H1 p = none → Q (.ref p) (upd H1 p (.lst xs.reverse))) : tRevL K te σ H Q := h
theorem iRevS {te : TE} {σ : L2.St} {H : Hp} {Q : VK} (h : te σ H fun x H1 => ∃ l : List Nat, x = .str (S l) ∧ l.length ≤ 100000 ∧ Q (.str (S l.reverse)) H1) : tRevS te σ H Q := h
end Vk
set_option Elab.async false
set_option linter.all false
set_option maxRecDepth 100000
set_option maxHeartbeats 2000000
namespace Vk
open PySem PySem.Spec PyProof.Rows L2
section
variable {K : PySem.W.Frag} {H1 : Hp} {Q : VK} {σ : L2.St} {tt : TT} {te : TE} {vs : List Nat}
/-- a comprehension over a list, which may change the heap -/
theorem lcg_L {D a : Addr} {j : Nat} {xs : List V} (Pv : Nat → Hp → Prop) (h0 : Pv 0 (upd H1 D (.lst []))) (hw : ∀ x, wipe ((wipe σ vs).set j (some x)) vs = wipe σ vs) (hl : ∀ i H, i ≤ xs.length → Pv i H → SqL K H a xs)
    (hs : ∀ i x H, xs[i]? = some x → Pv i H → tt ((wipe σ vs).set j (some x)) H fun b H3 => if b = true then te ((wipe σ vs).set j (some x)) H3 fun y H4 => ∃ acc, H4 D = some (.lst acc) ∧ acc.length < sizeLine ∧ Pv (i + 1) (upd H4 D (.lst (acc ++ [y]))) else Pv (i + 1) H3)
    (hd : ∀ H, Pv xs.length H → Q (.ref D) H) : LcG (Itl K a) (gName j) tt te vs σ H1 D Q := by
  have := lc_list (K := K) (a := a) (xs := xs) (g := gName j) (tt := tt) (te := te) (vs := vs) (σ := σ) (H1 := H1) (D := D) (Qd := fun H => Q (.ref D) H) Pv h0 hl (fun i x H hi hP => ⟨hw _, hs i x H hi hP⟩) hd
  exact this
end
end Vk
set_option Elab.async false
set_option linter.all false
set_option maxRecDepth 100000
set_option maxHeartbeats 4000000
namespace Vk
open PySem PySem.Spec PyProof.Rows L2
/-! X58: o.m(..) and o.f where o's class is one of a family; what is raised is wished for at the slots -/
def tMethFam (n : Nat) (C : Nat → Addr) (m : Str) (sp : Nat → Sp) (E : L2.St → XK) (ta : TE) (t : TA) : TE := fun σ H Q => ta σ H fun x H1 => ∃ i a dx fs, i < n ∧ x = .ref a ∧ H1 a = some (.ins (C i) dx fs) ∧ fs.lookup m = none ∧ t σ H1 fun vs H2 => sp i (x :: vs) H2 Q (E σ)
def tPropFam (n : Nat) (C : Nat → Addr) (sp : Nat → Sp) (E : XK) (ta : TE) : TE := fun σ H Q => ta σ H fun x H1 => ∃ i a dx fs, i < n ∧ x = .ref a ∧ H1 a = some (.ins (C i) dx fs) ∧ sp i [.ref a] H1 Q E
section
variable {X : Cx} {CX : CXT} {k n : Nat} {f p C : Nat → Addr} {fd : Nat → FuncData} {ps : List Str} {sp : Nat → Sp} {E : L2.St → XK} {m : Str} {apos pos : Pos} {o e : Expr} {es : List Expr} {ta : TE} {t : TA}
theorem pe_methFam {pl : Sem Bool} (he : PE X o ta) (c : ∀ i, i < n → Cls X.K (C i)) (hm : ∀ i, i < n → Meth X.K (C i) m (f i)) (F : ∀ i, i < n → FnOk X.prog X.w X.K X.mg X.base CX k (f i) (fd i) ps (sp i)) (hr : Room k X.A) (hb : ∀ i, i < n → Binds X.K (fd i) ps []) (hx : ∀ σ, PassesAt CX X σ (E σ)) (ha : PA X (e :: es) t)
    (hst : starEach (e :: es) X.env = (false, eval e X.env) :: starEach es X.env := by rfl) (hpl : (backTo pos (starEach es X.env)).any (·.1) = false := by rfl)
    (ht : eval (.Call (.Attribute o m apos) (e :: es) [] pos) X.env = (do
      let ov ← eval o X.env
      standAt apos.atName
      let (f, first) ← holding [ov] (getMethod ov m pl)
      callWith pos f first (backTo pos (starEach (e :: es) X.env)) (backToKw pos (keywordEach [] X.env))) := by rfl) :
    PE X (.Call (.Attribute o m apos) (e :: es) [] pos) (tMethFam n C m sp E ta t) := by
  refine ⟨fun pins s σ H Q I h => ?_⟩
  refine PySem.W.methodCall_KW (pl := pl) (thn (he.run pins s σ H _ I h) fun u s1 ⟨x, H1, I1, rx, i, a, dx, fs, hi, ex, ea, l, q⟩ => ?_) ht
  subst ex
  obtain rfl : u = Value.ref a := rx
  refine getmeth_ok I1 ea (c i hi) (hm i hi) l ?_
  refine PySem.W.callWith_K (first := [.ref a]) (h₀ := X.base) I.ok.mod.kin (hm i hi).kp (thn (ha.run pos pins s1 σ H1 _ I1 q) fun us s2 ⟨vs, H2, I2, r, q2⟩ => ⟨I2.kIn, ?_⟩) hst hpl
  exact run_fnS (us := .ref a :: us) (vs := .ref a :: vs) (F i hi) hr (hb i hi) (hx σ) I2 (.cons rfl r) q2
theorem pe_propFam {E : XK} {nm : Str} (he : PE X o ta) (c : ∀ i, i < n → Cls X.K (C i)) (hp : ∀ i, i < n → PropOf X.K (C i) nm (p i) (f i)) (F : ∀ i, i < n → FnOk X.prog X.w X.K X.mg X.base CX k (f i) (fd i) ps (sp i)) (hr : Room (k + 1) X.A) (hb : ∀ i, i < n → Binds X.K (fd i) ps []) (hx : Passes CX X.nox E)
    (hab : attributeBase o nm X.env (eval o X.env) = eval o X.env := by rfl) : PE X (.Attribute o nm pos) (tPropFam n C sp E ta) := by
  refine ⟨fun pins s σ H Q I h => ?_⟩
  refine attr_of hab (thn (he.run pins s σ H _ I h) fun u s1 ⟨x, H1, I1, rx, i, a, dx, fs, hi, ex, ea, q⟩ => ?_)
  subst ex
  obtain rfl : u = Value.ref a := rx
  exact getprop_ok I1 ea (c i hi) (hp i hi) (F i hi) hr (hb i hi) .nil hx q
end
theorem iMethFam {n : Nat} {C : Nat → Addr} {m : Str} {sp : Nat → Sp} {E : L2.St → XK} {ta : TE} {t : TA} {σ : L2.St} {H : Hp} {Q : VK} (h : ta σ H fun x H1 => ∃ i a dx fs, i < n ∧ x = .ref a ∧ H1 a = some (.ins (C i) dx fs) ∧ fs.lookup m = none ∧ t σ H1 fun vs H2 => sp i (x :: vs) H2 Q (E σ)) : tMethFam n C m sp E ta t σ H Q := h
theorem iPropFam {n : Nat} {C : Nat → Addr} {sp : Nat → Sp} {E : XK} {ta : TE} {σ : L2.St} {H : Hp} {Q : VK} (h : ta σ H fun x H1 => ∃ i a dx fs, i < n ∧ x = .ref a ∧ H1 a = some (.ins (C i) dx fs) ∧ sp i [.ref a] H1 Q E) : tPropFam n C sp E ta σ H Q := h
/-- what a raising def lets out is what its caller lets out -/
theorem passX {X : Cx} {W : WX} (tk : Takes X W) {E : XK} (hW : ∀ cls d σ H, E cls d H → W cls d σ H) : ∀ σ, PassesAt (L2.CX X.prog X.w) X σ E := fun σ pins H s e s' I c => passes_call tk hW pins σ H s e s' I c
theorem passEA {X : Cx} {P : Program} {w : World} : ∀ σ, PassesAt (L2.CX P w) X σ (fun _ _ _ => False) := fun _ _ _ _ _ _ _ h => by
  obtain ⟨_, _, _, _, _, _, _, _, _, _, _, _, z⟩ := h
  exact z.elim
end Vk
set_option Elab.async false
set_option linter.all false
set_option maxRecDepth 100000
set_option maxHeartbeats 4000000
namespace Vk
open PySem PySem.Spec PyProof.Rows L2
/-! enumerate over a text -/
/-- each sign of x in a new pair with its place -/
def IteS (x : Str) : It :=
  ⟨fun i _ => i < x.cps.size, fun i H v H' => ∃ (T : Addr) (c : Nat), v = .ref T ∧ H T = none ∧ x.cps[i]? = some c ∧ H' = upd H T (.tup [.int (i : Nat), .str ⟨#[c]⟩]), fun i _ => x.cps.size ≤ i⟩
theorem draws_txt {P : Program} {w : World} {A : Around} (hh : A.handled = none) (it : Addr) (x : Str) (t : Tok) {ty : String} (hty : ty = "str_ascii_iterator" ∨ ty = "str_iterator") :
    Draws P w A it [it] x.cps.size (fun i v => ∃ c u, x.cps[i]? = some c ∧ v = .str ⟨#[c]⟩ u) (fun i h => h.IsStrIter it ty x t i) := by
  rcases hty with z | z
  · rw [z]
    exact Draws.strAscii hh it x t
  · rw [z]
    exact Draws.strWide hh it x t
theorem turn_enumS {P : Program} {w : World} {K : PySem.W.Frag} {elts : List Expr} {kk : Nat} {tpos : Pos} (e it : Addr) (x : Str) (t : Tok) (ty : String) (hei : e ≠ it) (hty : ty = "str_ascii_iterator" ∨ ty = "str_iterator") :
    Turn P w K (.Tuple elts kk tpos) (IteS x) [e, it] e (fun i h => (∃ old, IsEnum h e it ((i : Nat) : Int) old) ∧ h.IsStrIter it ty x t i) where
  mem := by simp
  obj := fun i h st b hb => by
    obtain ⟨⟨old, he⟩, o, ho, hc, hd⟩ := st
    have e' : b = e ∨ b = it := by simpa using hb
    rcases e' with z | z
    · rw [z]
      exact ⟨_, he, fun v q => nomatch q⟩
    · rw [z]
      exact ⟨o, ho, fun v q => by rw [hd] at q; cases q⟩
  keep := fun i h h' st k => by
    obtain ⟨⟨old, he⟩, o, ho, r⟩ := st
    exact ⟨⟨old, k e (by simp) _ he⟩, o, k it (by simp) o ho, r⟩
  item := by
    intro X hP hw hK hc i pins s σ H E I hf st hg
    subst hP hw hK
    obtain ⟨⟨old, he⟩, hit⟩ := st
    have hel : e < s.heap.objs.size := Heap.lt_size he
    have hil : it < s.heap.objs.size := by
      obtain ⟨_, q, _⟩ := hit
      exact Heap.lt_size q
    refine wpAny_pyNext_enum_itemD (draws_txt (A := X.A.in1) (I.ok.hd hc) it x t hty) he hit hg hei (by simp [hei]) fun y h' tk hy ho hst hT hsz hk => ?_
    obtain ⟨c, u, hcx, rfl⟩ := hy
    refine ⟨_, rfl, wpAny_letOwnedTupleGo_enum (s := { s with heap := h', toks := tk + 1 }) ho fun h'' he' sb => ?_⟩
    have hT2 := (sb.2 _ (Nat.ne_of_gt hel)).trans hT
    have new : ObjOk X.prog X.w (upd H s.heap.objs.size (.tup [.int (i : Nat), .str ⟨#[c]⟩])) h'' s.heap.objs.size (.tup [.int (i : Nat), .str ⟨#[c]⟩]) :=
      ⟨by show 2 ≤ sizeLine; decide, [.int i tk, .str ⟨#[c]⟩ u], .cons ⟨_, rfl⟩ (.cons ⟨u, rfl⟩ .nil), ⟨_, hT2, rfl, _, rfl⟩⟩
    have I1 : Inv X pins σ (upd H s.heap.objs.size (.tup [.int (i : Nat), .str ⟨#[c]⟩])) { s with heap := h'', toks := tk + 1 } :=
      I.turnedNew (ch := [e, it]) (fun b ob hb q => (sb.2 b (fun z => hb (by simp [z]))).trans (hk b ob (fun z => hb (by simp [z])) (fun z => hb (by simp [z])) q)) hf (Nat.le_refl _) new
    refine ⟨.ref s.heap.objs.size, _, I1, rfl, ⟨_, c, rfl, I.hok.fresh (Nat.le_refl _), hcx, rfl⟩, ⟨⟨.str ⟨#[c]⟩ u, ?_⟩, ?_⟩, fun b hb => ?_⟩
    · have e1 : ((i + 1 : Nat) : Int) = (i : Int) + 1 := by omega
      rw [e1]
      exact he'
    · obtain ⟨o2, q2, r2⟩ := hst
      exact ⟨o2, (sb.2 it (Ne.symm hei)).trans q2, r2⟩
    · have hb' : b < s.heap.objs.size := by
        have e' : b = e ∨ b = it := by simpa using hb
        rcases e' with z | z
        · rw [z]
          exact hel
        · rw [z]
          exact hil
      rw [upd_ne (Nat.ne_of_lt hb')]
      exact (hf b hb).1
  done := by
    intro X hP hw hK hc i pins s σ H E I hf st hg
    subst hP hw hK
    obtain ⟨⟨old, he⟩, hit⟩ := st
    obtain ⟨f0, f1, f2, f3, f4, f5⟩ := hf it (by simp)
    have hg : x.cps.size ≤ i := hg
    have hx : x.cps[i]? = none := Array.getElem?_eq_none hg
    have hT : s.TypeIs (.ref e) "enumerate" := ⟨_, he, rfl⟩
    unfold pyNext
    refine wpAny_bind (wpAny_attempt (wpAny_callSpecial?_slot (name := Str.ofString "__next__") hT F.slot_enumerate_next
      (wpAny_call_entry F.slot_enumerate_next hT F.entry_enumerate_next ?_ (F.args_enumerate_next_1 _))))
    show wpAny _ _ (field (.ref e) 2 >>= _) _ _ _
    refine wpAny_bind (wpAny_field he rfl (x := .ref it) rfl ?_)
    have stop : ∀ {Q : Value → Shared → Prop} {E : Value → Shared → Prop}, (∀ h' y, Heap.ExtBut it s.heap h' → (∃ o, h'.get? y = some o ∧ o.cls = .type "StopIteration") → E (.ref y) { s with heap := h' }) →
        wpAny (model X.prog X.w) X.A.in1 (Builtin.SmallTypes.nextOf (.ref it)) Q E s := fun {Q E} q => by
      rcases hty with z | z
      · rw [z] at hit
        exact wpAny_nextOf_ascii_end (I.ok.hd hc) hit hx q
      · rw [z] at hit
        exact wpAny_nextOf_wide_end (I.ok.hd hc) hit hx q
    refine wpAny_bind (stop fun h' y he' hx' => ?_)
    obtain ⟨o, ho, hcl⟩ := hx'
    refine wpAny_bind (wpAny_isInstance (T := "StopIteration") (b := true) ⟨o, ho, hcl⟩ isSubtype_stop ?_)
    exact wpAny_pure ⟨rfl, I.turned (t' := s.toks) (fun b o hb q => he' b o hb q) f0 f1 f3 f4 f5⟩
  self := fun A i s Q E st h => let ⟨⟨_, he⟩, _⟩ := st; wpAny_pyIter_enum he h
def iEnumS (ta : TA) : TI := fun σ H R => ta σ H fun vs H1 => ∃ x, vs = [.str x] ∧ R (IteS x) H1
theorem pi_enumS {X : Cx} {e : Expr} {ta : TA} {p pos tpos : Pos} {elts : List Expr} {kk : Nat} (hg : Gl X "enumerate") (hm : X.mg "enumerate" = none) (ha : PA X [e] ta) (hs : starEach [e] X.env = [(false, eval e X.env)] := by rfl) :
    PI X (.Tuple elts kk tpos) (.Call (.Name "enumerate" p) [e] [] pos) (iEnumS ta) := by
  refine ⟨fun pins s σ H R I h => ?_⟩
  refine Call_ (ld_blt I hg hm boot_enumerate (PyProof.Rows.callWith_type1 (thn (ha.run pos pins s σ H _ I h) fun us s1 z => ?_) hs rfl))
  obtain ⟨vs, H1, I1, r1, x, ex, q⟩ := z
  subst ex
  cases r1 with
  | cons r rr =>
    cases rr
    obtain ⟨t, rfl⟩ := r
    refine call_enumerate_str fun h' he hit hsz hk => wpAny_pyIter_enum he ?_
    have I2 : Inv X pins σ H1 { s1 with heap := h' } := I1.kept (t' := s1.toks) hk
    have hty : strIterType x = "str_ascii_iterator" ∨ strIterType x = "str_iterator" := by
      unfold strIterType
      split
      · exact .inl rfl
      · exact .inr rfl
    refine ⟨s1.heap.objs.size + 1, [s1.heap.objs.size + 1, s1.heap.objs.size], _, _, H1, rfl, I2, turn_enumS (s1.heap.objs.size + 1) s1.heap.objs.size x t (strIterType x) (Nat.succ_ne_self _) hty, ⟨⟨.none, he⟩, hit⟩, fun b hb => ?_, q⟩
    have e' : b = s1.heap.objs.size + 1 ∨ b = s1.heap.objs.size := by simpa using hb
    have hle : s1.heap.objs.size ≤ b := by
      rcases e' with z | z
      · rw [z]
        exact Nat.le_add_right _ _
      · rw [z]
        exact Nat.le_refl _
    exact I1.fpOk hle (I1.hok.fresh hle)
theorem walk_enumS {x : Str} : Walk (IteS x) x.cps.size (fun _ => True) (fun i H v H' => ∃ (T : Addr) (c : Nat), v = .ref T ∧ H T = none ∧ x.cps[i]? = some c ∧ H' = upd H T (.tup [.int (i : Nat), .str ⟨#[c]⟩])) :=
  ⟨fun i _ hi _ => hi, fun _ _ => Nat.le_refl _, fun _ _ _ _ _ _ y => y⟩
end Vk
set_option Elab.async false
set_option linter.all false
set_option maxRecDepth 100000
set_option maxHeartbeats 4000000
namespace Vk
open PySem PySem.Spec PyProof.Rows L2
/-! zip of a text and a list -/
def IzS (K : PySem.W.Frag) (x : Str) (b : Addr) : It :=
  ⟨fun i H => ∃ (ys : List V) (y : V), SqL K H b ys ∧ ys[i]? = some y ∧ i < x.cps.size,
    fun i H v H' => ∃ (T : Addr) (c : Nat) (y : V), v = .ref T ∧ H T = none ∧ x.cps[i]? = some c ∧ H' = upd H T (.tup [.str ⟨#[c]⟩, y]) ∧ ∀ ys, SqL K H b ys → ys[i]? = some y,
    fun i H => ∃ ys : List V, SqL K H b ys ∧ i ≤ x.cps.size ∧ i ≤ ys.length ∧ (i = x.cps.size ∨ i = ys.length)⟩
theorem turn_zipS {P : Program} {w : World} {K : PySem.W.Frag} {elts : List Expr} {kk : Nat} {tpos : Pos} {b z TI TO i1 i2 : Addr} (x : Str) (t : Tok) (ty : String) (D : ZipSep2 z TI TO i1 i2 [i1] [i2, b]) (hbi : b ≠ i2) (hty : ty = "str_ascii_iterator" ∨ ty = "str_iterator") :
    Turn P w K (.Tuple elts kk tpos) (IzS K x b) [z, TI, TO, i1, i2] z (fun i h => IsZip h z TI TO .none ∧ IsTupOf2 h TI (.ref i1) (.ref i2) ∧ (∃ u v, IsTupOf2 h TO u v) ∧ h.IsStrIter i1 ty x t i ∧ h.IsListIter i2 b i) where
  mem := by simp
  obj := fun i h st c hc => by
    obtain ⟨hz, hTI, ⟨u, v, hTO⟩, ⟨o1, e1, _, d1⟩, ⟨o2, e2, _, d2⟩⟩ := st
    have e' : c = z ∨ c = TI ∨ c = TO ∨ c = i1 ∨ c = i2 := by simpa using hc
    rcases e' with q | q | q | q | q
    · rw [q]
      exact ⟨_, hz, fun v q => nomatch q⟩
    · rw [q]
      exact ⟨_, hTI, fun v q => nomatch q⟩
    · rw [q]
      exact ⟨_, hTO, fun v q => nomatch q⟩
    · rw [q]
      exact ⟨o1, e1, fun v q => by rw [d1] at q; cases q⟩
    · rw [q]
      exact ⟨o2, e2, fun v q => by rw [d2] at q; cases q⟩
  keep := fun i h h' st k => by
    obtain ⟨hz, hTI, ⟨u, v, hTO⟩, ⟨o1, e1, r1⟩, h2⟩ := st
    exact ⟨k z (by simp) _ hz, k TI (by simp) _ hTI, ⟨u, v, k TO (by simp) _ hTO⟩, ⟨o1, k i1 (by simp) _ e1, r1⟩, h2.at fun o q => k i2 (by simp) o q⟩
  item := by
    intro X hP hw hK hc i pins s σ H E I hf st hg
    subst hP hw hK
    obtain ⟨hz, hTI, ⟨u0, v0, hTO⟩, h1, h2⟩ := st
    obtain ⟨ys, y, hqy, hy, hix⟩ := hg
    obtain ⟨its2, rv2, p2, _⟩ := I.list hqy
    obtain ⟨u2, hu2, ru2⟩ := rv2.get hy
    have hzl : z < s.heap.objs.size := Heap.lt_size hz
    have hi2 : i < its2.toArray.size := by
      have := (List.getElem?_eq_some_iff.mp hu2).1
      simpa using this
    refine wpAny_pyNext_zipD2_item D (draws_txt (A := X.A.in1) (I.ok.hd hc) i1 x t hty) (Draws.list (A := X.A.in1) (I.ok.hd hc) i2 b hbi its2.toArray) hz hTI hTO h1 ⟨h2, p2.isList⟩ hix hi2 fun q1 q2 h' tk hq1 hq2 z' TO' st1 st2 hT hsz hk => ?_
    obtain ⟨c, u, hcx, rfl⟩ := hq1
    have hq2' : q2 = u2 := by
      have e1 : its2[i]? = some q2 := by simpa using hq2
      rw [hu2] at e1
      exact (Option.some.inj e1).symm
    subst hq2'
    refine ⟨_, rfl, wpAny_letOwnedTupleGo_zip (s := { s with heap := h', toks := tk }) z' fun h'' z'' sb => ?_⟩
    have hT2 : h''.get? s.heap.objs.size = some { cls := .type "tuple", data := .seq #[.str ⟨#[c]⟩ u, q2] } := (sb.2 _ (Nat.ne_of_gt hzl)).trans hT
    have new : ObjOk X.prog X.w (upd H s.heap.objs.size (.tup [.str ⟨#[c]⟩, y])) h'' s.heap.objs.size (.tup [.str ⟨#[c]⟩, y]) :=
      ⟨by show 2 ≤ sizeLine; decide, [.str ⟨#[c]⟩ u, q2], .cons ⟨u, rfl⟩ (.cons ru2 .nil), ⟨_, hT2, rfl, _, rfl⟩⟩
    have I1 : Inv X pins σ (upd H s.heap.objs.size (.tup [.str ⟨#[c]⟩, y])) { s with heap := h'', toks := tk } :=
      I.turnedNew (ch := [z, TI, TO, i1, i2]) (fun a o hb q => (sb.2 a (fun q' => hb (by simp [q']))).trans (hk a o (fun q' => hb (by simp [q'])) (fun q' => hb (by simp [q'])) (fun q' => hb (by simp [q'])) (fun q' => hb (by simp [q'])) q)) hf (Nat.le_refl _) new
    refine ⟨.ref s.heap.objs.size, _, I1, rfl, ⟨_, c, y, rfl, I.hok.fresh (Nat.le_refl _), hcx, rfl, fun l hl => by rw [I.list_inj hl hqy]; exact hy⟩, ⟨z'', ?_, ⟨.str ⟨#[c]⟩ u, q2, ?_⟩, ?_, ?_⟩, fun a hcm => ?_⟩
    · exact (sb.2 _ D.TIz).trans (hk _ _ D.TIz D.TITO D.TIi1 D.TIi2 hTI)
    · exact (sb.2 _ D.TOz).trans TO'
    · obtain ⟨o1, e1, r1⟩ := st1
      exact ⟨o1, (sb.2 _ (Ne.symm D.zi1)).trans e1, r1⟩
    · exact st2.1.at fun o q => (sb.2 _ (Ne.symm D.zi2)).trans q
    · have hlt : a < s.heap.objs.size := by
        have e' : a = z ∨ a = TI ∨ a = TO ∨ a = i1 ∨ a = i2 := by simpa using hcm
        rcases e' with q | q | q | q | q
        · rw [q]
          exact hzl
        · rw [q]
          exact Heap.lt_size hTI
        · rw [q]
          exact Heap.lt_size hTO
        · rw [q]
          obtain ⟨_, e1, _⟩ := h1
          exact Heap.lt_size e1
        · rw [q]
          obtain ⟨_, e2, _⟩ := h2
          exact Heap.lt_size e2
      rw [upd_ne (Nat.ne_of_lt hlt)]
      exact (hf a hcm).1
  done := by
    intro X hP hw hK hc i pins s σ H E I hf st hg
    subst hP hw hK
    obtain ⟨hz, hTI, ⟨u0, v0, hTO⟩, h1, h2⟩ := st
    obtain ⟨ys, hqy, hi1, hi2, hend⟩ := hg
    obtain ⟨its2, rv2, p2, _⟩ := I.list hqy
    have l2 := rv2.length
    exact wpAny_pyNext_zipD2_end D (draws_txt (A := X.A.in1) (I.ok.hd hc) i1 x t hty) (Draws.list (A := X.A.in1) (I.ok.hd hc) i2 b hbi its2.toArray) hz hTI hTO h1 ⟨h2, p2.isList⟩ hi1 (by simpa [← l2] using hi2) (hend.imp id fun e => by simpa [← l2] using e)
      fun h' tk hk => ⟨rfl, I.turnedL (t' := tk) (ch := [z, TI, TO, i1, i2]) (fun c o hb q => hk c o (fun q' => hb (by simp [q'])) (fun q' => hb (by simp [q'])) (fun q' => hb (by simp [q'])) (fun q' => hb (by simp [q'])) q) hf⟩
  self := fun A i s Q E st h => wpAny_pyIter_zip st.1 h
def iZipS (K : PySem.W.Frag) (ta : TA) : TI := fun σ H R => ta σ H fun vs H1 => ∃ (x : Str) (b : Addr) (ys : List V), vs = [.str x, .ref b] ∧ SqL K H1 b ys ∧ R (IzS K x b) H1
theorem sep5 (I b : Nat) (h : b < I) : ZipSep2 (I + 4) (I + 2) (I + 3) I (I + 1) [I] [I + 1, b] := by
  refine ⟨?_, ?_, ?_, ?_, ?_, ?_, ?_, ?_, ?_, ?_, ?_, ?_, ?_⟩
  all_goals first | (intro e; have e : (_ : Nat) = _ := e; omega) | (simp; done) | (intro e; simp at e; grind) | (simp; grind)
theorem pi_zipS {X : Cx} {e e2 : Expr} {ta : TA} {p pos tpos : Pos} {elts : List Expr} {kk : Nat} (hg : Gl X "zip") (hm : X.mg "zip" = none) (ha : PA X [e, e2] ta)
    (hs : starEach [e, e2] X.env = (false, eval e X.env) :: starEach [e2] X.env := by rfl) (hpl : (backTo pos (starEach [e2] X.env)).any (·.1) = false := by rfl) :
    PI X (.Tuple elts kk tpos) (.Call (.Name "zip" p) [e, e2] [] pos) (iZipS X.K ta) := by
  refine ⟨fun pins s σ H R I h => ?_⟩
  refine Call_ (ld_blt I hg hm PyProof.Rows.boot_zip (PyProof.Rows.callWith_type1 (thn (ha.run pos pins s σ H _ I h) fun us s1 z => ?_) hs hpl))
  obtain ⟨vs, H1, I1, r1, x, b, ys, ex, hqy, q⟩ := z
  subst ex
  cases r1 with
  | cons r rr =>
    cases rr with
    | cons r' rr =>
      cases rr
      obtain ⟨t, rfl⟩ := r
      cases r'
      obtain ⟨its2, rv2, p2, _⟩ := I1.list hqy
      refine zip_begins2 (begins_text x t) (begins_list b its2.toArray) trivial p2.isList fun h' hz hTI hTO h1 h2 hsz hk => wpAny_pyIter_zip hz ?_
      have I2 : Inv X pins σ H1 { s1 with heap := h' } := I1.kept (t' := s1.toks) hk
      have hty : strIterType x = "str_ascii_iterator" ∨ strIterType x = "str_iterator" := by
        unfold strIterType
        split
        · exact .inl rfl
        · exact .inr rfl
      refine ⟨s1.heap.objs.size + 4, [s1.heap.objs.size + 4, s1.heap.objs.size + 2, s1.heap.objs.size + 3, s1.heap.objs.size, s1.heap.objs.size + 1], _, _, H1, rfl, I2, turn_zipS x t (strIterType x) (sep5 s1.heap.objs.size b p2.lt) (Nat.ne_of_lt (Nat.lt_succ_of_lt p2.lt)) hty, ⟨hz, hTI, ⟨_, _, hTO⟩, ⟨_, h1, rfl, rfl⟩, ⟨_, h2, rfl, rfl⟩⟩, fun c hcm => ?_, q⟩
      have e' : c = s1.heap.objs.size + 4 ∨ c = s1.heap.objs.size + 2 ∨ c = s1.heap.objs.size + 3 ∨ c = s1.heap.objs.size ∨ c = s1.heap.objs.size + 1 := by simpa using hcm
      have hle : s1.heap.objs.size ≤ c := by
        rcases e' with z | z | z | z | z
        · rw [z]
          exact Nat.le_add_right _ _
        · rw [z]
          exact Nat.le_add_right _ _
        · rw [z]
          exact Nat.le_add_right _ _
        · rw [z]
          exact Nat.le_refl _
        · rw [z]
          exact Nat.le_add_right _ _
      exact I1.fpOk hle (I1.hok.fresh hle)
end Vk
set_option Elab.async false
set_option linter.all false
set_option maxRecDepth 100000
set_option maxHeartbeats 4000000
/-! set(text) and len(set(text)), whatever the text -/
namespace Vk
open PySem PySem.Spec PyProof.Rows L2

/-- the different codes, in the order in which they are met -/
def met : List Nat → List Nat
  | [] => []
  | c :: r => if (met r).contains c then met r else c :: met r
def metAt (l : List Nat) (i : Nat) : List Nat := met (l.take i).reverse
theorem metAt_succ {l : List Nat} {i c : Nat} (h : l[i]? = some c) : metAt l (i + 1) = if (metAt l i).contains c then metAt l i else c :: metAt l i := by
  unfold metAt
  have e : l.take (i + 1) = l.take i ++ [c] := by
    rw [List.take_add_one, h]
    rfl
  rw [e, List.reverse_append]
  rfl
theorem met_len : ∀ l : List Nat, (met l).length ≤ l.length
  | [] => Nat.le_refl _
  | c :: r => by
    have ih := met_len r
    unfold met
    split
    · exact Nat.le_succ_of_le ih
    · simp only [List.length_cons]
      omega
theorem mem_met : ∀ (l : List Nat) (c : Nat), c ∈ met l ↔ c ∈ l
  | [], c => Iff.rfl
  | a :: r, c => by
    have ih := mem_met r
    unfold met
    by_cases h : (met r).contains a = true
    · rw [if_pos h, ih]
      have ha : a ∈ r := (ih a).mp (by simpa using h)
      constructor
      · exact fun q => List.mem_cons_of_mem _ q
      · intro q
        rcases List.mem_cons.mp q with rfl | q
        · exact ha
        · exact q
    · rw [if_neg h]
      simp only [List.mem_cons, ih]
theorem met_full : ∀ l : List Nat, (met l).length = l.length ↔ l.Nodup
  | [] => by simp [met]
  | a :: r => by
    have ih := met_full r
    have hl := met_len r
    unfold met
    by_cases h : (met r).contains a = true
    · rw [if_pos h]
      have ha : a ∈ r := (mem_met r a).mp (by simpa using h)
      constructor
      · intro e
        simp only [List.length_cons] at e
        omega
      · intro q
        exact absurd ha (List.nodup_cons.mp q).1
    · rw [if_neg h]
      have ha : a ∉ r := fun q => h (by simpa using (mem_met r a).mpr q)
      simp only [List.length_cons, List.nodup_cons, ha, not_false_eq_true, true_and, Nat.add_right_cancel_iff]
      exact ih
theorem nodup_rev {l : List Nat} : l.reverse.Nodup ↔ l.Nodup := by
  refine (List.pairwise_reverse (R := fun a b : Nat => a ≠ b)).trans ?_
  exact ⟨fun h => h.imp Ne.symm, fun h => h.imp Ne.symm⟩
theorem metAt_end (l : List Nat) : (metAt l l.length).length = l.length ↔ l.Nodup := by
  unfold metAt
  rw [List.take_length]
  have h := met_full l.reverse
  rw [List.length_reverse] at h
  exact h.trans nodup_rev
/-- the set of the signs met -/
def metS (l : List Nat) (i : Nat) : Str → Bool := fun k => (metAt l i).any fun c => decide (k = (⟨#[c]⟩ : Str))
theorem metS_mem {l : List Nat} {i c : Nat} : metS l i ⟨#[c]⟩ = (metAt l i).contains c := by
  unfold metS
  rw [Bool.eq_iff_iff, List.any_eq_true]
  constructor
  · rintro ⟨d, hd, e⟩
    have e1 : [c] = [d] := congrArg (fun y : Str => y.cps.toList) (of_decide_eq_true e)
    have e2 : c = d := (List.cons.inj e1).1
    simpa [e2] using hd
  · intro h
    exact ⟨c, by simpa using h, by simp⟩
theorem metS_step {l : List Nat} {i c : Nat} (h : l[i]? = some c) (k : Str) : (metS l i k || decide (k = (⟨#[c]⟩ : Str))) = metS l (i + 1) k := by
  unfold metS
  rw [metAt_succ h]
  by_cases q : (metAt l i).contains c = true
  · rw [if_pos q]
    by_cases e : k = (⟨#[c]⟩ : Str)
    · subst e
      have := metS_mem (l := l) (i := i) (c := c)
      unfold metS at this
      rw [this, q]
      rfl
    · simp [e]
  · rw [if_neg q, List.any_cons, Bool.or_comm]
theorem metN_step {l : List Nat} {i c : Nat} (h : l[i]? = some c) : (if metS l i ⟨#[c]⟩ = true then (metAt l i).length else (metAt l i).length + 1) = (metAt l (i + 1)).length := by
  rw [metAt_succ h, metS_mem]
  split
  · rfl
  · rfl

section
variable {prog : Program} {w : World} {A : Around} {R : Result → Shared → Prop} {I : Addr} {fp wr : List Addr} {G : Array GenState → Array GenState → Prop} {P : Nat → Value → Prop} {St : Nat → Shared → Prop}
theorem upd_text {l : List Nat} (W : WalksS prog w A.in1 I fp wr G l.length P St) (S : Addr) (hSf : S ∉ fp)
    (hval : ∀ i v, P i v → ∃ c t, l[i]? = some c ∧ v = .str ⟨#[c]⟩ t) (hb : l.length + 1 < scanBound) :
    ∀ (k i : Nat) (s : Shared), l.length - i = k → i ≤ l.length → St i s → s.heap.SetOf (strKind prog w) S (metS l i) (metAt l i).length →
      (∀ s', Moved (S :: wr) G s s' → s'.heap.SetOf (strKind prog w) S (metS l l.length) (metAt l l.length).length → R (.ok (.ret .none)) s') → codeAny (model prog w) A (.builtin "set.update.loop" ⟨[.ref S, .ref I], []⟩) R s := by
  have hSw : S ∉ wr := fun h => hSf (W.sub _ h)
  have hsub : ∀ b ∈ wr, b ∈ S :: wr := fun b hb => List.mem_cons_of_mem _ hb
  intro k
  induction k with
  | zero =>
    intro i s hk hi hst hS hR
    obtain rfl : i = l.length := by omega
    refine codeAny_builtin PyProof.Rows.F.entry_set_update_loop ?_
    rw [Around.under_plainId PyProof.Rows.F.plain_set_update_loop _]
    show wpAny _ A.in1 (pyNext (.ref I) >>= _) _ _ s
    refine wpAny_bind (W.done s _ _ hst fun s1 hm => ?_)
    show wpAny _ A.in1 (ret Value.none) _ _ s1
    refine wpAny_pure (hR s1 (hm.mono hsub) ?_)
    obtain ⟨o, es, ep, t, ho, more⟩ := hS
    exact ⟨o, es, ep, t, hm.heap S _ hSw ho, more⟩
  | succ k ih =>
    intro i s hk hi hst hS hR
    have hlt : i < l.length := by omega
    refine codeAny_builtin PyProof.Rows.F.entry_set_update_loop ?_
    rw [Around.under_plainId PyProof.Rows.F.plain_set_update_loop _]
    show wpAny _ A.in1 (pyNext (.ref I) >>= _) _ _ s
    refine wpAny_bind (W.item i s _ _ hlt hst fun v s1 hP hst1 hm => ?_)
    obtain ⟨c, t, hc, rfl⟩ := hval i v hP
    have hS1 : s1.heap.SetOf (strKind prog w) S (metS l i) (metAt l i).length := by
      obtain ⟨o, es, ep, tb, ho, more⟩ := hS
      exact ⟨o, es, ep, tb, hm.heap S _ hSw ho, more⟩
    show wpAny _ A.in1 (holding [Value.str ⟨#[c]⟩ t] (setAdd S (.str ⟨#[c]⟩ t)) >>= _) _ _ s1
    refine wpAny_bind (wpAny_holding ?_)
    unfold setAdd
    refine wpAny_holding (wpAny_bind ((strKind prog w).pyHash (k := ⟨#[c]⟩) (strKind_is _ _ _ _) ?_))
    have hroom : (metAt l i).length + 1 < scanBound := by
      have h1 := met_len (l.take i).reverse
      rw [List.length_reverse, List.length_take] at h1
      have h2 : (metAt l i).length ≤ min i l.length := h1
      omega
    refine wpAny_setAddHashed_of (knd := strKind prog w) (s := { s1 with toks := s1.toks + 1 }) (strKind_is _ _ _ _) rfl hS1 hroom fun h2 hsb hS2 => ?_
    have hSi : h2.SetOf (strKind prog w) S (metS l (i + 1)) (metAt l (i + 1)).length := SetOf_congr hS2 (fun y => metS_step hc y) (metN_step hc)
    refine wpAny_pure ⟨plainId_quiet PyProof.Rows.F.plain_set_update_loop _, ih (i + 1) _ (by omega) hlt (W.frame _ s1 _ _ hst1 (Nat.le_succ _) fun b hb o e => ?_) hSi fun s3 hm3 hS3 => ?_⟩
    · rw [hsb.2 b (fun z : b = S => hSf (by rw [← z]; exact hb))]
      exact e
    · refine hR s3 (Moved.trans W.gtrans ((hm.mono hsub).then_heap (Nat.le_succ _) fun b o hb e => ?_) hm3) hS3
      rw [hsb.2 b (fun z : b = S => hb (by rw [z]; exact List.mem_cons_self))]
      exact e
end

section
variable {prog : Program} {w : World} {A : Around} {E : Value → Shared → Prop} {s : Shared}
theorem call_set_text {x : Str} {t : Tok} {Q : Value → Shared → Prop} (hh : A.handled = none) (hb : x.cps.size + 1 < scanBound)
    (h : ∀ (h2 : Heap) (tk : Nat), h2.SetOf (strKind prog w) s.heap.objs.size (metS x.cps.toList x.cps.size) (metAt x.cps.toList x.cps.size).length →
      (∀ b o, b < s.heap.objs.size → s.heap.get? b = some o → h2.get? b = some o) → Q (.ref s.heap.objs.size) { s with heap := h2, toks := tk }) :
    wpAny (model prog w) A (call (.type "set") [.str x t]) Q E s := by
  obtain ⟨c, tl, hmro⟩ := PySem.F.called_set.mro
  have hmade := PySem.F.called_set.made
  have hsub := PySem.F.called_set.sub
  refine wpAny_call (codeAny_of_tree ?_)
  show wpAny _ _ (callAny (.type "set") _) _ _ _
  refine wpAny_pure ⟨Code.quiet_builtin _ (by decide +kernel), codeAny_builtin PySem.F.entry_type_call ?_⟩
  rw [Around.under_plain (weight_type_call_type "set" [.str x t] []) rfl]
  have h1 := PySem.F.called_set.notType
  have h2 := PySem.F.called_set.canCreate
  have hct := PySem.F.typeCall_set_1 (.str x t)
  repeat (any_goals (first | assumption | wp_step))
  refine codeAny_mono (code_set_new_1 (.str x t) (E := E) (Q₁ := fun obj s₁ => ∃ led : Bool, obj = .ref s.heap.objs.size ∧ s₁ = { s with heap := s.heap.push { cls := .type "set", dict := none, data := .set #[] 0 (.fresh 0 0 led) } }) fun led => ⟨led, rfl, rfl⟩) fun r s₁ hr => ?_
  cases r with
  | error e => exact hr
  | ok fl =>
    cases fl with
    | ret obj =>
      obtain ⟨led, rfl, rfl⟩ := hr
      have hS : (s.heap.push { cls := .type "set", dict := none, data := .set #[] 0 (.fresh 0 0 led) }).get? s.heap.objs.size = some { cls := .type "set", dict := none, data := .set #[] 0 (.fresh 0 0 led) } := Heap.get?_push_size _ rfl
      have hT : Shared.TypeIs { s with heap := s.heap.push { cls := .type "set", dict := none, data := .set #[] 0 (.fresh 0 0 led) } } (.ref s.heap.objs.size) "set" := ⟨_, hS, rfl⟩
      have hli := PySem.F.called_set.init.lookup
      have hbi := PySem.F.called_set.init.bind (.ref s.heap.objs.size)
      repeat (any_goals (first | assumption | wp_step))
      refine codeAny_mono (codeAny_call_builtin (R := wants (fun r s₂ => r = .none ∧ ∃ h2 tk, s₂ = { s with heap := h2, toks := tk } ∧
          h2.SetOf (strKind prog w) s.heap.objs.size (metS x.cps.toList x.cps.size) (metAt x.cps.toList x.cps.size).length ∧
          (∀ b o, b < s.heap.objs.size → s.heap.get? b = some o → h2.get? b = some o)) E) PySem.F.called_set.init.plain PySem.F.entry_set_init (check_set_init_1 hT ?_)) fun r₂ s₂ hr₂ => ?_
      · unfold Builtin.«set.__init__» noKeywords Builtin.Frozenset.updateFrom
        generalize hPI : pyIter = PI
        have hTx : Shared.TypeIs { s with heap := s.heap.push { cls := .type "set", dict := none, data := .set #[] 0 (.fresh 0 0 led) } } (.str x t) "str" := rfl
        have hsS : isSubtype (.type "str") (.type "set") = pure false := by rw [isSubtype_type]; kernel_rfl
        have hsF : isSubtype (.type "str") (.type "frozenset") = pure false := by rw [isSubtype_type]; kernel_rfl
        have hne : (Value.type "str" == Value.type "dict") = false := by decide
        wp_walk
        subst hPI
        refine wpAny_pyIter_str fun o St W hst => wpAny_bind (wpAny_runValue ?_)
        generalize hH : s.heap.push { cls := .type "set", dict := none, data := .set #[] 0 (.fresh 0 0 led) } = Hq at W hst hS ⊢
        have hHs : Hq.objs.size = s.heap.objs.size + 1 := by rw [← hH, Heap.size_push]
        have hSf : s.heap.objs.size ∉ [Hq.objs.size] := fun hm => by
          rw [List.mem_singleton] at hm
          omega
        have hh3 : A.in1.in1.in1.handled = none := by simp [hh]
        refine upd_text (l := x.cps.toList) ((W A.in1.in1.in1 hh3).toS) s.heap.objs.size hSf (fun i v hv => ?_) hb (x.cps.toList.length - 0) 0 _ (by omega) (Nat.zero_le _) hst ?_ ?_
        · obtain ⟨c, u, hc, e⟩ := hv
          exact ⟨c, u, by rw [Array.getElem?_toList]; exact hc, e⟩
        · exact SetOf_congr ((PyProof.Rows.setObjOf_fresh (knd := strKind prog w) led).setOf (Heap.get?_push_of_some _ hS) (by unfold scanBound; omega)) (fun _ => rfl) rfl
        · intro s1 hm hS1
          obtain ⟨h2, g2, d2, tk2, os2⟩ := s1
          have eg : g2 = s.gens := hm.gens
          have ed : d2 = s.drawn := hm.drawn
          have eo : os2 = s.os := hm.os
          subst eg; subst ed; subst eo
          show wpAny _ _ _ _ _ _
          refine wpAny_pure ?_
          show wpAny _ _ (ret Value.none) _ _ _
          refine wpAny_pure ⟨rfl, h2, tk2, rfl, hS1, fun b o hb2 e => hm.heap b o (fun z => ?_) (Heap.get?_push_of_some _ (by rw [← hH]; exact Heap.get?_push_of_some _ e))⟩
          rcases List.mem_cons.mp z with z | z
          · rw [z] at hb2
            exact Nat.lt_irrefl _ hb2
          · rw [List.mem_singleton] at z
            rw [z, hHs] at hb2
            exact Nat.not_succ_lt_self hb2
      · cases r₂ with
        | error e => exact hr₂
        | ok fl₂ =>
          cases fl₂ with
          | ret r =>
            obtain ⟨rfl, h2, tk, rfl, hS', hk'⟩ := hr₂
            repeat (any_goals (first | assumption | wp_step))
            exact h _ _ hS' hk'
          | _ => exact hr₂.elim
    | _ => exact hr.elim
end

/-- len(set(x)), x a text -/
def tLenSetT (ta : TE) : TE := fun σ H Q => ta σ H fun x H1 => ∃ z : Str, x = .str z ∧ z.length ≤ 4000 ∧ Q (.int ((metAt z.cps.toList z.cps.toList.length).length : Nat)) H1
theorem pe_lenSetT {X : Cx} {a : Expr} {ta : TE} {p p2 q pos : Pos} (hg : Gl X "len") (hm : X.mg "len" = none) (hg2 : Gl X "set") (hm2 : X.mg "set" = none) (ha : PE X a ta) (hc : X.calm = true := by rfl)
    (na : starEach [a] X.env = (false, eval a X.env) :: starEach [] X.env := by rfl) : PE X (.Call (.Name "len" p) [.Call (.Name "set" p2) [a] [] q] [] pos) (tLenSetT ta) := by
  refine ⟨fun pins s σ H Q I h => ?_⟩
  refine Call_ (ld_blt I hg hm boot_len (PyProof.Rows.callWith_builtin1 (PyProof.Rows.args_cons ?_ rfl) rfl rfl))
  refine Call_ (ld_blt I hg2 hm2 boot_set ?_)
  refine PyProof.Rows.callWith_type1 (PyProof.Rows.args_cons (thn (ha.run pins s σ H _ I h) fun v s1 hh => PyProof.Rows.args_nil ?_) na) na rfl
  obtain ⟨x, H1, I1, r1, z, rfl, hz, q1⟩ := hh
  obtain ⟨t, rfl⟩ := r1
  have hz2 : z.cps.size ≤ 4000 := hz
  refine call_set_text (I1.ok.hd hc) (by unfold scanBound; omega) fun h2 tk hS hk => PyProof.Rows.args_nil ?_
  obtain ⟨o, es, ep, tb, ho, hex, hd, _, _, _, hf, hn⟩ := hS
  have I2 : Inv X pins σ H1 { s1 with heap := h2, toks := tk } := I1.kept fun b o e => hk b o (Heap.lt_size e) e
  have hle : (metAt z.cps.toList z.cps.size).length ≤ z.cps.size := by
    have h1 := met_len (z.cps.toList.take z.cps.size).reverse
    rw [List.length_reverse, List.length_take] at h1
    exact Nat.le_trans h1 (Nat.min_le_left _ _)
  exact call_len_set ho hex hd hf (by rw [hn]; omega) ⟨.int ((metAt z.cps.toList z.cps.toList.length).length : Nat), H1, I2.tok _, ⟨_, by rw [hn]; rfl⟩, q1⟩
end Vk
set_option Elab.async false
set_option linter.all false
set_option maxRecDepth 100000
set_option maxHeartbeats 4000000
namespace Vk
open PySem PySem.Spec PyProof.Rows L2
def top (i : Nat) : Stmt := PySem.Challenge.pw_talepost_k08_machine_tables.main.body.getD i (.Pass ⟨0, 0, 0, 0⟩)
abbrev sDiff : Stmt := top 10
/-- the built-in names stand for themselves -/
structure Zs (mg : Str → Option Value) : Prop where
  z_len : mg "len" = none
  z_set : mg "set" = none
  z_all : mg "all" = none
  z_abs : mg "abs" = none
  z_int : mg "int" = none
  z_range : mg "range" = none
  z_sorted : mg "sorted" = none
  z_isinstance : mg "isinstance" = none
  z_str : mg "str" = none
  z_bool : mg "bool" = none
  z_list : mg "list" = none
  z_tuple : mg "tuple" = none
  z_any : mg "any" = none
  z_enum : mg "enumerate" = none
  z_min : mg "min" = none
  z_max : mg "max" = none
  z_VE : mg "ValueError" = none
  z_zip : mg "zip" = none
  z_dict : mg "dict" = none
structure TxA (K : PySem.W.Frag) (mg : Str → Option Value) (aDiff : Addr) : Prop extends Zs mg where
  gDiff : mg "differ_within" = some (.ref aDiff)
theorem sz4 {n : Nat} (h : n ≤ 4000) : n ≤ sizeLine := by rw [sizeLine_eq]; omega
section
variable {P : Program} {w : World} {K : PySem.W.Frag} {mg : Str → Option Value} {base : Heap} {aDiff : Addr}
/-! differ_within -/
def Differ (t a : List Nat) : Prop := t.Nodup ∧ ∀ c ∈ t, c ∈ a
instance (t a : List Nat) : Decidable (Differ t a) := inferInstanceAs (Decidable (_ ∧ _))
def spDiff : Sp := fun vs H Q _ => ∃ t a : List Nat, vs = [.str (S t), .str (S a)] ∧ t.length ≤ 4000 ∧ ∀ H', Same H H' → Q (.bl (decide (Differ t a))) H'
theorem scDiff : FnScope ["text", "allowed", "letter"] ["text", "allowed"] (defScope sDiff) := ⟨rfl, rfl, rfl, by decide +kernel, rfl, by decide +kernel, by decide +kernel⟩
theorem ok_diff {f : Addr} {fd : FuncData} (F : Fun K "differ_within" "differ_within" sDiff f fd) (T : TxA K mg aDiff) : FnOk P w K mg base CX0 1 f fd ["text", "allowed"] spDiff := by
  refine F.ok scDiff (fun vs H Q E h => ?_) (fun cdv A outer s H vs Q E hr h => ?_)
  · obtain ⟨t, a, rfl, _⟩ := h
    rfl
  · obtain ⟨t, a, rfl, hl, k⟩ := h
    refine ⟨_, (pss_one (ps_ret (pe_and (pe_cmpR op_eq (pe_lenSetT (by rfl) T.z_len (by rfl) T.z_set (pv 0)) (pe_callB call_len_str (by rfl) T.z_len (by decide +kernel) (pa_cons (pv 0) pa_nil)) (nomark _)) (pe_one (pe_callB (cr_all rfl) (by rfl) T.z_all (by decide +kernel) (pa_cons (pe_lc (own := [("letter", 2)]) (g := gName 2) (by rfl) scDiff.nd (pi_str (pv 0)) (blkOk_by (own := [("letter", 2)]) (N := ["text", "allowed", "letter"]) (sc := defScope sDiff) (by decide +kernel)) (fun _ _ _ _ _ => pg_name (i := 2) scDiff.nd rfl (Or.inl rfl)) (fun _ _ _ _ _ => pts_nil) (fun _ _ _ _ _ => (pe_cmpR op_in_sign (pv 2) (pv 1) rfl))) pa_nil)))))), ?_⟩
    have e1 : ((metAt (S t).cps.toList (S t).cps.toList.length).length = t.length) ↔ t.Nodup := by
      rw [S_cps]
      exact metAt_end t
    refine ⟨_, rfl, _, rfl, by rw [S_len]; exact hl, _, rfl, _, rfl, sz4 (by rw [S_len]; exact hl), rfl, _, rfl, ?_⟩
    have e2 : ((V.int ((metAt (S t).cps.toList (S t).cps.toList.length).length : Nat)) = V.int ((S t).length : Nat)) ↔ t.Nodup := by
      rw [S_len, ← e1]
      constructor
      · intro h
        have h2 := V.int.inj h
        omega
      · intro h
        rw [h]
    refine ite2 (fun hn => ?_) (fun hn => ?_)
    · have hnd : t.Nodup := e2.mp (of_decide_eq_true hn)
      refine ⟨_, rfl, _, rfl, fun D hD => lc_text (fun _ => true) (fun c => V.bl (decide (c ∈ a))) hl (fun _ => rfl) (fun _ _ _ _ _ q => q) (fun c hc _ H2 Q2 _ q => ⟨_, rfl, _, rfl, c, S a, rfl, rfl, by rw [S_cps]; exact q⟩) ?_⟩
      refine ⟨D, t.map (fun c => decide (c ∈ a)), rfl, ?_, ?_⟩
      · rw [List.map_map]
        refine SqL.of ?_
        rw [upd_same, List.filter_eq_self.mpr (fun _ _ => rfl)]
        rfl
      · have e3 : (t.map fun c => decide (c ∈ a)).all id = decide (Differ t a) := by
          rw [Bool.eq_iff_iff]
          simp [Differ, hnd]
        rw [e3]
        exact k _ fun b o e => by rw [upd_ne (ne_of_none e hD)]; exact e
    · have hnd : ¬ t.Nodup := fun z => hn (decide_eq_true (e2.mpr z))
      have e3 : decide (Differ t a) = false := decide_eq_false fun z => hnd z.1
      have q := k H (Same.refl H)
      rw [e3] at q
      exact q
end
def Kp (b : Addr) (H H' : Hp) : Prop := ∀ c o, c ≠ b → H c = some o → H' c = some o
theorem Kp.refl (b : Addr) (H : Hp) : Kp b H H := fun _ _ _ h => h
theorem Kp.trans {b : Addr} {H H1 H2 : Hp} (a : Kp b H H1) (c : Kp b H1 H2) : Kp b H H2 := fun d o h e => c d o h (a d o h e)
theorem Kp.upd (b : Addr) (H : Hp) (o : HO) : Kp b H (upd H b o) := fun c u h e => by rw [upd_ne h]; exact e
def azL : List Nat := (PySem.Str.ofString "abcdefghijklmnopqrstuvwxyz").cps.toList
theorem az_S : PySem.Str.ofString "abcdefghijklmnopqrstuvwxyz" = S azL := S_of _
theorem az_len : azL.length = 26 := by decide +kernel
theorem az_nodup : azL.Nodup := by decide +kernel
theorem Differ.take {l a : List Nat} (h : Differ l a) (i : Nat) : Differ (l.take i) a := ⟨h.1.sublist (List.take_sublist i l), fun c hc => h.2 c (List.mem_of_mem_take hc)⟩
theorem differ_step {l a : List Nat} {i c : Nat} (hc : l[i]? = some c) : Differ (l.take (i + 1)) a ↔ (Differ (l.take i) a ∧ c ∈ a ∧ c ∉ l.take i) := by
  have hi : i < l.length := (List.getElem?_eq_some_iff.mp hc).1
  have e : l.take (i + 1) = l.take i ++ [c] := by
    rw [List.take_succ, hc]
    rfl
  unfold Differ
  rw [e, List.nodup_append]
  constructor
  · rintro ⟨⟨h1, _, h3⟩, h2⟩
    refine ⟨⟨h1, fun d hd => h2 d (List.mem_append_left _ hd)⟩, h2 c (List.mem_append_right _ (List.mem_singleton.mpr rfl)), fun z => h3 c z c (List.mem_singleton.mpr rfl) rfl⟩
  · rintro ⟨⟨h1, h2⟩, h3, h4⟩
    refine ⟨⟨h1, by simp, fun x hx y hy exy => ?_⟩, fun d hd => ?_⟩
    · rw [List.mem_singleton] at hy
      subst hy exy
      exact h4 hx
    · rcases List.mem_append.mp hd with h | h
      · exact h2 d h
      · rw [List.mem_singleton] at h
        subst h
        exact h3
def dueT (l v : List Nat) : Str := if l.length < 1 ∨ 4 < l.length ∨ ¬ Differ l azL then "letters" else if ¬ Differ v l then "vowels" else ""
abbrev sAlph : Stmt := top 9
abbrev sEq : Stmt := inClass (top 9) 3
def consL (l v : List Nat) : List Nat := (srtL l).filter fun c => !decide (c ∈ v)
/-- what an alphabet shows: letters, vowels, consonants, signs -/
def four (l v : List Nat) : List Str := [S (srtL l), S (srtL v), S (consL l v), S (45 :: srtL l)]
def alF (l v : List Nat) : List (Str × V) := [("letters", .str (S (srtL l))), ("vowels", .str (S (srtL v))), ("consonants", .str (S (consL l v))), ("signs", .str (S (45 :: srtL l)))]
def IsAl (C : Addr) (H : Hp) (a : Addr) (l v : List Nat) : Prop := ∃ dx, H a = some (.ins C dx (alF l v))
theorem IsAl.same {C a : Addr} {H H' : Hp} {l v : List Nat} (h : IsAl C H a l v) (s : Same H H') : IsAl C H' a l v := by
  obtain ⟨dx, e⟩ := h
  exact ⟨dx, s _ _ e⟩
structure AlF (K : PySem.W.Frag) (C : Addr) : Prop where
  cl : Cls K C
  nL : NoAttr K C "letters"
  nV : NoAttr K C "vowels"
  nC : NoAttr K C "consonants"
  nS : NoAttr K C "signs"
  ic : PySem.W.findIn K (.ref C) "__class__" = some (some (.builtin "object.__class__"))
  ig : PySem.W.specialIn K (.builtin "object.__class__") "__get__" = some (some (.builtin "getset_descriptor.__get__"))
  it : PySem.W.takesIn K (.builtin "object.__class__") = some true
  im : PySem.W.mroIn K C (.type "object") = some true
theorem joined {l : List Nat} {ys : List Str} (hl : l.length < 64) (hp : ys.Perm (signsOf (S l))) (hs : sortedS ys = true) :
    ((ys.map (·.length)).sum + ys.length * (PySem.Str.ofString "").length ≤ 16777216) ∧ Txt.join (PySem.Str.ofString "") ys = S (srtL l) := by
  rw [signs_S] at hp
  have e := sorted_signs hp hs
  subst e
  have e0 : PySem.Str.ofString "" = S [] := by decide +kernel
  rw [e0]
  refine ⟨?_, join_signs _⟩
  rw [S_len, List.length_nil, Nat.mul_zero, Nat.add_zero, List.map_map]
  have e1 : (srtL l).map ((fun x : Str => x.length) ∘ fun c => S [c]) = (srtL l).map fun _ => 1 := List.map_congr_left fun c _ => S_len [c]
  rw [e1]
  have e2 : ((srtL l).map fun _ => 1).sum = (srtL l).length := by
    induction srtL l with
    | nil => rfl
    | cons x xs ih => rw [List.map_cons, List.sum_cons, ih, List.length_cons, Nat.add_comm]
  rw [e2, srtL_len]
  omega
theorem joinedL {l : List Nat} (hl : l.length < 1000) : (((l.map fun c => S [c]).map (·.length)).sum + (l.map fun c => S [c]).length * (PySem.Str.ofString "").length ≤ 16777216) ∧ Txt.join (PySem.Str.ofString "") (l.map fun c => S [c]) = S l := by
  have e0 : PySem.Str.ofString "" = S [] := by decide +kernel
  rw [e0]
  refine ⟨?_, join_signs _⟩
  rw [S_len, List.length_nil, Nat.mul_zero, Nat.add_zero, List.map_map]
  have e1 : l.map ((fun x : Str => x.length) ∘ fun c => S [c]) = l.map fun _ => 1 := List.map_congr_left fun c _ => S_len [c]
  rw [e1]
  have e2 : (l.map fun _ => 1).sum = l.length := by
    clear hl e1
    induction l with
    | nil => rfl
    | cons x xs ih => rw [List.map_cons, List.sum_cons, ih, List.length_cons, Nat.add_comm]
  rw [e2]
  omega
theorem upd_laid {H : Hp} {p : Addr} {o : HO} (h : H p = none) : Same H (upd H p o) := fun b u e => by rw [upd_ne (ne_of_none e h)]; exact e
theorem Same.trans {A B C : Hp} (h : Same A B) (k : Same B C) : Same A C := fun b u e => k b u (h b u e)
section
variable {P : Program} {w : World} {K : PySem.W.Frag} {mg : Str → Option Value} {base : Heap} {aDiff : Addr}
end
theorem S_eq_iff {a b : List Nat} : decide ((V.str (S a)) = V.str (S b)) = decide (a = b) := by
  have e : ((V.str (S a)) = V.str (S b)) ↔ a = b := ⟨fun h => S_inj.mp (V.str.inj h), fun h => by rw [h]⟩
  rw [Bool.eq_iff_iff, decide_eq_true_iff, decide_eq_true_iff]
  exact e
def AlEq (l v l2 v2 : List Nat) : Bool := decide (srtL l = srtL l2) && decide (srtL v = srtL v2)
section
variable {P : Program} {w : World} {K : PySem.W.Frag} {mg : Str → Option Value} {base : Heap} {aDiff : Addr}
def spEq (C : Addr) : Sp := fun vs H Q _ => ∃ (a b : Addr) (l v l2 v2 : List Nat), vs = [.ref a, .ref b] ∧ IsAl C H a l v ∧ IsAl C H b l2 v2 ∧ Q (.bl (AlEq l v l2 v2)) H
theorem scEq : FnScope ["self", "other"] ["self", "other"] (defScope sEq) := ⟨rfl, rfl, rfl, by decide +kernel, rfl, by decide +kernel, by decide +kernel⟩
theorem ok_eq {f C : Addr} {fd : FuncData} (F : Fun K "__eq__" "Alphabet.__eq__" sEq f fd) (T : TxA K mg aDiff) (A : AlF K C) (hC : mg "Alphabet" = some (.ref C)) : FnOk P w K mg base CX0 1 f fd ["self", "other"] (spEq C) := by
  refine F.ok scEq (fun vs H Q E h => ?_) (fun cdv A0 outer s H vs Q E hr h => ?_)
  · obtain ⟨a, b, l, v, l2, v2, rfl, _⟩ := h
    rfl
  · obtain ⟨a, b, l, v, l2, v2, rfl, ⟨dx, ha⟩, ⟨dy, hb⟩, k⟩ := h
    refine ⟨_, pss_one (ps_ret (pe_and (pe_callB call_isi (by rfl) T.z_isinstance (by decide +kernel) (pa_cons (pv 1) (pa_cons (pe_glob (v := .ref C) (by rfl) hC rfl) pa_nil)))
      (pe_and (pe_cmpR op_eq (pe_fld (pv 0) rfl) (pe_fld (pv 1) rfl) (nomark _)) (pe_one (pe_cmpR op_eq (pe_fld (pv 0) rfl) (pe_fld (pv 1) rfl) (nomark _)))))), ?_⟩
    refine ⟨_, rfl, _, _, _, _, true, rfl, .own C, .base (.ins hb A.cl A.ic A.ig A.it A.im), ?_, true, rfl, iteT ?_⟩
    · show PySem.W.kitOne K (.ref C) (.ref C) = some true
      unfold PySem.W.kitOne
      rw [if_pos (beq_iff_eq.mpr rfl)]
    refine ⟨_, rfl, a, C, dx, _, _, rfl, ha, A.cl, A.nL, rfl, _, rfl, b, C, dy, _, _, rfl, hb, A.cl, A.nL, rfl, rfl, _, rfl, ?_⟩
    have q := k
    unfold AlEq at q
    rw [← S_eq_iff, ← S_eq_iff] at q
    refine ite2 (fun h => ?_) (fun h => ?_)
    · refine ⟨_, rfl, a, C, dx, _, _, rfl, ha, A.cl, A.nV, rfl, _, rfl, b, C, dy, _, _, rfl, hb, A.cl, A.nV, rfl, rfl, ?_⟩
      rw [h, Bool.true_and] at q
      exact q
    · rw [Bool.eq_false_iff.mpr h, Bool.false_and] at q
      exact q
end
abbrev sBA : Stmt := inClass (top 4) 0
def spBA (C : Addr) : Sp := fun vs H Q _ => ∃ (a : Addr) (z : Str), vs = [.ref a, .str z] ∧ z.length ≤ 100 ∧ H a = some (exo a C none) ∧
  ∀ dx, H dx = none → dx ≠ a → Q .non (upd (upd H dx (exd dx [("part", .str z)])) a (exo a C (some dx)))
theorem scBA : SScope ["self", "part"] (defScope sBA) := ⟨rfl, rfl, rfl, by decide +kernel, by decide +kernel, by decide +kernel, fun x h => (show ∀ y ∈ (defScope sBA).names, y.2 = .free → y.1 = "__class__" by decide +kernel) _ (PySem.mem_of_lookup h) rfl, by decide +kernel, by decide +kernel⟩
section
variable {P : Program} {w : World} {K : PySem.W.Frag} {mg : Str → Option Value} {base : Heap}
theorem ok_ba {f C cc cda : Addr} {dV kV doc pm ct oc : Value} {an od : Option Addr} {osl : Array (Option Value)} (T : SupC P K mg C cc cda) (hp : PySem.W.findIn K (.ref C) "part" = some none)
    (lk : K.lookup f = some ⟨oc, od, .func (PySem.W.ksFn "__init__" "BadAlphabet.__init__" (defArgs sBA) (defBody sBA) (defScope sBA) dV kV doc pm an (.ref cda) ct cc), osl⟩) (hcd : PySem.W.codeIn K (.ref cda) "BadAlphabet.__init__" = true) :
    FnOk P w K mg base CX0 1 f (PySem.W.ksFn "__init__" "BadAlphabet.__init__" (defArgs sBA) (defBody sBA) (defScope sBA) dV kV doc pm an (.ref cda) ct cc) ["self", "part"] (spBA C) := by
  refine fn_super (self := "self") (N' := ["part"]) T lk hcd scBA rfl rfl rfl rfl (fun _ => rfl) (fun _ => rfl) (fun vs H Q E h => ?_) (fun A outer s H vs Q E hr h => ?_)
  · obtain ⟨a, z, rfl, _⟩ := h
    rfl
  · obtain ⟨a, z, rfl, hz, ha, k⟩ := h
    refine ⟨_, _, pe_joined (.cons pe_str (.cons (pe_fmt (pv 1)) (.cons pe_str .nil))), pss_one (ps_ost (pv 0) (pv 1)), ⟨a, rfl, ha⟩, ?_⟩
    have e1 : (PySem.Str.ofString "not the ").length = 8 := by decide +kernel
    have e2 : (PySem.Str.ofString " of an alphabet").length = 15 := by decide +kernel
    have e3 : Str.empty.length = 0 := by decide +kernel
    have sl : ∀ {n : Nat}, n ≤ 1000 → n ≤ sizeLine := fun h => by rw [sizeLine_eq]; omega
    have al : ∀ a b : Str, (a ++ b).length = a.length + b.length := fun a b => by
      show (a.cps ++ b.cps).size = _
      rw [Array.size_append]
      rfl
    refine ⟨_, rfl, sl ?_, _, rfl, .inl ⟨z, rfl, sl (by omega), _, rfl, sl ?_, _, rfl, sl ?_, ⟨a, rfl, ha⟩, ?_⟩⟩
    · rw [al, e1, e3]
      decide
    · rw [al, al, e1, e3]
      omega
    · rw [al, al, al, e1, e2, e3]
      omega
    · exact ⟨_, rfl, _, rfl, a, C, rfl, T.oex, hp, .inl ⟨ha, fun dx hd hn => k dx hd hn⟩⟩
end
abbrev sAI : Stmt := inClass (top 9) 2
/-- BadAlphabet as the written part holds it -/
structure BaF (P : Program) (K : PySem.W.Frag) (mg : Str → Option Value) (B fB : Addr) : Prop where
  ox : OexC K B
  iC : PySem.W.findIn K (.ref B) "__init__" = some (some (.ref fB))
  tI : PySem.W.typeIn K (.ref fB) = some (.type "function")
  gB : mg "BadAlphabet" = some (.ref B)
/-- what else stands of Alphabet: its class values -/
structure AlV (K : PySem.W.Frag) (mg : Str → Option Value) (C : Addr) (mc : Value) (tm tj tl : Tok) : Prop where
  gC : mg "Alphabet" = some (.ref C)
  gL : mg "SMALL_LETTERS" = some (.str (S azL) tl)
  rd : ClX.CRead K C mc
  most : ClX.CVal K C mc "MOST" (.int 4) (.int 4 tm)
  joint : ClX.CVal K C mc "JOINT" (.str "-") (.str "-" tj)
def spAl (C B : Addr) : Sp := fun vs H Q E => ∃ (a dx : Addr) (l v : List Nat), vs = [.ref a, .str (S l), .str (S v)] ∧ H a = some (.ins C dx []) ∧ l.length ≤ 1000 ∧ v.length ≤ 1000 ∧
  (dueT l v = "" → ∀ H', IsAl C H' a l v → Kp a H H' → Q .non H') ∧
  (dueT l v ≠ "" → ∀ d H', H d = none → H' d = some (.xd [("part", .str (dueT l v))]) → Kp a H H' → E (.ref B) (some d) H')
theorem kp_exc {H : Hp} {b dx : Addr} {o : HO} {e0 e1 e2 : HO} (ha : H b = none) (hd : (upd H b e0) dx = none) (hn : dx ≠ b) : Same H (upd (del (upd (upd (upd H b e0) dx e1) b e2) b) dx o) := fun c u e => by
  have h1 : c ≠ b := ne_of_none e ha
  have h2 : c ≠ dx := fun z => by
    subst z
    rw [upd_ne h1, e] at hd
    cases hd
  rw [upd_ne h2, del_ne h1, upd_ne h1, upd_ne h2, upd_ne h1]
  exact e
theorem Same.kp {H H' : Hp} (h : Same H H') (a : Addr) : Kp a H H' := fun c o _ e => h c o e
theorem len_of_sub : ∀ {v l : List Nat}, v.Nodup → (∀ c ∈ v, c ∈ l) → v.length ≤ l.length
  | [], l, _, _ => Nat.zero_le _
  | c :: v, l, hn, hs => by
    obtain ⟨h1, h2⟩ := List.nodup_cons.mp hn
    have hc : c ∈ l := hs c List.mem_cons_self
    have ih := len_of_sub (v := v) (l := l.erase c) h2 fun d hd => (List.mem_erase_of_ne (fun (z : d = c) => h1 (z ▸ hd))).mpr (hs d (List.mem_cons_of_mem _ hd))
    rw [List.length_erase_of_mem hc] at ih
    have := List.length_pos_of_mem hc
    rw [List.length_cons]
    omega
theorem differ_len {v l : List Nat} (h : Differ v l) : v.length ≤ l.length := len_of_sub h.1 h.2
theorem put2 (x y : V) : putF "vowels" y [("letters", x)] = ([("letters", x), ("vowels", y)] : List (Str × V)) := by
  show (if ("letters" : Str) = "vowels" then _ else (("letters" : Str), x) :: putF "vowels" y []) = _
  rw [if_neg (by decide +kernel)]
  rfl
theorem put3 (x y z : V) : putF "consonants" z [("letters", x), ("vowels", y)] = ([("letters", x), ("vowels", y), ("consonants", z)] : List (Str × V)) := by
  show (if ("letters" : Str) = "consonants" then _ else (("letters" : Str), x) :: (if ("vowels" : Str) = "consonants" then _ else (("vowels" : Str), y) :: putF "consonants" z [])) = _
  rw [if_neg (by decide +kernel), if_neg (by decide +kernel)]
  rfl
theorem put4 (x y z t : V) : putF "signs" t [("letters", x), ("vowels", y), ("consonants", z)] = ([("letters", x), ("vowels", y), ("consonants", z), ("signs", t)] : List (Str × V)) := by
  show (if ("letters" : Str) = "signs" then _ else (("letters" : Str), x) :: (if ("vowels" : Str) = "signs" then _ else (("vowels" : Str), y) :: (if ("consonants" : Str) = "signs" then _ else (("consonants" : Str), z) :: putF "signs" t []))) = _
  rw [if_neg (by decide +kernel), if_neg (by decide +kernel), if_neg (by decide +kernel)]
  rfl
theorem scAI : FnScope ["self", "letters", "vowels", "letter"] ["self", "letters", "vowels"] (defScope sAI) := ⟨rfl, rfl, rfl, by decide +kernel, rfl, by decide +kernel, by decide +kernel⟩
section
variable {P : Program} {w : World} {K : PySem.W.Frag} {mg : Str → Option Value} {base : Heap} {aDiff : Addr}
theorem ok_alph {f C B fB : Addr} {mc : Value} {tm tj tl : Tok} {fd fdD fdB : FuncData} (F : FunD K "__init__" "Alphabet.__init__" (defArgs sAI) (defBody sAI) (defScope sAI) [.str ""] [] f fd) (T : TxA K mg aDiff) (A : AlF K C) (AV : AlV K mg C mc tm tj tl) (BA : BaF P K mg B fB)
    (FDiff : Fun K "differ_within" "differ_within" sDiff aDiff fdD) (bDiff : Binds K fdD ["text", "allowed"] []) (GB : FnOk P w K mg base CX0 1 fB fdB ["self", "part"] (spBA B)) (bB : Binds K fdB ["self", "part"] []) :
    FnOk P w K mg base (L2.CX P w) 3 f fd ["self", "letters", "vowels"] (spAl C B) := by
  have GDiff : FnOk P w K mg base CX0 1 aDiff fdD ["text", "allowed"] spDiff := ok_diff FDiff T
  refine F.ok scAI (fun vs H Q E h => ?_) (fun cdv A0 outer s H vs Q E hr h => ?_)
  · obtain ⟨a, dx, l, v, rfl, _⟩ := h
    rfl
  · obtain ⟨a, dx, l, v, rfl, ha, hl, hv, kq, ke⟩ := h
    refine ⟨_, (pss_cons (ps_if (PW.pt (pw_or (pt_not (pt_chain op_le op_le pe_int (pe_callB call_len_str (by rfl) T.z_len (by decide +kernel) (pa_cons (pv 1) pa_nil)) (ClX.pe_cval (pe_glob (v := .ref C) (by rfl) AV.gC rfl)))) (pw_or1 (pt_not (pt_val (pe_call GDiff (hr.mono (by decide)) (by rfl) T.gDiff FDiff.kp bDiff .nil pass0 (pa_cons (pv 1) (pa_cons (pe_glob (v := .str (S azL)) (by rfl) AV.gL ⟨_, rfl⟩) pa_nil)))))))) (pss_one (ps_raise rfl (takes_of rfl rfl rfl rfl) (pmk_oex BA.ox BA.iC BA.tI GB (hr.mono (by decide)) bB .nil pass0 (by rfl) BA.gB (pa_cons pe_str pa_nil)))) pss_nil)
      (pss_cons (ps_if (pt_not (pt_val (pe_call GDiff (hr.mono (by decide)) (by rfl) T.gDiff FDiff.kp bDiff .nil pass0 (pa_cons (pv 2) (pa_cons (pv 1) pa_nil))))) (pss_one (ps_raise rfl (takes_of rfl rfl rfl rfl) (pmk_oex BA.ox BA.iC BA.tI GB (hr.mono (by decide)) bB .nil pass0 (by rfl) BA.gB (pa_cons pe_str pa_nil)))) pss_nil)
      (pss_cons (ps_fld (pv 0) (pe_join pe_str (pe_callB (cr_sortT rfl) (by rfl) T.z_sorted (by decide +kernel) (pa_cons (pv 1) pa_nil))) rfl)
      (pss_cons (ps_fld (pv 0) (pe_join pe_str (pe_callB (cr_sortT rfl) (by rfl) T.z_sorted (by decide +kernel) (pa_cons (pv 2) pa_nil))) rfl)
      (pss_cons (ps_fld (pv 0) (pe_join pe_str (pe_lc (own := [("letter", 3)]) (g := gName 3) (by rfl) scAI.nd (pi_str (pe_fld (pv 0) rfl)) (blkOk_by (own := [("letter", 3)]) (N := ["self", "letters", "vowels", "letter"]) (sc := defScope sAI) (by decide +kernel)) (fun _ _ _ _ _ => pg_name (i := 3) scAI.nd rfl (Or.inl rfl)) (fun _ _ _ _ _ => (pts_one (pt_cmpR op_notIn_sign (pv 3) (pv 2) rfl))) (fun _ _ _ _ _ => (pv 3)))) rfl)
      (pss_one (ps_fld (pv 0) (pe_op op_add_str (ClX.pe_cval (pe_glob (v := .ref C) (by rfl) AV.gC rfl)) (pe_fld (pv 0) rfl)) rfl))))))), ?_⟩
    have hll : (S l).length ≤ sizeLine := sz4 (by rw [S_len]; omega)
    -- what a raise leaves
    have rz : ∀ (z : Str) (H1 : Hp), z.length ≤ 100 → z ≠ "" → dueT l v = z → Same H H1 → ∀ b, H1 b = none → spBA B [.ref b, .str z] (upd H1 b (exo b B none)) (fun v H2 => v = .non ∧ ∃ (d : Addr) (fs : List (Str × V)), H2 b = some (exo b B (some d)) ∧ H2 d = some (exd d fs) ∧ H1 d = none ∧ E (.ref B) (some d) (upd (del H2 b) d (.xd fs))) (fun _ _ _ => False) := by
      intro z H1 hz hne hdue hs b hb
      refine ⟨b, z, rfl, hz, upd_same, fun d hd hn => ⟨rfl, d, [("part", .str z)], upd_same, ?_, ?_, ?_⟩⟩
      · rw [upd_ne hn, upd_same]
      · rw [upd_ne hn] at hd
        exact hd
      · have h0 : H d = none := by
          cases e : H d with
          | none => rfl
          | some u =>
            have q := hs _ _ e
            rw [upd_ne hn, q] at hd
            cases hd
        refine ke (by rw [hdue]; exact hne) d _ h0 ?_ (Same.kp (Same.trans hs (kp_exc hb hd hn)) a)
        rw [hdue]
        exact upd_same
    have rl : dueT l v = "letters" → ∀ H1, Same H H1 → ([V.str "letters"] : List V).length ≤ 1000 ∧ ∀ b, H1 b = none → spBA B [.ref b, .str "letters"] (upd H1 b (exo b B none)) (fun v H2 => v = .non ∧ ∃ (d : Addr) (fs : List (Str × V)), H2 b = some (exo b B (some d)) ∧ H2 d = some (exd d fs) ∧ H1 d = none ∧ E (.ref B) (some d) (upd (del H2 b) d (.xd fs))) (fun _ _ _ => False) :=
      fun hd H1 hs => ⟨by show 1 ≤ 1000; decide, rz "letters" H1 (by decide +kernel) (by decide +kernel) hd hs⟩
    have rv : dueT l v = "vowels" → ∀ H1, Same H H1 → ([V.str "vowels"] : List V).length ≤ 1000 ∧ ∀ b, H1 b = none → spBA B [.ref b, .str "vowels"] (upd H1 b (exo b B none)) (fun v H2 => v = .non ∧ ∃ (d : Addr) (fs : List (Str × V)), H2 b = some (exo b B (some d)) ∧ H2 d = some (exd d fs) ∧ H1 d = none ∧ E (.ref B) (some d) (upd (del H2 b) d (.xd fs))) (fun _ _ _ => False) :=
      fun hd H1 hs => ⟨by show 1 ≤ 1000; decide, rz "vowels" H1 (by decide +kernel) (by decide +kernel) hd hs⟩
    have dl : (l.length < 1 ∨ 4 < l.length ∨ ¬ Differ l azL) → dueT l v = "letters" := fun h => if_pos h
    refine ⟨_, rfl, _, rfl, hll, _, _, rfl, rfl, _, rfl, ite2 (fun h1 => ⟨C, mc, _, _, rfl, AV.rd, AV.most, _, _, rfl, rfl, _, rfl, ?_⟩) (fun h1 => ⟨_, rfl, iteT (iteT (rl (dl (.inl ?_)) H (Same.refl H)))⟩)⟩
    rotate_left
    · have : ¬ (1 : Int) ≤ ((S l).length : Int) := fun z => h1 (decide_eq_true z)
      rw [S_len] at this
      omega
    refine ite2 (fun h2 => iteT (rl (dl (.inr (.inl ?_))) H (Same.refl H))) (fun h2 => ?_)
    · have h3 : decide (((S l).length : Int) ≤ 4) = false := by
        cases e : decide (((S l).length : Int) ≤ 4) with
        | false => rfl
        | true =>
          have h2' : (!decide (((S l).length : Int) ≤ 4)) = true := h2
          rw [e] at h2'
          cases h2'
      have := of_decide_eq_false h3
      rw [S_len] at this
      omega
    have g1 : 1 ≤ l.length := by
      have := of_decide_eq_true h1
      rw [S_len] at this
      omega
    have g2 : l.length ≤ 4 := by
      have h3 : decide (((S l).length : Int) ≤ 4) = true := by
        cases e : decide (((S l).length : Int) ≤ 4) with
        | true => rfl
        | false => exact absurd (show (!decide (((S l).length : Int) ≤ 4)) = true by rw [e]; rfl) h2
      have := of_decide_eq_true h3
      rw [S_len] at this
      omega
    refine ⟨_, rfl, l, azL, rfl, by omega, fun H1 s1 => ⟨_, rfl, ite2 (fun h3 => rl (dl (.inr (.inr ?_))) H1 s1) (fun h3 => ?_)⟩⟩
    · intro z
      rw [decide_eq_true z] at h3
      cases h3
    have hDl : Differ l azL := Classical.byContradiction fun z => h3 (by rw [decide_eq_false z]; rfl)
    have hnl : ¬ (l.length < 1 ∨ 4 < l.length ∨ ¬ Differ l azL) := fun z => z.elim (fun z => by omega) fun z => z.elim (fun z => by omega) fun z => z hDl
    refine ⟨_, rfl, _, rfl, v, l, rfl, by omega, fun H2 s2' => ⟨_, rfl, ite2 (fun h4 => rv ?_ H2 (Same.trans s1 s2')) (fun h4 => ?_)⟩⟩
    · unfold dueT
      rw [if_neg hnl, if_pos ?_]
      intro z
      rw [decide_eq_true z] at h4
      cases h4
    have hDv : Differ v l := Classical.byContradiction fun z => h4 (by rw [decide_eq_false z]; rfl)
    have hdue : dueT l v = "" := by
      unfold dueT
      rw [if_neg hnl, if_neg (fun z => z hDv)]
    have hvl := differ_len hDv
    have s2 := Same.trans s1 s2'
    have ha2 := s2 _ _ ha
    -- letters
    refine ⟨⟨_, rfl⟩, _, rfl, S l, rfl, (by rw [S_len]; omega), fun ys p1 hp hs n1 => ?_⟩
    obtain ⟨b1, e1⟩ := joined (by omega) hp hs
    refine ⟨_, p1, ys, rfl, rfl, .inl (SqL.of upd_same), b1, ?_⟩
    rw [e1]
    have k3 := Same.kp (Same.trans s2 (upd_laid (o := .lst (ys.map V.str)) n1)) a
    have ha3 : (upd H2 p1 (.lst (ys.map V.str))) a = some (.ins C dx []) := upd_laid n1 _ _ ha2
    generalize upd H2 p1 (.lst (ys.map V.str)) = H3 at k3 ha3
    refine ⟨_, rfl, a, C, dx, [], rfl, ha3, A.cl, A.nL, (by show 0 < 1000; decide), ?_⟩
    have k4 := k3.trans (Kp.upd a H3 (.ins C dx (putF "letters" (.str (S (srtL l))) [])))
    have ha4 : (upd H3 a (.ins C dx (putF "letters" (.str (S (srtL l))) []))) a = some (.ins C dx [("letters", .str (S (srtL l)))]) := upd_same
    generalize upd H3 a (.ins C dx (putF "letters" (.str (S (srtL l))) [])) = H4 at k4 ha4
    -- vowels
    refine ⟨⟨_, rfl⟩, _, rfl, S v, rfl, (by rw [S_len]; omega), fun zs p2 hp2 hs2 n2 => ?_⟩
    obtain ⟨b2, e2⟩ := joined (by omega) hp2 hs2
    refine ⟨_, p2, zs, rfl, rfl, .inl (SqL.of upd_same), b2, ?_⟩
    rw [e2]
    have k5 := k4.trans (Same.kp (upd_laid (o := .lst (zs.map V.str)) n2) a)
    have ha5 : (upd H4 p2 (.lst (zs.map V.str))) a = some (.ins C dx [("letters", .str (S (srtL l)))]) := upd_laid n2 _ _ ha4
    generalize upd H4 p2 (.lst (zs.map V.str)) = H5 at k5 ha5
    refine ⟨_, rfl, a, C, dx, _, rfl, ha5, A.cl, A.nV, (by show 1 < 1000; decide), ?_⟩
    rw [put2]
    have k6 := k5.trans (Kp.upd a H5 (.ins C dx [("letters", .str (S (srtL l))), ("vowels", .str (S (srtL v)))]))
    have ha6 : (upd H5 a (.ins C dx [("letters", .str (S (srtL l))), ("vowels", .str (S (srtL v)))])) a = some (.ins C dx [("letters", .str (S (srtL l))), ("vowels", .str (S (srtL v)))]) := upd_same
    generalize upd H5 a (.ins C dx [("letters", .str (S (srtL l))), ("vowels", .str (S (srtL v)))]) = H6 at k6 ha6
    -- consonants
    have hk4 : (srtL l).length ≤ 4000 := by rw [srtL_len]; omega
    refine ⟨⟨_, rfl⟩, _, rfl, a, C, dx, _, _, rfl, ha6, A.cl, A.nL, rfl, _, rfl, fun D hD => lc_text (fun c => !decide (c ∈ v)) (fun c => V.str (S [c])) hk4 (fun _ => rfl) (fun c hc H3 Q3 _ q => ⟨_, rfl, _, rfl, c, S v, rfl, rfl, _, rfl, by rw [S_cps]; exact q⟩) (fun c hc _ H3 Q3 _ q => ⟨_, rfl, q⟩) ?_⟩
    have hc64 : (consL l v).length < 1000 := by
      have := List.length_filter_le (fun c => !decide (c ∈ v)) (srtL l)
      rw [srtL_len] at this
      unfold consL
      omega
    obtain ⟨b3, e3⟩ := joinedL hc64
    refine ⟨_, D, (consL l v).map fun c => S [c], rfl, rfl, .inl (SqL.of (by rw [List.map_map]; exact upd_same)), b3, ?_⟩
    rw [e3]
    have k7 := k6.trans (Same.kp (upd_laid (o := .lst (((srtL l).filter fun c => !decide (c ∈ v)).map fun c => V.str (S [c]))) hD) a)
    have ha7 := upd_laid (o := .lst (((srtL l).filter fun c => !decide (c ∈ v)).map fun c => V.str (S [c]))) hD _ _ ha6
    generalize upd H6 D (.lst (((srtL l).filter fun c => !decide (c ∈ v)).map fun c => V.str (S [c]))) = H7 at k7 ha7
    refine ⟨_, rfl, a, C, dx, _, rfl, ha7, A.cl, A.nC, (by show 2 < 1000; decide), ?_⟩
    rw [put3]
    have k8 := k7.trans (Kp.upd a H7 (.ins C dx [("letters", .str (S (srtL l))), ("vowels", .str (S (srtL v))), ("consonants", .str (S (consL l v)))]))
    have ha8 : (upd H7 a (.ins C dx [("letters", .str (S (srtL l))), ("vowels", .str (S (srtL v))), ("consonants", .str (S (consL l v)))])) a = some (.ins C dx [("letters", .str (S (srtL l))), ("vowels", .str (S (srtL v))), ("consonants", .str (S (consL l v)))]) := upd_same
    generalize upd H7 a (.ins C dx [("letters", .str (S (srtL l))), ("vowels", .str (S (srtL v))), ("consonants", .str (S (consL l v)))]) = H8 at k8 ha8
    -- signs
    refine ⟨C, mc, _, _, rfl, AV.rd, AV.joint, _, rfl, a, C, dx, _, _, rfl, ha8, A.cl, A.nL, rfl, _, _, rfl, rfl, ?_, _, rfl, a, C, dx, _, rfl, ha8, A.cl, A.nS, (by show 3 < 1000; decide), ?_⟩
    · refine sz4 ?_
      rw [S_len, srtL_len]
      have : (PySem.Str.ofString "-").length = 1 := by decide +kernel
      omega
    have e4 : PySem.Str.ofString "-" ++ S (srtL l) = S (45 :: srtL l) := by
      have : PySem.Str.ofString "-" = S [45] := by decide +kernel
      rw [this, S_app]
      rfl
    rw [e4, put4]
    exact kq hdue _ ⟨dx, upd_same⟩ (k8.trans (Kp.upd a H8 _))
end
end Vk
set_option Elab.async false
set_option linter.all false
set_option maxRecDepth 100000
set_option maxHeartbeats 8000000
namespace Vk
open PySem PySem.Spec PyProof.Rows L2
/-! the walk over a reading -/
open L2 in
local macro_rules | `(tactic| walk_at "lk") => `(tactic| (refine Fr.get (by assumption) (by first | assumption | (simp only [List.mem_cons, List.not_mem_nil, or_false, not_or]; first | assumption | (refine ⟨?_, ?_⟩ <;> assumption) | (apply Ne.symm; assumption))) ?_; walk_at "lk"))
local macro_rules | `(tactic| walk_at "lk") => `(tactic| (refine Same.get (by assumption) ?_; walk_at "lk"))
local macro_rules | `(tactic| walk_at "lk") => `(tactic| (refine upd_oth (by first | assumption | (apply Ne.symm; assumption)) ?_; walk_at "lk"))
local macro_rules | `(tactic| walk_at "lk") => `(tactic| (refine upd_old (by assumption) ?_; walk_at "lk"))
local macro_rules | `(tactic| walk_at "lk") => `(tactic| exact upd_same)
local macro_rules | `(tactic| walk_at "lk") => `(tactic| assumption)
local macro_rules | `(tactic| walk_at "len") => `(tactic| (simp only [S_len, sizeLine_eq, List.length_take, List.length_drop, List.length_append, List.length_cons, List.length_nil]; omega))
local macro_rules | `(tactic| walk_at "len") => `(tactic| (simp only [S_len, sizeLine_eq]; omega))
local macro_rules | `(tactic| walk_at "len") => `(tactic| (simp only [List.length_cons, List.length_nil, sizeLine_eq]; omega))
local macro_rules | `(tactic| walk_at "num") => `(tactic| first | assumption | omega | (simp only [List.length_take, List.length_drop, List.length_append, List.length_cons, List.length_nil]; omega))
local macro_rules | `(tactic| walk_at "ix") => `(tactic| first | exact rfl | assumption | exact atI_nat (by assumption))
local macro_rules | `(tactic| walk_at "putq") => `(tactic| exact rfl)
local macro_rules | `(tactic| walk_at "sq") => `(tactic| exact .inr (SqT.of (by walk_at "lk")))
local macro_rules | `(tactic| walk_at "sq") => `(tactic| exact .inl (SqL.of (by walk_at "lk")))
local macro_rules | `(tactic| walk_at "sq") => `(tactic| exact .inl (by assumption))
local macro_rules | `(tactic| walk_at "sq") => `(tactic| exact .inr (by assumption))
local macro_rules | `(tactic| walk_at "mapq") => `(tactic| exact (rfl : _ = List.map (fun l => V.str (S l)) [_, _, _, _, _]))
local macro_rules | `(tactic| walk_at "mapq") => `(tactic| exact (rfl : _ = List.map (fun l => V.str (S l)) [_, _, _, _]))
local macro_rules | `(tactic| walk_at "mapq") => `(tactic| exact (rfl : _ = List.map (fun l => V.str (S l)) [_, _, _]))
local macro_rules | `(tactic| walk_at "mapq") => `(tactic| exact (rfl : _ = List.map (fun l => V.str (S l)) [_, _]))
local macro_rules | `(tactic| walk_at "mapq") => `(tactic| exact (rfl : _ = List.map (fun l => V.str (S l)) [_]))
local macro_rules | `(tactic| walk_at "mapq") => `(tactic| exact rfl)
local macro_rules | `(tactic| walk_at "setq") => `(tactic| ((try simp only [Int.reduceToNat, List.set_cons_succ, List.set_cons_zero]); exact rfl))
local macro_rules | `(tactic| walk_at "toN") => `(tactic| first | exact rfl | exact (Int.natCast_add _ _).symm | exact (Int.natCast_add _ 1).symm)
local macro_rules | `(tactic| walk_at "cond") => `(tactic| first | omega | (simp only [List.length_map]; omega) | (refine Or.inl ⟨?_, ?_⟩ <;> omega) | (refine Or.inr ⟨?_, ?_⟩ <;> omega) | (refine ⟨?_, ?_⟩ <;> omega))
local macro_rules | `(tactic| walk_at "side") => `(tactic| omega)
local macro_rules | `(tactic| walk_at "side") => `(tactic| (walk_at "len"))
local macro_rules | `(tactic| walk_at "side") => `(tactic| exact ⟨_, by assumption⟩)
local macro_rules | `(tactic| walk_at "side") => `(tactic| exact ⟨_, SqL.of (by walk_at "lk")⟩)
local macro_rules | `(tactic| walk_at "side") => `(tactic| exact ⟨_, rfl⟩)
local macro_rules | `(tactic| walk_at "side") => `(tactic| exact .inl ⟨rfl, _, SqL.of (by walk_at "lk")⟩)
local macro_rules | `(tactic| walk_at "side") => `(tactic| exact .inr (SqT.of (by walk_at "lk")))
local macro_rules | `(tactic| walk_at "side") => `(tactic| exact .inl (SqL.of (by walk_at "lk")))
local macro_rules | `(tactic| walk_at "side") => `(tactic| exact SqT.of (by walk_at "lk"))
local macro_rules | `(tactic| walk_at "side") => `(tactic| exact SqL.of (by walk_at "lk"))
local macro_rules | `(tactic| walk_at "side") => `(tactic| (walk_at "lk"))
local macro_rules | `(tactic| walk_at "side") => `(tactic| rfl)
local macro_rules | `(tactic| walk_at "go1") => `(tactic| ((with_reducible apply Or.inr); (with_reducible apply Exists.intro); (with_reducible apply And.intro); exact rfl))
local macro_rules | `(tactic| walk_at "go1") => `(tactic| ((with_reducible apply Or.inl); (with_reducible apply Exists.intro); (with_reducible apply And.intro); exact rfl))
local macro_rules | `(tactic| walk_at "go1") => `(tactic| ((with_reducible apply And.intro); walk_at "side"))
local macro_rules | `(tactic| walk_at "go1") => `(tactic| ((with_reducible apply And.intro); exact rfl))
local macro_rules | `(tactic| walk_at "go1") => `(tactic| (with_reducible apply Exists.intro))
local macro_rules | `(tactic| walk_at "go1") => `(tactic| (walk_at "proj"))
local macro_rules | `(tactic| walk_at "go1") => `(tactic| ((with_reducible apply eSFld); (walk_at "lk"); assumption; assumption; (simp only [List.length_cons, List.length_nil]; decide); (walk_at "putq")))
local macro_rules | `(tactic| walk_at "go1") => `(tactic| (with_reducible refine iNFF ?_))
local macro_rules | `(tactic| walk_at "go1") => `(tactic| (with_reducible refine iNTT ?_))
local macro_rules | `(tactic| walk_at "go1") => `(tactic| (with_reducible refine iFF ?_))
local macro_rules | `(tactic| walk_at "go1") => `(tactic| (with_reducible refine iTT ?_))
local macro_rules | `(tactic| walk_at "go1") => `(tactic| ((with_reducible apply iListT); (walk_at "num")))
local macro_rules | `(tactic| walk_at "go1") => `(tactic| ((with_reducible apply iTruL); (first | assumption | exact SqL.of (by walk_at "lk"))))
local macro_rules | `(tactic| walk_at "go1") => `(tactic| ((with_reducible apply iTruCons); exact SqL.of (by walk_at "lk")))
local macro_rules | `(tactic| walk_at "go1") => `(tactic| ((with_reducible apply iTruNil); exact SqL.of (by walk_at "lk")))
local macro_rules | `(tactic| walk_at "go1") => `(tactic| ((with_reducible apply iAppend); (walk_at "lk"); (walk_at "len")))
local macro_rules | `(tactic| walk_at "go1") => `(tactic| ((with_reducible apply iCat); (walk_at "lk"); (walk_at "lk"); (walk_at "len")))
local macro_rules | `(tactic| walk_at "go1") => `(tactic| ((with_reducible apply iSlL); (first | assumption | exact SqL.of (by walk_at "lk"))))
local macro_rules | `(tactic| walk_at "go1") => `(tactic| (with_reducible refine iYes ?_))
local macro_rules | `(tactic| walk_at "go1") => `(tactic| (with_reducible refine iForR2 ?_))
local macro_rules | `(tactic| walk_at "go1") => `(tactic| (with_reducible refine iForR1 ?_))
local macro_rules | `(tactic| walk_at "go1") => `(tactic| (with_reducible refine iForS ?_))
local macro_rules | `(tactic| walk_at "go1") => `(tactic| (with_reducible refine iForL ?_))
local macro_rules | `(tactic| walk_at "go1") => `(tactic| (with_reducible refine iLcR1 ?_))
local macro_rules | `(tactic| walk_at "go1") => `(tactic| (with_reducible refine iLcS ?_))
local macro_rules | `(tactic| walk_at "go1") => `(tactic| (with_reducible refine iLcL ?_))
local macro_rules | `(tactic| walk_at "go1") => `(tactic| ((with_reducible apply iNInL); (walk_at "sq"); (walk_at "mapq")))
local macro_rules | `(tactic| walk_at "go1") => `(tactic| ((with_reducible apply iInL); (walk_at "sq"); (walk_at "mapq")))
local macro_rules | `(tactic| walk_at "go1") => `(tactic| (with_reducible refine iWF ?_))
local macro_rules | `(tactic| walk_at "go1") => `(tactic| (with_reducible refine iWT ?_))
local macro_rules | `(tactic| walk_at "go1") => `(tactic| (with_reducible refine iMeth ?_))
local macro_rules | `(tactic| walk_at "go1") => `(tactic| (with_reducible refine iMeth0 ?_))
local macro_rules | `(tactic| walk_at "go1") => `(tactic| (with_reducible refine iProp ?_))
local macro_rules | `(tactic| walk_at "go1") => `(tactic| (with_reducible refine iCon ?_))
local macro_rules | `(tactic| walk_at "go1") => `(tactic| (with_reducible refine iSFld ?_))
local macro_rules | `(tactic| walk_at "go1") => `(tactic| (with_reducible refine iFld ?_))
local macro_rules | `(tactic| walk_at "go1") => `(tactic| (with_reducible refine isi_bl_str ?_))
local macro_rules | `(tactic| walk_at "go1") => `(tactic| (with_reducible refine isi_bl_int ?_))
local macro_rules | `(tactic| walk_at "go1") => `(tactic| (with_reducible refine isi_bl_bool ?_))
local macro_rules | `(tactic| walk_at "go1") => `(tactic| (with_reducible refine isi_str_bool ?_))
local macro_rules | `(tactic| walk_at "go1") => `(tactic| (with_reducible refine isi_str_int ?_))
local macro_rules | `(tactic| walk_at "go1") => `(tactic| (with_reducible refine isi_str_str ?_))
local macro_rules | `(tactic| walk_at "go1") => `(tactic| (with_reducible refine isi_int_str ?_))
local macro_rules | `(tactic| walk_at "go1") => `(tactic| (with_reducible refine isi_int_bool ?_))
local macro_rules | `(tactic| walk_at "go1") => `(tactic| (with_reducible refine isi_int_int ?_))
local macro_rules | `(tactic| walk_at "go1") => `(tactic| (with_reducible refine iLst ?_))
local macro_rules | `(tactic| walk_at "go1") => `(tactic| (with_reducible refine iTup ?_))
local macro_rules | `(tactic| walk_at "go1") => `(tactic| (with_reducible refine iPart ?_))
local macro_rules | `(tactic| walk_at "go1") => `(tactic| (with_reducible refine iNoPart ?_))
local macro_rules | `(tactic| walk_at "go1") => `(tactic| ((with_reducible apply iSetL); (walk_at "lk"); exact rfl; (walk_at "setq")))
local macro_rules | `(tactic| walk_at "go1") => `(tactic| ((with_reducible apply iPartS); walk_at "num"))
local macro_rules | `(tactic| walk_at "go1") => `(tactic| (with_reducible refine iStartS ?_))
local macro_rules | `(tactic| walk_at "go1") => `(tactic| (with_reducible refine iFindS ?_))
local macro_rules | `(tactic| walk_at "go1") => `(tactic| ((with_reducible apply iFindNo); assumption))
local macro_rules | `(tactic| walk_at "go1") => `(tactic| ((with_reducible apply iFindYes); assumption))
local macro_rules | `(tactic| walk_at "go1") => `(tactic| (with_reducible refine iNotInS ?_))
local macro_rules | `(tactic| walk_at "go1") => `(tactic| (with_reducible refine iInS ?_))
local macro_rules | `(tactic| walk_at "go1") => `(tactic| ((with_reducible apply iLenS1); walk_at "num"))
local macro_rules | `(tactic| walk_at "go1") => `(tactic| ((with_reducible apply iAddS); walk_at "num"))
local macro_rules | `(tactic| walk_at "go1") => `(tactic| ((with_reducible apply iSlS); walk_at "num"))
local macro_rules | `(tactic| walk_at "go1") => `(tactic| ((with_reducible apply iSlMid); walk_at "num"; walk_at "toN"; walk_at "toN"))
local macro_rules | `(tactic| walk_at "go1") => `(tactic| ((with_reducible apply iSlFrom); walk_at "num"; walk_at "toN"))
local macro_rules | `(tactic| walk_at "go1") => `(tactic| ((with_reducible apply iSlTo); walk_at "num"; walk_at "toN"))
local macro_rules | `(tactic| walk_at "go1") => `(tactic| ((with_reducible apply iIxS); walk_at "num"; walk_at "ix"))
local macro_rules | `(tactic| walk_at "go1") => `(tactic| ((with_reducible apply iIxT); exact SqT.of (by walk_at "lk"); walk_at "ix"))
local macro_rules | `(tactic| walk_at "go1") => `(tactic| ((with_reducible apply iIxL); exact SqL.of (by walk_at "lk"); walk_at "ix"))
local macro_rules | `(tactic| walk_at "go1") => `(tactic| (with_reducible refine iSl ?_))
local macro_rules | `(tactic| walk_at "go1") => `(tactic| (with_reducible refine iBM ?_))
local macro_rules | `(tactic| walk_at "go1") => `(tactic| (with_reducible refine iM1 ?_))
local macro_rules | `(tactic| walk_at "go1") => `(tactic| ((with_reducible apply iI); walk_at "cond"))
local macro_rules | `(tactic| walk_at "go1") => `(tactic| ((with_reducible apply iNe); exact rfl))
local macro_rules | `(tactic| walk_at "go1") => `(tactic| ((with_reducible apply iEq); exact rfl))
local macro_rules | `(tactic| walk_at "go1") => `(tactic| (with_reducible refine iNext ?_))
local macro_rules | `(tactic| walk_at "go1") => `(tactic| (with_reducible refine iDrop ?_))
local macro_rules | `(tactic| walk_at "go1") => `(tactic| (with_reducible refine iRetN ?_))
local macro_rules | `(tactic| walk_at "go1") => `(tactic| (with_reducible refine iRet ?_))
local macro_rules | `(tactic| walk_at "go1") => `(tactic| (with_reducible refine iIfE ?_))
local macro_rules | `(tactic| walk_at "go1") => `(tactic| (with_reducible refine iNotV ?_))
local macro_rules | `(tactic| walk_at "go1") => `(tactic| (with_reducible refine iOrV ?_))
local macro_rules | `(tactic| walk_at "go1") => `(tactic| (with_reducible refine iAndV ?_))
local macro_rules | `(tactic| walk_at "go1") => `(tactic| (with_reducible refine iNot ?_))
local macro_rules | `(tactic| walk_at "go1") => `(tactic| (with_reducible refine iOr ?_))
local macro_rules | `(tactic| walk_at "go1") => `(tactic| (with_reducible refine iAnd ?_))
local macro_rules | `(tactic| walk_at "go1") => `(tactic| (with_reducible refine iTest ?_))
local macro_rules | `(tactic| walk_at "go1") => `(tactic| (with_reducible refine iB ?_))
local macro_rules | `(tactic| walk_at "go1") => `(tactic| (with_reducible refine iIfS ?_))
local macro_rules | `(tactic| walk_at "go1") => `(tactic| (with_reducible refine iUn ?_))
local macro_rules | `(tactic| walk_at "go1") => `(tactic| (with_reducible refine iU ?_))
local macro_rules | `(tactic| walk_at "go1") => `(tactic| (with_reducible refine iI0 ?_))
local macro_rules | `(tactic| walk_at "go1") => `(tactic| (with_reducible refine iCall ?_))
local macro_rules | `(tactic| walk_at "go1") => `(tactic| (with_reducible refine iCall0 ?_))
local macro_rules | `(tactic| walk_at "go1") => `(tactic| (with_reducible refine iCB ?_))
local macro_rules | `(tactic| walk_at "go1") => `(tactic| (with_reducible refine iNil ?_))
local macro_rules | `(tactic| walk_at "go1") => `(tactic| (with_reducible refine iCons ?_))
local macro_rules | `(tactic| walk_at "go1") => `(tactic| (with_reducible refine iSub ?_))
local macro_rules | `(tactic| walk_at "go1") => `(tactic| (with_reducible refine iName ?_))
local macro_rules | `(tactic| walk_at "go1") => `(tactic| (with_reducible refine iAsg ?_))
local macro_rules | `(tactic| walk_at "go1") => `(tactic| (with_reducible refine iOp ?_))
local macro_rules | `(tactic| walk_at "go1") => `(tactic| (with_reducible refine iC ?_))
local macro_rules | `(tactic| walk_at "go1") => `(tactic| ((with_reducible apply iVar); exact rfl))
local macro_rules | `(tactic| walk_at "go1") => `(tactic| (with_reducible refine iSeq ?_))
local macro_rules | `(tactic| walk_at "fr") => `(tactic| (refine Fr.trans ?_ (Fr.wk (Fr.wk (by assumption))); walk_at "fr"))
local macro_rules | `(tactic| walk_at "fr") => `(tactic| (refine Fr.trans ?_ (Fr.wk1 (by assumption)); walk_at "fr"))
local macro_rules | `(tactic| walk_at "fr") => `(tactic| (refine Fr.trans ?_ (Fr.wk (by assumption)); walk_at "fr"))
local macro_rules | `(tactic| walk_at "fr") => `(tactic| (refine Fr.trans ?_ (by assumption); walk_at "fr"))
local macro_rules | `(tactic| walk_at "fr") => `(tactic| (refine Fr.trans ?_ (Fr.of_same (by assumption)); walk_at "fr"))
local macro_rules | `(tactic| walk_at "fr") => `(tactic| (refine Fr.trans ?_ (Fr.upd_new (by assumption)); walk_at "fr"))
local macro_rules | `(tactic| walk_at "fr") => `(tactic| (refine Fr.trans ?_ Fr.in2; walk_at "fr"))
local macro_rules | `(tactic| walk_at "fr") => `(tactic| (refine Fr.trans ?_ Fr.in1; walk_at "fr"))
local macro_rules | `(tactic| walk_at "fr") => `(tactic| (refine Fr.trans ?_ Fr.in0; walk_at "fr"))
local macro_rules | `(tactic| walk_at "fr") => `(tactic| assumption)
local macro_rules | `(tactic| walk_at "fr") => `(tactic| exact Fr.refl _ _)
local macro_rules | `(tactic| walk_at "proj") => `(tactic| (with_reducible refine (show (Ends.mk _ _ _ _).rt _ _ from ?_); dsimp only))
local macro_rules | `(tactic| walk_at "proj") => `(tactic| (with_reducible refine (show (Ends.mk _ _ _ _).nx _ _ from ?_); dsimp only))
local macro_rules | `(tactic| walk_at "br0") => `(tactic| (with_reducible apply iWDN))
local macro_rules | `(tactic| walk_at "br0") => `(tactic| (with_reducible apply iWD))
local macro_rules | `(tactic| walk_at "br0") => `(tactic| (with_reducible apply iBbn))
local macro_rules | `(tactic| walk_at "br0") => `(tactic| (with_reducible apply iBb))
local macro_rules | `(tactic| walk_at "br0") => `(tactic| (with_reducible apply iBnd))
local macro_rules | `(tactic| walk_at "br0") => `(tactic| (with_reducible apply iBd))
local macro_rules | `(tactic| walk_at "dead") => `(tactic| first | (exfalso; omega) | contradiction)
local macro_rules | `(tactic| walk_at "br") => `(tactic| (walk_at "br0" <;> (intro hbr; (try simp only [V.str.injEq, V.int.injEq, V.bl.injEq, Vk.S_inj, reduceCtorEq, List.cons.injEq, and_true, not_true_eq_false, not_false_eq_true, decide_eq_true_eq, decide_eq_false_iff_not, Nat.reduceEqDiff, List.length_cons, List.length_nil, and_false, false_and, eq_self] at hbr); (try walk_at "dead"))))
local macro_rules | `(tactic| walk_at "new") => `(tactic| (refine fun (p : Addr) (hp : _ = none) => ?_))
local macro_rules | `(tactic| walk_at "go") => `(tactic| repeat' (first | walk_at "go1" | walk_at "br" | walk_at "new" | (refine fun (y z : V) => ?_)))
section
set_option Elab.async false
set_option linter.all false
set_option maxRecDepth 100000
set_option maxHeartbeats 4000000
open PySem PySem.Spec PyProof.Rows L2

local macro_rules | `(tactic| walk_at "side") => `(tactic| exact .inl (by assumption))
theorem _root_.L2.PE.imp {X : Cx} {e : Expr} {t t' : TE} (h : PE X e t) (k : ∀ σ H Q, t' σ H Q → t σ H Q) : PE X e t' := ⟨fun pins s σ H Q I q => h.run pins s σ H Q I (k σ H Q q)⟩
theorem _root_.L2.PS.imp {X : Cx} {st : Stmt} {t t' : TS} (h : PS X st t) (k : ∀ D σ H, t' D σ H → t D σ H) : PS X st t' := ⟨fun pins s σ H D I q => h.run pins s σ H D I (k D σ H q)⟩
theorem _root_.L2.Room.unitu {k : Nat} {A : Around} (r : Room (k + 1) A) : A.units + 65 < cLine := by have := r.un; omega
theorem passE {X : Cx} {P : Program} {w : World} : Passes (L2.CX P w) X (fun _ _ _ => False) := fun _ _ _ _ _ _ _ h => by
  obtain ⟨_, _, _, _, _, _, _, _, _, _, _, _, z⟩ := h
  exact z.elim
/-- a field, K named: inside a comprehension -/
theorem pe_fldK {X : Cx} {K : PySem.W.Frag} {e : Expr} {f : Str} {pos : Pos} {ta : TE} (hK : X.K = K) (he : PE X e ta) (hb : attributeBase e f X.env (eval e X.env) = eval e X.env) : PE X (.Attribute e f pos) (tFld K ta f) := hK ▸ pe_fld he hb
/-- an error class and its own __init__ -/
structure EF (K : PySem.W.Frag) (mg : Str → Option Value) (N : Str) (B fB : Addr) (fd : FuncData) (ps : List Str) : Prop where
  ox : OexC K B
  iC : PySem.W.findIn K (.ref B) "__init__" = some (some (.ref fB))
  tI : PySem.W.typeIn K (.ref fB) = some (.type "function")
  gB : mg N = some (.ref B)
  bB : Binds K fd ps []
structure Ad where
  aDiff : Addr
  aIsSign : Addr
  aMInit : Addr
  aMLen : Addr
  aCkLen : Addr
  aIsLabel : Addr
  aIsArc : Addr
  aWell : Addr
  aTake : Addr
  aLetters : Addr
  aStrange : Addr
  aCopy : Addr
  aTable : Addr
  aWrong : Addr
  aPut : Addr
  aKept : Addr
  aRefused : Addr
  aLaw : Addr
  cAlphabet : Addr
  cMachine : Addr
  cTale : Addr
  cMixed : Addr
  cBadText : Addr
  cBadTable : Addr
  eBadTable : Addr
  tJoint : Tok
structure Fd where
  dDiff : FuncData
  dIsSign : FuncData
  dMInit : FuncData
  dMLen : FuncData
  dCkLen : FuncData
  dIsLabel : FuncData
  dIsArc : FuncData
  dWell : FuncData
  dTake : FuncData
  dLetters : FuncData
  dStrange : FuncData
  dCopy : FuncData
  dTable : FuncData
  dWrong : FuncData
  dPut : FuncData
  dKept : FuncData
  dRefused : FuncData
  dLaw : FuncData
  eBadTable : FuncData
abbrev sIsSign : Stmt := inClass (top 9) 6
abbrev sMInit : Stmt := inClass (top 33) 0
abbrev sMLen : Stmt := inClass (top 33) 4
abbrev sCkLen : Stmt := top 34
abbrev sIsLabel : Stmt := top 35
abbrev sIsArc : Stmt := top 36
abbrev sWell : Stmt := top 39
abbrev sTake : Stmt := top 40
abbrev sLetters : Stmt := top 41
abbrev sStrange : Stmt := top 42
abbrev sCopy : Stmt := top 43
abbrev sTable : Stmt := top 44
abbrev sWrong : Stmt := top 45
abbrev sPut : Stmt := top 46
abbrev sKept : Stmt := top 47
abbrev sRefused : Stmt := top 48
abbrev sLaw : Stmt := top 49
structure Fns (K : PySem.W.Frag) (mg : Str → Option Value) (a : Ad) (d : Fd) : Prop extends TxA K mg a.aDiff where
  FDiff : Fun K "differ_within" "differ_within" sDiff a.aDiff d.dDiff
  bDiff : Binds K d.dDiff ["text", "allowed"] []
  mIsSign : Meth K a.cAlphabet "is_sign" a.aIsSign
  FIsSign : Fun K "is_sign" "Alphabet.is_sign" sIsSign a.aIsSign d.dIsSign
  bIsSign : Binds K d.dIsSign ["self", "text"] []
  mMInit : Meth K a.cMachine "__init__" a.aMInit
  FMInit : Fun K "__init__" "Machine.__init__" sMInit a.aMInit d.dMInit
  bMInit : Binds K d.dMInit ["self", "alphabet", "arcs", "goods"] []
  mMLen : Meth K a.cMachine "__len__" a.aMLen
  FMLen : Fun K "__len__" "Machine.__len__" sMLen a.aMLen d.dMLen
  bMLen : Binds K d.dMLen ["self"] []
  gCkLen : mg "check_lengths" = some (.ref a.aCkLen)
  FCkLen : Fun K "check_lengths" "check_lengths" sCkLen a.aCkLen d.dCkLen
  bCkLen : Binds K d.dCkLen ["rows", "goods"] []
  gIsLabel : mg "is_label" = some (.ref a.aIsLabel)
  FIsLabel : Fun K "is_label" "is_label" sIsLabel a.aIsLabel d.dIsLabel
  bIsLabel : Binds K d.dIsLabel ["alphabet", "sign"] []
  gIsArc : mg "is_arc" = some (.ref a.aIsArc)
  FIsArc : Fun K "is_arc" "is_arc" sIsArc a.aIsArc d.dIsArc
  bIsArc : Binds K d.dIsArc ["alphabet", "arc", "many"] []
  gWell : mg "_law_well" = some (.ref a.aWell)
  FWell : Fun K "_law_well" "_law_well" sWell a.aWell d.dWell
  bWell : Binds K d.dWell ["_law_script"] []
  gTake : mg "_law_take" = some (.ref a.aTake)
  FTake : Fun K "_law_take" "_law_take" sTake a.aTake d.dTake
  bTake : Binds K d.dTake ["_law_well_here", "_law_size"] []
  gLetters : mg "_law_letters" = some (.ref a.aLetters)
  FLetters : Fun K "_law_letters" "_law_letters" sLetters a.aLetters d.dLetters
  bLetters : Binds K d.dLetters ["_law_well_here", "_law_most"] []
  gStrange : mg "_law_strange" = some (.ref a.aStrange)
  FStrange : Fun K "_law_strange" "_law_strange" sStrange a.aStrange d.dStrange
  bStrange : Binds K d.dStrange ["_law_well_here", "_law_signs"] []
  gCopy : mg "_law_copy" = some (.ref a.aCopy)
  FCopy : Fun K "_law_copy" "_law_copy" sCopy a.aCopy d.dCopy
  bCopy : Binds K d.dCopy ["_law_rows"] []
  gTable : mg "_law_table" = some (.ref a.aTable)
  FTable : Fun K "_law_table" "_law_table" sTable a.aTable d.dTable
  bTable : Binds K d.dTable ["_law_well_here", "_law_signs"] []
  gWrong : mg "_law_wrong" = some (.ref a.aWrong)
  FWrong : Fun K "_law_wrong" "_law_wrong" sWrong a.aWrong d.dWrong
  bWrong : Binds K d.dWrong ["_law_well_here", "_law_signs", "_law_places"] []
  gPut : mg "_law_put" = some (.ref a.aPut)
  FPut : Fun K "_law_put" "_law_put" sPut a.aPut d.dPut
  bPut : Binds K d.dPut ["_law_well_here", "_law_arcs", "_law_place", "_law_arc"] []
  gKept : mg "_law_kept" = some (.ref a.aKept)
  FKept : Fun K "_law_kept" "_law_kept" sKept a.aKept d.dKept
  bKept : Binds K d.dKept ["_law_machine", "_law_arcs", "_law_goods", "_law_letters_here", "_law_vowels"] []
  gRefused : mg "_law_refused" = some (.ref a.aRefused)
  FRefused : Fun K "_law_refused" "_law_refused" sRefused a.aRefused d.dRefused
  bRefused : Binds K d.dRefused ["_law_alphabet", "_law_arcs", "_law_goods"] []
  gLaw : mg "law" = some (.ref a.aLaw)
  FLaw : Fun K "law" "law" sLaw a.aLaw d.dLaw
  bLaw : Binds K d.dLaw ["_law_script"] []
  gcTaleError : mg "TaleError" = some (.ref a.cTale)
  gcMixed : mg "Mixed" = some (.ref a.cMixed)
  gcBadText : mg "BadText" = some (.ref a.cBadText)
  gcBadTable : mg "BadTable" = some (.ref a.cBadTable)
  xBadTable : EF K mg "BadTable" a.cBadTable a.eBadTable d.eBadTable ["self", "place"]
  clA : Cls K a.cAlphabet
  clM : Cls K a.cMachine
  nL : NoAttr K a.cAlphabet "letters"
  nV : NoAttr K a.cAlphabet "vowels"
  nC : NoAttr K a.cAlphabet "consonants"
  nS : NoAttr K a.cAlphabet "signs"
  nMa : NoAttr K a.cMachine "alphabet"
  nMr : NoAttr K a.cMachine "arcs"
  nMg : NoAttr K a.cMachine "goods"

section
variable {P : Program} {w : World} {K : PySem.W.Frag} {mg : Str → Option Value} {base : Heap} {a : Ad} {d : Fd}
local macro_rules | `(tactic| walk_at "go1") => `(tactic| (with_reducible refine iAugS ?_))
theorem g0 {K : PySem.W.Frag} {H : Hp} {Q : VK} {p : Addr} {x y z w : V} (h1 : H p = some (.lst [x, y, z, w])) (q : Q w H) : gIxN K (.ref p) (.int 3) H Q := iGIx (k := 3) h1 rfl q
theorem g1 {K : PySem.W.Frag} {H : Hp} {Q : VK} {p : Addr} {x y z w : V} (h1 : H p = some (.lst [x, y, z, w])) (q : Q y H) : gIxN K (.ref p) (.int 1) H Q := iGIx (k := 1) h1 rfl q
local macro_rules | `(tactic| walk_at "go1") => `(tactic| ((with_reducible apply g0); (walk_at "lk")))
local macro_rules | `(tactic| walk_at "go1") => `(tactic| ((with_reducible apply g1); (walk_at "lk")))
theorem iIpI {f : Int → Int → Int} {i j : Int} {H : Hp} {Q : VK} (q : Q (.int (f i j)) H) : ipI f (.int i) (.int j) H Q := ⟨i, j, rfl, rfl, q⟩
local macro_rules | `(tactic| walk_at "go1") => `(tactic| (with_reducible apply iIpI))
local macro_rules | `(tactic| walk_at "go1") => `(tactic| ((with_reducible apply iDivH); (assumption); (assumption)))
/-- the well of draws -/
def WellB (H : Hp) (b l : Addr) (m : Nat) : Prop := ∃ (ns : List Int) (x y z : Int), H b = some (.lst [.ref l, .int x, .int y, .int z]) ∧ H l = some (.lst (ns.map V.int)) ∧ b ≠ l ∧ ns.length ≤ 63 ∧ 0 ≤ z ∧ z + m ≤ 1000000
theorem WellB.fr {H H' : Hp} {b l : Addr} {m : Nat} {L : List Addr} (h : WellB H b l m) (f : Fr L H H') (h1 : b ∉ L) (h2 : l ∉ L) : WellB H' b l m := by
  obtain ⟨ns, x, y, z, e1, e2, e3, e4⟩ := h
  exact ⟨ns, x, y, z, f _ _ h1 e1, f _ _ h2 e2, e3, e4⟩
theorem WellB.same {H H' : Hp} {b l : Addr} {m : Nat} (h : WellB H b l m) (f : Same H H') : WellB H' b l m := h.fr (L := []) (Fr.of_same f) (by simp) (by simp)
theorem WellB.ne {H : Hp} {b l p : Addr} {m : Nat} (h : WellB H b l m) (hp : H p = none) : p ≠ b ∧ p ≠ l := by
  obtain ⟨ns, x, y, z, e1, e2, e3, e4⟩ := h
  exact ⟨(ne_of_none e1 hp).symm, (ne_of_none e2 hp).symm⟩
theorem WellB.less {H : Hp} {b l : Addr} {m n : Nat} (h : WellB H b l m) (e : n ≤ m) : WellB H b l n := by
  obtain ⟨ns, x, y, z, e1, e2, e3, e4, e5, e6⟩ := h
  exact ⟨ns, x, y, z, e1, e2, e3, e4, e5, by omega⟩
theorem WellB.upd {H : Hp} {b l p : Addr} {o : HO} {m : Nat} (h : WellB H b l m) (h1 : p ≠ b) (h2 : p ≠ l) : WellB (L2.upd H p o) b l m := h.fr (L := [p]) Fr.in0 (by simpa using h1.symm) (by simpa using h2.symm)
theorem dpi {K : PySem.W.Frag} {H : Hp} : ∀ l : List Int, DpAll K H (l.map V.int) (l.map PyData.int)
  | [] => .nil
  | a :: l => .cons (.int _) (dpi l)
theorem cani : ∀ l : List Int, PyData.canLayAll0 (l.map PyData.int) = true
  | [] => by simp [PyData.canLayAll0]
  | a :: l => by simp [PyData.canLayAll0, PyData.canLay0, cani l]
theorem depi : ∀ l : List Int, PyData.depthAll (l.map PyData.int) = 0
  | [] => by simp [PyData.depthAll]
  | a :: l => by simp [PyData.depthAll, PyData.depth, depi l]
theorem iEqNilI {K : PySem.W.Frag} {H : Hp} {Q : VK} {p q : Addr} {ns : List Int} (h1 : H p = some (.lst (ns.map V.int))) (hq : H q = some (.lst [])) (k : Q (.bl (decide (ns = []))) H) : rEqD K (.ref p) (.ref q) H Q := by
  refine ⟨.list (ns.map PyData.int), .list [], .lst (SqL.of h1) (dpi _), .lst (SqL.of hq) .nil, ?_, ?_, ?_⟩
  · simp [SeqAt.shaped, PyData.canLay0, PyData.depth, cani, depi]
  · simp [SeqAt.shaped, PyData.canLay0, PyData.canLayAll0, PyData.depth, PyData.depthAll]
  · have e : PyData.eqv (.list (ns.map PyData.int)) (.list []) = decide (ns = []) := by
      cases ns <;> simp [PyData.eqv, PyData.eqvAll]
    rw [e]
    exact k
def spTake : Sp := fun vs H Q _ => ∃ (b l : Addr) (n m : Nat), vs = [.ref b, .int (n : Int)] ∧ WellB H b l (m + 1) ∧ 0 < n ∧ n < 2 ^ 200 ∧ ∀ (r : Nat) (H' : Hp), r < n → WellB H' b l m → Fr [b] H H' → Q (.int (r : Int)) H'
theorem scTake : FnScope ["_law_well_here", "_law_size", "_law_digit", "_law_cell", "_law_once", "_law_twice"] ["_law_well_here", "_law_size"] (defScope sTake) := ⟨rfl, rfl, rfl, by decide +kernel, rfl, by decide +kernel, by decide +kernel⟩
theorem ok_take (T : Fns K mg a d) : FnOk P w K mg base CX0 1 a.aTake d.dTake ["_law_well_here", "_law_size"] spTake := by
  refine T.FTake.ok scTake (fun vs H Q E h => ?_) (fun cdv A outer s H vs Q E hr h => ?_)
  · obtain ⟨b, l, n, m, rfl, _⟩ := h
    rfl
  · obtain ⟨b, l, n, m, rfl, ⟨ns, x, y, z, hb, hl, nbl, hnl, hz0, hz1⟩, hn, hn2, k⟩ := h
    have fin : ∀ (z : Int) (H' : Hp), WellB H' b l m → Fr [b] H H' → Q (.int (z % (n : Int))) H' := fun z H' h1 h2 => by
      have e0 := Int.emod_nonneg z (b := (n : Int)) (by omega)
      have e1 := Int.emod_lt_of_pos z (b := (n : Int)) (by omega)
      obtain ⟨r, hr⟩ : ∃ r : Nat, z % (n : Int) = (r : Int) := ⟨(z % (n : Int)).toNat, by omega⟩
      rw [hr]
      exact k r H' (by omega) h1 h2
    refine ⟨_, ((pss_cons (ps_augS (pv 0) pe_int get_list pe_int ip_add set_list)
      (pss_cons (ps_if (pt_cmpR (op_eqD hr.units) (pe_ix (r := rIxL K) ix_list (pv 0) pe_int (fun _ _ => rfl)) (pe_lst pa_nil) (nomark _)) (pss_one (ps_ret pe_int)) pss_nil)
      (pss_cons (ps_if (pt_cmpR op_gt (pe_ix (r := rIxL K) ix_list (pv 0) pe_int (fun _ _ => rfl)) pe_int (nomark _)) (pss_cons (ps_set (i := 2) scTake.nd rfl (Or.inl rfl) (pe_op op_mod (pe_callTy call_int1 (by rfl) T.z_int (by decide +kernel) (pa_cons (pe_ix (r := rIxL K) ix_list (pv 0) pe_int (fun _ _ => rfl)) pa_nil)) (pv 1)))
      (pss_cons (ps_asg (pe_op op_fdivH (pe_ix (r := rIxL K) ix_list (pv 0) pe_int (fun _ _ => rfl)) (pv 1)) (pg_sub (pv 0) pe_int set_list))
      (pss_one (ps_ret (pv 2))))) pss_nil)
      (pss_cons (ps_set (i := 3) scTake.nd rfl (Or.inl rfl) (pe_ix (r := rIxL K) ix_list (pe_ix (r := rIxL K) ix_list (pv 0) pe_int (fun _ _ => rfl)) (pe_op op_mod (pe_callTy call_int1 (by rfl) T.z_int (by decide +kernel) (pa_cons (pe_ix (r := rIxL K) ix_list (pv 0) pe_int (fun _ _ => rfl)) pa_nil)) (pe_callB call_len_seq (by rfl) T.z_len (by decide +kernel) (pa_cons (pe_ix (r := rIxL K) ix_list (pv 0) pe_int (fun _ _ => rfl)) pa_nil))) (fun _ _ => rfl)))
      (pss_cons (ps_augS (pv 0) pe_int get_list pe_int ip_add set_list)
      (pss_cons (ps_if (PW.pt (pw_and (pt_cmpR op_ge (pe_callB call_abs (by rfl) T.z_abs (by decide +kernel) (pa_cons (pv 3) pa_nil)) (pe_op op_pow pe_int pe_int) (nomark _)) (pw_and1 (pt_cmpR op_le (pe_ix (r := rIxL K) ix_list (pv 0) pe_int (fun _ _ => rfl)) (pe_callB call_len_seq (by rfl) T.z_len (by decide +kernel) (pa_cons (pe_ix (r := rIxL K) ix_list (pv 0) pe_int (fun _ _ => rfl)) pa_nil)) (nomark _))))) (pss_cons (ps_asg (pe_op op_fdivH (pe_callB call_abs (by rfl) T.z_abs (by decide +kernel) (pa_cons (pv 3) pa_nil)) (pv 1)) (pg_sub (pv 0) pe_int set_list))
      (pss_one (ps_ret (pe_op op_mod (pe_callTy call_int1 (by rfl) T.z_int (by decide +kernel) (pa_cons (pe_callB call_abs (by rfl) T.z_abs (by decide +kernel) (pa_cons (pv 3) pa_nil)) pa_nil)) (pv 1))))) pss_nil)
      (pss_cons (ps_set (i := 4) scTake.nd rfl (Or.inl rfl) (pe_op op_mod (pe_callTy call_int1 (by rfl) T.z_int (by decide +kernel) (pa_cons (pe_op op_add (pe_op op_add (pe_op op_mul (pv 3) pe_int) (pe_op op_mul (pe_ix (r := rIxL K) ix_list (pv 0) pe_int (fun _ _ => rfl)) pe_int)) pe_int) pa_nil)) pe_int))
      (pss_cons (ps_set (i := 5) scTake.nd rfl (Or.inl rfl) (pe_op op_mod (pe_callTy call_int1 (by rfl) T.z_int (by decide +kernel) (pa_cons (pe_op op_add (pe_op op_add (pe_op op_mul (pv 4) pe_int) (pe_op op_fdiv (pv 4) pe_int)) (pe_op op_mul (pe_op op_mul (pe_ix (r := rIxL K) ix_list (pv 0) pe_int (fun _ _ => rfl)) (pe_ix (r := rIxL K) ix_list (pv 0) pe_int (fun _ _ => rfl))) pe_int)) pa_nil)) pe_int))
      (pss_one (ps_ret (pe_op op_mod (pe_callTy call_int1 (by rfl) T.z_int (by decide +kernel) (pa_cons (pe_op op_fdiv (pv 5) pe_int) pa_nil)) (pv 1))))))))))))), ?_⟩
    walk_at "go"
    rename_i p hp
    have hb1 : (L2.upd H b (.lst [.ref l, .int x, .int y, .int (z + 1)])) b = some (.lst [.ref l, .int x, .int y, .int (z + 1)]) := upd_same
    have hl1 : (L2.upd H b (.lst [.ref l, .int x, .int y, .int (z + 1)])) l = some (.lst (ns.map V.int)) := upd_oth nbl.symm hl
    have f1 : Fr [b] H (L2.upd H b (.lst [.ref l, .int x, .int y, .int (z + 1)])) := Fr.in0
    generalize (L2.upd H b (.lst [.ref l, .int x, .int y, .int (z + 1)])) = H1 at hp hb1 hl1 f1 ⊢
    have s2 : Same H1 (L2.upd H1 p (.lst [])) := TL.new hp
    have hp2 : (L2.upd H1 p (.lst [])) p = some (.lst []) := upd_same
    have hb2 := s2 _ _ hb1
    have hl2 := s2 _ _ hl1
    have f2 := f1.trans (Fr.of_same s2)
    generalize (L2.upd H1 p (.lst [])) = H2 at s2 hp2 hb2 hl2 f2 ⊢
    have hB2 : ∀ x y, WellB (L2.upd H2 b (.lst [.ref l, .int x, .int y, .int (z + 1)])) b l m := fun x y => ⟨ns, x, y, z + 1, upd_same, upd_oth nbl.symm hl2, nbl, hnl, by omega, by omega⟩
    have hB3 : ∀ x y x' y', WellB (L2.upd (L2.upd H2 b (.lst [.ref l, .int x', .int y', .int (z + 1)])) b (.lst [.ref l, .int x, .int y, .int (z + 1)])) b l m := fun x y x' y' => ⟨ns, x, y, z + 1, upd_same, upd_oth nbl.symm (upd_oth nbl.symm hl2), nbl, hnl, by omega, by omega⟩
    refine iEqNilI hl2 hp2 ?_
    by_cases e : ns = []
    · rw [decide_eq_true e]
      walk_at "go"
      have := fin 0 H2 ⟨ns, x, y, z + 1, hb2, hl2, nbl, hnl, by omega, by omega⟩ f2
      rw [Int.zero_emod] at this
      exact this
    · rw [decide_eq_false e]
      have hpos : 0 < ns.length := List.length_pos_iff.mpr e
      walk_at "go"
      · exact fin _ _ (hB2 _ _) (f2.trans Fr.in0)
      · rw [List.length_map]
        have hm := Int.emod_nonneg x (b := (ns.length : Int)) (by omega)
        have hm2 := Int.emod_lt_of_pos x (b := (ns.length : Int)) (by omega)
        obtain ⟨j, hj⟩ : ∃ j : Nat, x % (ns.length : Int) = (j : Int) := ⟨(x % (ns.length : Int)).toNat, by omega⟩
        rw [hj]
        have hjl : j < ns.length := by omega
        refine iIxL (SqL.of hl2) (v := .int ns[j]) (atI_nat (by rw [List.getElem?_map, List.getElem?_eq_getElem hjl]; rfl)) ?_
        generalize ns[j] = cell
        walk_at "go"
        · exact fin _ _ (hB3 _ _ _ _) ((f2.trans Fr.in0).trans Fr.in0)
        · exact fin _ _ (hB2 _ _) (f2.trans Fr.in0)
        · exact fin _ _ (hB2 _ _) (f2.trans Fr.in0)
end
end
section
set_option Elab.async false
set_option linter.all false
set_option maxRecDepth 100000
set_option maxHeartbeats 4000000
open PySem PySem.Spec PyProof.Rows L2 NSet

local macro_rules | `(tactic| walk_at "side") => `(tactic| exact .inl (by assumption))
local macro_rules | `(tactic| walk_at "go1") => `(tactic| (with_reducible refine iGTup (by assumption) rfl ?_))
local macro_rules | `(tactic| walk_at "go1") => `(tactic| (with_reducible refine iGCons ?_))
local macro_rules | `(tactic| walk_at "go1") => `(tactic| (with_reducible refine iGNil ?_))
local macro_rules | `(tactic| walk_at "go1") => `(tactic| (with_reducible refine iMakeV ?_))
local macro_rules | `(tactic| walk_at "go1") => `(tactic| (with_reducible refine iMakeD ?_))
local macro_rules | `(tactic| walk_at "go1") => `(tactic| (with_reducible refine iLc2S ?_))
local macro_rules | `(tactic| walk_at "go1") => `(tactic| (with_reducible refine iLc2L ?_))
local macro_rules | `(tactic| walk_at "go1") => `(tactic| (with_reducible refine iIStr ?_))
local macro_rules | `(tactic| walk_at "go1") => `(tactic| (with_reducible refine iIxI ?_))
local macro_rules | `(tactic| walk_at "go1") => `(tactic| (with_reducible refine iCMeth ?_))
def kStrL2_0 : List Nat := [97, 98, 99, 100, 101, 102, 103, 104, 105, 106, 107, 108, 109, 110, 111, 112, 113, 114, 115, 116, 117, 118, 119, 120, 121, 122]
theorem kStrL2_0_eq : PySem.Str.ofString "abcdefghijklmnopqrstuvwxyz" = S kStrL2_0 := by decide +kernel
def kStrL2_1 : List Nat := [97, 98, 99, 100, 101, 102, 103, 104, 105, 106, 107, 108, 109, 110, 111, 112, 113, 114, 115, 116, 117, 118, 119, 120, 121, 122, 65, 66, 90, 48, 49, 57, 32, 95, 46, 43, 63]
theorem kStrL2_1_eq : PySem.Str.ofString "abcdefghijklmnopqrstuvwxyzABZ019 _.+?" = S kStrL2_1 := by decide +kernel
section
variable {P : Program} {w : World} {K : PySem.W.Frag} {mg : Str → Option Value} {base : Heap} {a : Ad} {d : Fd}
/-! k08: the law's draws: letters, a strange sign, a copy -/
theorem ix0 {n : Nat} : ixN (n + 1) 0 = some 0 := by
  unfold ixN
  rw [if_pos (Int.le_refl 0), if_pos (by omega)]
  rfl
theorem iPopAt {l : Addr} {xs : List V} {r : Nat} {y : V} {H : Hp} {Q : VK} (hH : H l = some (.lst xs)) (hy : xs[r]? = some y) (hz : xs.length ≤ 1000) (h : Q y (L2.upd H l (.lst (xs.eraseIdx r)))) : rPopAt (.ref l) [.int (r : Int)] H Q := by
  have hr : r < xs.length := (List.getElem?_eq_some_iff.mp hy).1
  refine ⟨l, xs, r, r, y, rfl, rfl, hH, by omega, by omega, ?_, hy, h⟩
  unfold seqIndex?
  simp
  omega
def chV (l : List Nat) : List V := l.map fun c => V.str (S [c])
theorem chV_len (l : List Nat) : (chV l).length = l.length := List.length_map ..
theorem chV_erase (l : List Nat) (r : Nat) : (chV l).eraseIdx r = chV (l.eraseIdx r) := by
  unfold chV
  rw [List.eraseIdx_eq_take_drop_succ, List.eraseIdx_eq_take_drop_succ, List.map_append, List.map_take, List.map_drop]
theorem erase_perm {l : List Nat} {r : Nat} (h : r < l.length) : (l[r] :: l.eraseIdx r).Perm l := by
  rw [List.eraseIdx_eq_take_drop_succ]
  have e : l = l.take r ++ l[r] :: l.drop (r + 1) := by
    rw [← List.drop_eq_getElem_cons h, List.take_append_drop]
  have p : (l[r] :: (l.take r ++ l.drop (r + 1))).Perm (l.take r ++ l[r] :: l.drop (r + 1)) := List.perm_middle.symm
  rw [← e] at p
  exact p
theorem cut63 (xs : List Int) : ∃ ys : List Int, cutV (xs.map V.int) none (some 63) = ys.map V.int ∧ ys.length ≤ 63 := by
  have h := TL.cut_to (xs.map V.int) 63
  exact ⟨xs.take 63, by rw [List.map_take]; exact h, by rw [List.length_take]; omega⟩
theorem iJoinC {K : PySem.W.Frag} {p : Addr} {l : List Nat} {H : Hp} {R : Str → List Str → Prop} (hp : H p = some (.lst (chV l))) (hl : l.length ≤ 4000) (h : R (S []) (l.map fun c => S [c])) :
    ∃ (a : Str) (q : Addr) (ys : List Str), V.str (S []) = .str a ∧ [V.ref p] = [.ref q] ∧ (SqL K H q (ys.map V.str) ∨ SqT K H q (ys.map V.str)) ∧ (ys.map (·.length)).sum + ys.length * a.length ≤ 16777216 ∧ R a ys := by
  refine ⟨S [], p, l.map fun c => S [c], rfl, rfl, .inl (SqL.of ?_), (join_S hl).1, h⟩
  rw [List.map_map]
  exact hp
local macro_rules | `(tactic| walk_at "go1") => `(tactic| ((with_reducible apply iJoinC); (walk_at "lk"); (walk_at "num"); (rw [join_signs])))
structure AlOk (l v : List Nat) : Prop where
  dl : Differ l azL
  h1 : 1 ≤ l.length
  h4 : l.length ≤ 4
  vn : v.Nodup
  vl : ∀ c ∈ v, c ∈ l
def Asc (l : List Nat) : Prop := l.Pairwise (· < ·)
theorem uniq {α : Type} {r : α → α → Prop} (irr : ∀ a, ¬ r a a) (asy : ∀ a b, r a b → ¬ r b a) : ∀ {l m : List α}, l.Pairwise r → m.Pairwise r → (∀ x, x ∈ l ↔ x ∈ m) → l = m
  | [], [], _, _, _ => rfl
  | [], b :: m, _, _, h => nomatch (h b).mpr List.mem_cons_self
  | a :: l, [], _, _, h => nomatch (h a).mp List.mem_cons_self
  | a :: l, b :: m, h1, h2, h => by
    obtain ⟨p1, q1⟩ := List.pairwise_cons.mp h1
    obtain ⟨p2, q2⟩ := List.pairwise_cons.mp h2
    have e : a = b := by
      rcases List.mem_cons.mp ((h a).mp List.mem_cons_self) with z | z
      · exact z
      rcases List.mem_cons.mp ((h b).mpr List.mem_cons_self) with z2 | z2
      · exact z2.symm
      exact absurd (p1 b z2) (asy _ _ (p2 a z))
    subst e
    rw [uniq irr asy q1 q2 fun x => ⟨fun hx => by
      rcases List.mem_cons.mp ((h x).mp (List.mem_cons_of_mem _ hx)) with z | z
      · exact absurd (z ▸ p1 x hx) (irr _)
      · exact z, fun hx => by
      rcases List.mem_cons.mp ((h x).mpr (List.mem_cons_of_mem _ hx)) with z | z
      · exact absurd (z ▸ p2 x hx) (irr _)
      · exact z⟩]
theorem uniqA {l m : List Nat} (h1 : Asc l) (h2 : Asc m) (h : ∀ x, x ∈ l ↔ x ∈ m) : l = m := uniq (r := (· < ·)) (fun a => by omega) (fun a b => by omega) h1 h2 h
theorem Asc.nd {l : List Nat} (h : Asc l) : l.Nodup := h.imp fun q => by omega
structure SgOk (sg : List Nat) : Prop where
  a : Asc sg
  l : sg.length ≤ 5
  p : 0 < sg.length
  c : ∀ c ∈ sg, c < 128
def AlG (C : Addr) (H : Hp) (al : Addr) (sg W : List Nat) : Prop := ∃ l v, IsAl C H al l v ∧ 45 :: srtL l = sg ∧ srtL v = W
theorem AlG.same {C al : Addr} {H H' : Hp} {sg W : List Nat} (h : AlG C H al sg W) (s : Same H H') : AlG C H' al sg W := by
  obtain ⟨l, v, h1, z⟩ := h
  exact ⟨l, v, h1.same s, z⟩
theorem AlG.ins {C al : Addr} {H : Hp} {sg W : List Nat} (h : AlG C H al sg W) : ∃ dx l v, H al = some (.ins C dx [("letters", .str (S (srtL l))), ("vowels", .str (S (srtL v))), ("consonants", .str (S (consL l v))), ("signs", .str (S sg))]) := by
  obtain ⟨l, v, ⟨dx, h1⟩, e, z⟩ := h
  subst e
  exact ⟨dx, l, v, h1⟩
theorem iGTup {K : PySem.W.Frag} {n : Nat} {t : TGs} {x : Addr} {xs : List V} {σ : L2.St} {H : Hp} {Q : L2.St → Hp → Prop} (h : H x = some (.tup xs)) (hn : xs.length = n) (k : t xs σ H Q) : gTup K n t (.ref x) σ H Q := ⟨x, xs, rfl, SqT.of h, hn, k⟩
theorem iGCons {t : TG} {u : TGs} {v : V} {r : List V} {σ : L2.St} {H : Hp} {Q : L2.St → Hp → Prop} (k : t v σ H fun σ' H' => u r σ' H' Q) : gCons t u (v :: r) σ H Q := ⟨v, r, rfl, k⟩
theorem iGNil {σ : L2.St} {H : Hp} {Q : L2.St → Hp → Prop} (k : Q σ H) : gNil [] σ H Q := ⟨rfl, k⟩
theorem AlOk.due {l v : List Nat} (h : AlOk l v) : dueT l v = "" := by
  unfold dueT
  rw [if_neg (by
    rintro (q | q | q)
    · have := h.h1; omega
    · have := h.h4; omega
    · exact q h.dl), if_neg (fun q => q ⟨h.vn, h.vl⟩)]
theorem az_ge : ∀ c ∈ azL, 97 ≤ c ∧ c ≤ 122 := by decide +kernel
theorem AlOk.ge {l v : List Nat} (h : AlOk l v) : ∀ c ∈ l, 97 ≤ c ∧ c ≤ 122 := fun c hc => az_ge c (h.dl.2 c hc)
theorem asc_srt {l : List Nat} (h : l.Nodup) : Asc (srtL l) := ((srtL_le l).and (srtL_nodup.mpr h)).imp fun q => by omega
theorem AlOk.sg {l v : List Nat} (h : AlOk l v) : SgOk (45 :: srtL l) := by
  refine ⟨List.pairwise_cons.mpr ⟨fun c hc => ?_, asc_srt h.dl.1⟩, ?_, by simp, fun c hc => ?_⟩
  · have := h.ge c (srtL_mem.mp hc); omega
  · have := h.h4
    rw [List.length_cons, srtL_len]; omega
  · rcases List.mem_cons.mp hc with e | e
    · omega
    · have := h.ge c (srtL_mem.mp e); omega
theorem AlOk.vlen {l v : List Nat} (h : AlOk l v) : v.length ≤ 4 := by
  have := len_of_sub h.vn h.vl
  have := h.h4
  omega
theorem iMkA {C B : Addr} {al dx : Addr} {H0 : Hp} {l v : List Nat} {R : Hp → Prop} {E : XK} (ht : H0 al = none) (hd : H0 dx = none) (hn : dx ≠ al) (hk : AlOk l v) (k : ∀ H', Same H0 H' → AlG C H' al (45 :: srtL l) (srtL v) → R H') :
    spAl C B [.ref al, .str (S l), .str (S v)] (upd (upd H0 dx (.own al)) al (.ins C dx [])) (fun w H2 => w = .non ∧ R H2) E := by
  have s1 : Same H0 (upd (upd H0 dx (.own al)) al (.ins C dx [])) := fun c o hc => by
    rw [upd_ne (fun z => by rw [z, ht] at hc; cases hc), upd_ne (fun z => by rw [z, hd] at hc; cases hc)]
    exact hc
  have := hk.h4
  have := hk.vlen
  refine ⟨al, dx, l, v, rfl, upd_same, by omega, by omega, fun _ H' h1 h2 => ⟨rfl, k H' (fun c o hc => h2 c o (fun z => by rw [z, ht] at hc; cases hc) (s1 c o hc)) ⟨l, v, h1, rfl, rfl⟩⟩, fun h => absurd hk.due h⟩
def Kl (H H' : Hp) : Prop := ∀ c o, H c = some o → (∀ xs, o ≠ .lst xs) → H' c = some o
theorem Kl.of {H H' : Hp} (s : Same H H') : Kl H H' := fun c o h _ => s c o h
theorem Kl.tr {H H' H2 : Hp} (s : Kl H H') (t : Kl H' H2) : Kl H H2 := fun c o h n => t c o (s c o h n) n
theorem Kl.upd {H : Hp} {p : Addr} {xs : List V} {o : HO} (h : H p = some (.lst xs)) : Kl H (L2.upd H p o) := fun c o' hc n => by
  rw [upd_ne (fun z => by rw [z, h] at hc; exact n _ (Option.some.inj hc).symm)]
  exact hc
theorem AlG.kl {C : Addr} {H H' : Hp} {al : Addr} {sg W : List Nat} (h : AlG C H al sg W) (f : Kl H H') : AlG C H' al sg W := by
  obtain ⟨l, v, ⟨dy, h2⟩, z⟩ := h
  exact ⟨l, v, ⟨dy, f _ _ h2 fun xs z => by cases z⟩, z⟩
def spWell (K : PySem.W.Frag) : Sp := fun vs H Q _ => ∃ (s : Addr) (xs : List Int), vs = [.ref s] ∧ SqL K H s (xs.map V.int) ∧ xs.length ≤ 3000 ∧ ∀ (b l : Addr) (H' : Hp), H b = none → H l = none → WellB H' b l 900000 → Same H H' → Q (.ref b) H'
theorem scWell : FnScope ["_law_script", "_law_cell"] ["_law_script"] (defScope sWell) := ⟨rfl, rfl, rfl, by decide +kernel, rfl, by decide +kernel, by decide +kernel⟩
theorem ok_well (T : Fns K mg a d) : FnOk P w K mg base CX0 1 a.aWell d.dWell ["_law_script"] (spWell K) := by
  refine T.FWell.ok scWell (fun vs H Q E h => ?_) (fun cdv A outer s H vs Q E hr h => ?_)
  · obtain ⟨s, xs, rfl, _⟩ := h
    rfl
  · obtain ⟨s, xs, rfl, hx, hl, k⟩ := h
    refine ⟨_, ((pss_one (ps_ret (pe_lst (pa_cons (pe_lc (own := [("_law_cell", 1)]) (g := gName 1) (by rfl) scWell.nd (pi_list (pe_slice sl_list (pv 0) po_none (po_some pe_int))) (blkOk_by (own := [("_law_cell", 1)]) (N := ["_law_script", "_law_cell"]) (sc := defScope sWell) (by decide +kernel)) (fun _ _ _ _ _ => pg_name (i := 1) scWell.nd rfl (Or.inl rfl)) (fun _ _ _ _ _ => pts_nil) (fun _ _ _ _ _ => (pe_callTy call_int1 (by rfl) T.z_int (by decide +kernel) (pa_cons (pv 1) pa_nil)))) (pa_cons pe_int (pa_cons pe_int (pa_cons pe_int pa_nil)))))))), ?_⟩
    walk_at "go"
    rename_i ps hps D hD
    obtain ⟨ys, hc, hy⟩ := cut63 xs
    rw [hc] at hD ⊢
    have s1 : Same H (L2.upd H ps (.lst (ys.map V.int))) := Same.upd_new hps
    have h1 : (L2.upd H ps (.lst (ys.map V.int))) ps = some (.lst (ys.map V.int)) := upd_same
    generalize L2.upd H ps (.lst (ys.map V.int)) = H1 at s1 h1 hD ⊢
    refine lcg_L (fun i H' => Stop (∃ gl : List Int, H' D = some (.lst (gl.map V.int)) ∧ gl.length = i ∧ Same H1 H')) ⟨[], upd_same, rfl, Same.upd_new hD⟩ (fun _ => rfl) (fun i H' _ h => SqL.of (by obtain ⟨_, _, _, s⟩ := h; exact s _ _ h1)) (fun i x H5 hi hP => ?_) (fun H5 hP => ?_)
    · obtain ⟨gl, hgl, hll, s5⟩ := hP
      rw [List.getElem?_map] at hi
      obtain ⟨z, hz, rfl⟩ := Option.map_eq_some_iff.mp hi
      have hil := (List.getElem?_eq_some_iff.mp hz).1
      walk_at "go"
      refine ⟨by rw [List.length_map, sizeLine_eq]; omega, gl ++ [z], by rw [upd_same, List.map_append]; rfl, by rw [List.length_append, List.length_singleton]; omega, fun b o hb => ?_⟩
      rw [upd_ne (fun e => by rw [e, hD] at hb; cases hb)]
      exact s5 _ _ hb
    · obtain ⟨gl, hgl, hll, s5⟩ := hP
      rw [List.length_map] at hll
      have sd : Same H H5 := Vk.Same.trans s1 s5
      walk_at "go"
      rename_i q hq
      have qD : q ≠ D := fun e => by rw [e, hgl] at hq; cases hq
      have hDn : H D = none := by
        cases e : H D with
        | none => rfl
        | some o => rw [s1 _ _ e] at hD; cases hD
      have hqn : H q = none := by
        cases e : H q with
        | none => rfl
        | some o => rw [sd _ _ e] at hq; cases hq
      exact k q D _ hqn hDn ⟨gl, 0, 0, 0, upd_same, upd_oth qD.symm hgl, qD, by omega, by decide, by decide⟩ (Vk.Same.trans sd (Same.upd_new hq))
def spLetters : Sp := fun vs H Q _ => ∃ (b l : Addr) (n m : Nat), vs = [.ref b, .int (n : Int)] ∧ WellB H b l (m + 9) ∧ 0 < n ∧ n ≤ 4 ∧ ∀ (t : Addr) (x v : List Nat) (H' : Hp), H t = none → H' t = some (.tup [.str (S x), .str (S v)]) → AlOk x v → srtL x = x → srtL v = v → WellB H' b l m → Fr [b] H H' → Q (.ref t) H'
theorem scLetters : FnScope ["_law_well_here", "_law_most", "_law_pool", "_law_chosen", "_law_k", "_law_vowels", "_law_letter"] ["_law_well_here", "_law_most"] (defScope sLetters) := ⟨rfl, rfl, rfl, by decide +kernel, rfl, by decide +kernel, by decide +kernel⟩
theorem ok_letters (T : Fns K mg a d) : FnOk P w K mg base CX0 2 a.aLetters d.dLetters ["_law_well_here", "_law_most"] spLetters := by
  have GTake := ok_take (P := P) (w := w) (base := base) T
  refine T.FLetters.ok scLetters (fun vs H Q E h => ?_) (fun cdv A outer s H vs Q E hr h => ?_)
  · obtain ⟨b, l, n, m, rfl, _⟩ := h
    rfl
  · obtain ⟨b, l, n, m, rfl, hB, hn0, hn4, k⟩ := h
    refine ⟨_, ((pss_cons (ps_set (i := 2) scLetters.nd rfl (Or.inl rfl) (pe_callTy (call_listT rfl) (by rfl) T.z_list (by decide +kernel) (pa_cons (pe_strS (l := kStrL2_0) kStrL2_0_eq) pa_nil)))
      (pss_cons (ps_set (i := 3) scLetters.nd rfl (Or.inl rfl) (pe_lst pa_nil))
      (pss_cons (ps_for PassesOwn.never rfl (pi_range1 (by rfl) T.z_range (pa_cons (pe_op op_add pe_int (pe_call GTake (hr.mono (by decide)) (by rfl) T.gTake T.FTake.kp T.bTake .nil pass0 (pa_cons (pv 0) (pa_cons (pv 1) pa_nil)))) pa_nil)) (pg_name (i := 4) scLetters.nd rfl (Or.inl rfl)) (pss_one (ps_expr (pe_bm PySem.F.plainAttrs_list PySem.F.slot_list_append PySem.F.type_list_append mt_append (pv 3) (pa_cons (pe_bm PySem.F.plainAttrs_list PySem.F.slot_list_pop PySem.F.type_list_pop mt_popAt (pv 2) (pa_cons (pe_call GTake (hr.mono (by decide)) (by rfl) T.gTake T.FTake.kp T.bTake .nil pass0 (pa_cons (pv 0) (pa_cons (pe_callB call_len_seq (by rfl) T.z_len (by decide +kernel) (pa_cons (pv 2) pa_nil)) pa_nil))) pa_nil)) pa_nil)))))
      (pss_cons (ps_set (i := 3) scLetters.nd rfl (Or.inl rfl) (pe_callB cr_sortedS (by rfl) T.z_sorted (by decide +kernel) (pa_cons (pv 3) pa_nil)))
      (pss_cons (ps_set (i := 5) scLetters.nd rfl (Or.inl rfl) (pe_lst pa_nil))
      (pss_cons (ps_for PassesOwn.never rfl (pi_list (pv 3)) (pg_name (i := 6) scLetters.nd rfl (Or.inl rfl)) (pss_one (ps_if (pt_cmpR op_eq (pe_call GTake (hr.mono (by decide)) (by rfl) T.gTake T.FTake.kp T.bTake .nil pass0 (pa_cons (pv 0) (pa_cons pe_int pa_nil))) pe_int (nomark _)) (pss_one (ps_expr (pe_bm PySem.F.plainAttrs_list PySem.F.slot_list_append PySem.F.type_list_append mt_append (pv 5) (pa_cons (pv 6) pa_nil)))) pss_nil)))
      (pss_one (ps_ret (pe_tup (pa_cons (pe_join (pe_strS (l := []) (by decide +kernel)) (pv 3)) (pa_cons (pe_join (pe_strS (l := []) (by decide +kernel)) (pv 5)) pa_nil)))))))))))), ?_⟩
    have eaz : kStrL2_0 = azL := by decide +kernel
    have hl0 : kStrL2_0.length ≤ 4000 := by decide +kernel
    walk_at "go"
    rename_i p hp c hc
    have hbp := (hB.ne hp).1
    have hlp := (hB.ne hp).2
    have s1 : Same H (L2.upd H p (.lst (kStrL2_0.map fun c => V.str (S [c])))) := TL.new hp
    have hp1 : (L2.upd H p (.lst (kStrL2_0.map fun c => V.str (S [c])))) p = some (.lst (chV azL)) := by rw [← eaz]; exact upd_same
    generalize (L2.upd H p (.lst (kStrL2_0.map fun c => V.str (S [c])))) = H1 at s1 hp1 hc ⊢
    have hcp : c ≠ p := fun z => by rw [z, hp1] at hc; cases hc
    have hB1 := hB.same s1
    have hbc := (hB1.ne hc).1
    have hlc := (hB1.ne hc).2
    have s2 : Same H1 (L2.upd H1 c (.lst [])) := TL.new hc
    have hc2 : (L2.upd H1 c (.lst [])) c = some (.lst (chV [])) := upd_same
    have hp2 := s2 _ _ hp1
    have hB2 := hB1.same s2
    have f2 : Fr [b, p, c] H (L2.upd H1 c (.lst [])) := Fr.of_same (TL.tr s1 s2)
    generalize (L2.upd H1 c (.lst [])) = H2 at s2 hc2 hp2 hB2 f2 ⊢
    have ipb : p ∉ [b] := by simpa using hbp
    have icb : c ∉ [b] := by simpa using hbc
    refine ⟨b, l, n, m + 8, rfl, hB2, hn0, by omega, fun r H3 hr3 hB3 f3 => ?_⟩
    have hp3 := f3 _ _ ipb hp2
    have hc3 := f3 _ _ icb hc2
    have f3' : Fr [b, p, c] H H3 := Fr.trans f2 (Fr.mono f3 (by simp))
    walk_at "go"
    rw [show ((1 : Int) + (r : Int)).toNat = 1 + r by omega]
    refine for_R (n := 1 + r) (fun i σ H' => Stop (∃ (x pool : List Nat) (v4 : Option V), σ = [some (.ref b), some (.int (n : Int)), some (.ref p), some (.ref c), v4, none, none] ∧
        H' p = some (.lst (chV pool)) ∧ H' c = some (.lst (chV x)) ∧ (x ++ pool).Perm azL ∧ x.length = i ∧ WellB H' b l (m + 8 - i) ∧ Fr [b, p, c] H H'))
      ⟨[], azL, none, rfl, hp3, hc3, List.Perm.refl _, rfl, hB3, f3'⟩ ?_ ?_
    · rintro i σ H4 hi ⟨x, pool, v4, rfl, hp4, hc4, hper, hxi, hB4, f4⟩
      have hlen := hper.length_eq
      rw [List.length_append, az_len] at hlen
      walk_at "go"
      rw [chV_len]
      refine ⟨b, l, pool.length, m + 8 - (i + 1), rfl, hB4.less (by omega), by omega, by omega, fun z H5 hz hB5 f5 => ?_⟩
      have hp5 := f5 _ _ ipb hp4
      have hc5 := f5 _ _ icb hc4
      have hz1 : pool[z]? = some pool[z] := List.getElem?_eq_getElem hz
      have hzp := erase_perm hz
      generalize pool[z] = y at hz1 hzp
      walk_at "go"
      refine iPopAt (y := .str (S [y])) hp5 (by unfold chV; rw [List.getElem?_map, hz1]; rfl) (by rw [chV_len]; omega) ?_
      rw [chV_erase]
      have hp6 : (L2.upd H5 p (.lst (chV (pool.eraseIdx z)))) p = some (.lst (chV (pool.eraseIdx z))) := upd_same
      have hc6 : (L2.upd H5 p (.lst (chV (pool.eraseIdx z)))) c = some (.lst (chV x)) := upd_oth hcp hc5
      have hB6 := hB5.upd (o := .lst (chV (pool.eraseIdx z))) hbp hlp
      have f6 : Fr [b, p, c] H (L2.upd H5 p (.lst (chV (pool.eraseIdx z)))) := Fr.trans f4 (Fr.trans (Fr.mono f5 (by simp)) (Fr.upd_in (by simp)))
      generalize L2.upd H5 p (.lst (chV (pool.eraseIdx z))) = H6 at hp6 hc6 hB6 f6 ⊢
      walk_at "go"
      refine ⟨_, _, _, rfl, rfl, hc6, by rw [chV_len, sizeLine_eq]; omega, x ++ [y], pool.eraseIdx z, _, rfl, upd_oth hcp.symm hp6, by rw [upd_same]; unfold chV; rw [List.map_append]; rfl, ?_, by rw [List.length_append, List.length_singleton, hxi], hB6.upd hbc hlc, Fr.trans f6 (Fr.upd_in (by simp))⟩
      rw [List.append_assoc, List.singleton_append]
      exact ((List.Perm.append_left x hzp)).trans hper
    · rintro σ H4 ⟨x, pool, v4, rfl, hp4, hc4, hper, hxi, hB4, f4⟩
      have hpn : H p = none := hp
      have hcn : H c = none := by
        cases e : H c with
        | none => rfl
        | some o => rw [s1 _ _ e] at hc; cases hc
      have f4b : Fr [b] H H4 := Fr.forget (L := [b]) f4 fun y hy => by
        rcases List.mem_cons.mp hy with rfl | hy
        · exact .inl (by simp)
        · rcases List.mem_cons.mp hy with rfl | hy
          · exact .inr hpn
          · rw [List.mem_singleton.mp hy]
            exact .inr hcn
      have nd := hper.nodup_iff.mpr az_nodup
      have ndx := (List.nodup_append.mp nd).1
      have hxaz : ∀ y ∈ x, y ∈ azL := fun y hy => hper.mem_iff.mp (List.mem_append_left _ hy)
      clear f4 hp4
      walk_at "go"
      refine ⟨c, x.map fun c => S [c], rfl, SqL.of (by rw [hc4]; unfold chV; rw [List.map_map]; rfl), by rw [List.length_map]; omega, fun ys q pm so hq => ?_⟩
      have e := sorted_signs pm so
      subst e
      have s5 : Same H4 (L2.upd H4 q (.lst (((srtL x).map fun c => S [c]).map V.str))) := TL.new hq
      have hq5 : (L2.upd H4 q (.lst (((srtL x).map fun c => S [c]).map V.str))) q = some (.lst (chV (srtL x))) := by
        rw [upd_same]
        unfold chV
        rw [List.map_map]
        rfl
      have hbq := (hB4.ne hq).1
      have iqb : q ∉ [b] := by simpa using hbq
      have hB5 := hB4.same s5
      have f5 := f4b.trans (Fr.of_same s5)
      generalize (L2.upd H4 q (.lst (((srtL x).map fun c => S [c]).map V.str))) = H5 at s5 hq5 hB5 f5 ⊢
      walk_at "go"
      rename_i vw hvw
      have hbv := (hB5.ne hvw).1
      have hlv := (hB5.ne hvw).2
      have hqv : q ≠ vw := ne_of_none hq5 hvw
      have s6 : Same H5 (L2.upd H5 vw (.lst [])) := TL.new hvw
      have hv6 : (L2.upd H5 vw (.lst [])) vw = some (.lst (chV [])) := upd_same
      have hq6 := s6 _ _ hq5
      have hB6 := hB5.same s6
      generalize (L2.upd H5 vw (.lst [])) = H6 at s6 hv6 hq6 hB6 ⊢
      have hsl := srtL_len (l := x)
      have hsn : (srtL x).Nodup := srtL_nodup.mpr ndx
      have hasc : Asc (srtL x) := asc_srt ndx
      refine for_L (fun j σ H' => Stop (∃ (vs : List Nat) (v6 : Option V), σ = [some (.ref b), some (.int (n : Int)), some (.ref p), some (.ref q), v4, some (.ref vw), v6] ∧ H' vw = some (.lst (chV vs)) ∧ vs.Sublist ((srtL x).take j) ∧ H' q = some (.lst (chV (srtL x))) ∧ WellB H' b l (m + 4 - j) ∧ Fr [b, vw] H6 H'))
        ⟨[], none, rfl, hv6, List.Sublist.refl _, hq6, hB6.less (by omega), Fr.of_same fun _ _ z => z⟩ (fun i σ H _ h => SqL.of (by obtain ⟨_, _, _, _, _, s, _⟩ := h; exact s)) ?_ ?_
      · rintro j xv σ H7 hxv ⟨vs, v6, rfl, hv7, hsub, hq7, hB7, f7⟩
        have hjl := (List.getElem?_eq_some_iff.mp hxv).1
        rw [chV_len] at hjl
        obtain ⟨y, hy⟩ : ∃ y, (srtL x)[j]? = some y := ⟨_, List.getElem?_eq_getElem hjl⟩
        have exv : xv = V.str (S [y]) := by
          unfold chV at hxv
          rw [List.getElem?_map, hy] at hxv
          exact (Option.some.inj hxv).symm
        subst exv
        have hslen := hsub.length_le
        rw [List.length_take] at hslen
        have htk : (srtL x).take (j + 1) = (srtL x).take j ++ [y] := by
          rw [List.take_add_one, hy]
          rfl
        walk_at "go"
        refine ⟨b, l, 2, m + 4 - (j + 1), rfl, hB7.less (by omega), by decide, by decide, fun z H8 hz hB8 f8 => ?_⟩
        have hv8 := f8 _ _ (by simpa using hbv) hv7
        have hq8 := f8 _ _ iqb hq7
        have f8' : Fr [b, vw] H6 H8 := Fr.trans f7 (Fr.mono f8 (by simp))
        walk_at "go"
        · refine ⟨_, _, _, rfl, rfl, hv8, by rw [chV_len, sizeLine_eq]; omega, vs ++ [y], _, rfl, by rw [upd_same]; unfold chV; rw [List.map_append]; rfl, by rw [htk]; exact hsub.append (List.Sublist.refl _), upd_oth hqv hq8, hB8.upd hbv hlv, Fr.trans f8' (Fr.upd_in (by simp))⟩
        · exact ⟨vs, _, rfl, hv8, hsub.trans (by rw [htk]; exact List.sublist_append_left _ _), hq8, hB8, f8'⟩
      · rintro σ H7 ⟨vs, v6, rfl, hv7, hsub, hq7, hB7, f7⟩
        rw [chV_len, hsl] at hB7
        have hsub : vs.Sublist (srtL x) := hsub.trans (List.take_sublist _ _)
        have hvl := hsub.length_le
        have hva : Asc vs := hasc.sublist hsub
        have hvn : vs.Nodup := hsn.sublist hsub
        have hxl : (srtL x).length ≤ 4000 := by omega
        have hvl4 : vs.length ≤ 4000 := by omega
        walk_at "go"
        rename_i t ht
        have hVN : H5 vw = none := hvw
        have f7b : Fr [b] H5 H7 := Fr.forget (L := [b]) ((Fr.of_same s6).trans f7) fun y hy => by
          rcases List.mem_cons.mp hy with rfl | hy
          · exact .inl (by simp)
          · rw [List.mem_singleton.mp hy]
            exact .inr hVN
        have hbt := (hB7.ne ht).1
        have htn : H t = none := Fr.none (f5.trans f7b) (by simpa using hbt) ht
        have hal : AlOk (srtL x) vs := ⟨⟨hsn, fun c hc => hxaz c (srtL_mem.mp hc)⟩, by omega, by omega, hvn, fun c hc => hsub.mem hc⟩
        refine k t (srtL x) vs _ htn upd_same hal (uniqA (asc_srt hsn) hasc fun c => srtL_mem) (uniqA (asc_srt hvn) hva fun c => srtL_mem) ?_ ((f5.trans f7b).trans (Fr.of_same (TL.new ht)))
        exact (hB7.less (by omega)).same (TL.new ht)
def spStrange : Sp := fun vs H Q _ => ∃ (b l : Addr) (sg : List Nat) (m : Nat), vs = [.ref b, .str (S sg)] ∧ WellB H b l (m + 1) ∧ sg.length ≤ 5 ∧ ∀ (y : Nat) (H' : Hp), y ∉ sg → y < 128 → WellB H' b l m → Fr [b] H H' → Q (.str (S [y])) H'
theorem scStrange : FnScope ["_law_well_here", "_law_signs", "_law_pool", "_law_char"] ["_law_well_here", "_law_signs"] (defScope sStrange) := ⟨rfl, rfl, rfl, by decide +kernel, rfl, by decide +kernel, by decide +kernel⟩
theorem ok_strange (T : Fns K mg a d) : FnOk P w K mg base CX0 2 a.aStrange d.dStrange ["_law_well_here", "_law_signs"] spStrange := by
  have GTake := ok_take (P := P) (w := w) (base := base) T
  refine T.FStrange.ok scStrange (fun vs H Q E h => ?_) (fun cdv A outer s H vs Q E hr h => ?_)
  · obtain ⟨b, l, sg, m, rfl, _⟩ := h
    rfl
  · obtain ⟨b, l, sg, m, rfl, hB, hsl, k⟩ := h
    refine ⟨_, ((pss_cons (ps_setLc (i := 2) (own := [("_law_char", 3)]) (g := gName 3) (by rfl) scStrange.nd rfl rfl (by rfl) (pi_str (pe_strS (l := kStrL2_1) kStrL2_1_eq)) (blkOk_by (own := [("_law_char", 3)]) (N := ["_law_well_here", "_law_signs", "_law_pool", "_law_char"]) (sc := defScope sStrange) (by decide +kernel)) (fun _ _ _ _ _ => pg_name (i := 3) scStrange.nd rfl (Or.inl rfl)) (fun _ _ _ _ _ => (pts_one (pt_cmpR op_notInS (pv 3) (pv 1) rfl))) (fun _ _ _ _ _ => (pv 3)))
      (pss_one (ps_ret (pe_ix (r := rIxL K) ix_list (pv 2) (pe_call GTake (hr.mono (by decide)) (by rfl) T.gTake T.FTake.kp T.bTake .nil pass0 (pa_cons (pv 0) (pa_cons (pe_callB call_len_seq (by rfl) T.z_len (by decide +kernel) (pa_cons (pv 2) pa_nil)) pa_nil))) (fun _ _ => rfl)))))), ?_⟩
    have hl0 : kStrL2_1.length = 37 := by decide +kernel
    have hnd : kStrL2_1.Nodup := by decide +kernel
    have hlow : ∀ c ∈ kStrL2_1, c < 128 := by decide +kernel
    generalize kStrL2_1 = cs at hl0 hnd hlow
    walk_at "go"
    rename_i D hD
    refine lcg_S (fun j H' => H' D = some (.lst (chV ((cs.take j).filter fun c => decide (c ∉ sg)))) ∧ Same H H') ⟨upd_same, Same.upd_new hD⟩ (fun _ => rfl) (fun j c H' hc hP2 => ?_) (fun H' hP2 => ?_)
    · obtain ⟨h8, s8⟩ := hP2
      have hjl := (List.getElem?_eq_some_iff.mp hc).1
      have hfl := List.length_filter_le (fun c => decide (c ∉ sg)) (cs.take j)
      rw [List.length_take] at hfl
      by_cases hcs : c ∈ sg
      · walk_at "go"
        refine ⟨?_, s8⟩
        rw [h8, List.take_add_one, hc, List.filter_append, show List.filter (fun c => decide (c ∉ sg)) (some c).toList = [] from by simp [hcs], List.append_nil]
      · walk_at "go"
        refine ⟨by rw [chV_len, sizeLine_eq]; omega, ?_, fun b o hb => ?_⟩
        · rw [upd_same, List.take_add_one, hc, List.filter_append, show List.filter (fun c => decide (c ∉ sg)) (some c).toList = [c] from by simp [hcs]]
          unfold chV
          rw [List.map_append]
          rfl
        · rw [upd_ne (fun z => by rw [z, hD] at hb; cases hb)]
          exact s8 _ _ hb
    · obtain ⟨h8, s8⟩ := hP2
      rw [List.take_length] at h8
      have hrl := List.length_filter_le (fun c => decide (c ∉ sg)) cs
      have hpos : 0 < (cs.filter fun c => decide (c ∉ sg)).length := by
        refine Nat.pos_of_ne_zero fun e => ?_
        have e2 : (cs.filter fun c => decide (c ∉ sg)) = [] := List.eq_nil_of_length_eq_zero e
        have := len_of_sub hnd (l := sg) fun c hc => by
          by_cases h : c ∈ sg
          · exact h
          · have : c ∈ cs.filter fun c => decide (c ∉ sg) := List.mem_filter.mpr ⟨hc, by simpa using h⟩
            rw [e2] at this
            cases this
        omega
      have hmr : ∀ c ∈ cs.filter (fun c => decide (c ∉ sg)), c ∉ sg ∧ c < 128 := fun c hc => ⟨by simpa using (List.mem_filter.mp hc).2, hlow c (List.mem_filter.mp hc).1⟩
      generalize (cs.filter fun c => decide (c ∉ sg)) = rest at h8 hpos hrl hmr
      have hB2 := hB.same s8
      walk_at "go"
      rw [chV_len]
      refine ⟨b, l, rest.length, m, rfl, hB2, hpos, by omega, fun r2 H3 hr3 hB3 f3 => ?_⟩
      have iD : D ∉ [b] := by simpa using (hB.ne hD).1
      obtain ⟨y, hy⟩ : ∃ d, rest[r2]? = some d := ⟨_, List.getElem?_eq_getElem hr3⟩
      have hdm := hmr y (List.mem_of_getElem? hy)
      have hD3 := f3 _ _ iD h8
      have hdv : (chV rest)[r2]? = some (V.str (S [y])) := by unfold chV; rw [List.getElem?_map, hy]; rfl
      walk_at "go"
      exact k y H3 hdm.1 hdm.2 hB3 ((Fr.of_same s8).trans f3)
end
end
section
set_option Elab.async false
set_option linter.all false
set_option maxRecDepth 100000
set_option maxHeartbeats 4000000
open PySem PySem.Spec PyProof.Rows L2 NSet

local macro_rules | `(tactic| walk_at "side") => `(tactic| exact .inl (by assumption))
local macro_rules | `(tactic| walk_at "go1") => `(tactic| (with_reducible refine iGTup (by assumption) rfl ?_))
local macro_rules | `(tactic| walk_at "go1") => `(tactic| (with_reducible refine iGCons ?_))
local macro_rules | `(tactic| walk_at "go1") => `(tactic| (with_reducible refine iGNil ?_))
local macro_rules | `(tactic| walk_at "go1") => `(tactic| (with_reducible refine iMakeV ?_))
local macro_rules | `(tactic| walk_at "go1") => `(tactic| (with_reducible refine iMakeD ?_))
local macro_rules | `(tactic| walk_at "go1") => `(tactic| (with_reducible refine iLc2S ?_))
local macro_rules | `(tactic| walk_at "go1") => `(tactic| (with_reducible refine iLc2L ?_))
local macro_rules | `(tactic| walk_at "go1") => `(tactic| (with_reducible refine iIStr ?_))
local macro_rules | `(tactic| walk_at "go1") => `(tactic| (with_reducible refine iIxI ?_))
local macro_rules | `(tactic| walk_at "go1") => `(tactic| (with_reducible refine iCMeth ?_))

section
variable {P : Program} {w : World} {K : PySem.W.Frag} {mg : Str → Option Value} {base : Heap} {a : Ad} {d : Fd}
def rLs (K : PySem.W.Frag) : List V → Hp → VK → Prop := fun xs H Q => ∃ p ys, xs = [V.ref p] ∧ (SqL K H p ys ∨ SqT K H p ys) ∧ ∀ l : Addr, H l = none → Q (V.ref l) (L2.upd H l (HO.lst ys))
theorem call_ls {X : Cx} : CallR X (.type "list") (rLs X.K) := call_list_of
theorem iLs {K : PySem.W.Frag} {H : Hp} {Q : VK} {p : Addr} {ys : List V} (h : H p = some (.lst ys)) (k : ∀ l, H l = none → Q (.ref l) (L2.upd H l (.lst ys))) : rLs K [.ref p] H Q := ⟨p, ys, rfl, .inl (SqL.of h), k⟩
local macro_rules | `(tactic| walk_at "go1") => `(tactic| ((with_reducible apply iLs); (walk_at "lk")))
/-! k08: arcs in the heap -/
abbrev Arc : Type := List Nat × List Nat × Int
def av (x : Arc) : List V := [.str (S x.1), .str (S x.2.1), .int x.2.2]
/-- only the lists of L change -/
def Ch (L : List Addr) (H H' : Hp) : Prop := ∀ c o, H c = some o → ((∀ xs, o ≠ .lst xs) ∨ c ∉ L) → H' c = some o
theorem Ch.of {L : List Addr} {H H' : Hp} (s : Same H H') : Ch L H H' := fun c o h _ => s c o h
theorem Ch.tr {L : List Addr} {H H' H2 : Hp} (s : Ch L H H') (t : Ch L H' H2) : Ch L H H2 := fun c o h n => t c o (s c o h n) n
theorem Ch.mono {L L' : List Addr} {H H' : Hp} (s : Ch L H H') (e : ∀ x ∈ L, x ∈ L') : Ch L' H H' := fun c o h n => s c o h (n.imp id fun z m => z (e _ m))
theorem Ch.fr {b : Addr} {xs : List V} {H H' : Hp} (f : Fr [b] H H') (hb : H b = some (.lst xs)) : Ch [b] H H' := fun c o h n => f c o (fun m => by
  have e := List.mem_singleton.mp m
  rcases n with n | n
  · rw [e, hb] at h
    exact n _ (Option.some.inj h).symm
  · exact n m) h
theorem Ch.well {b l : Addr} {m : Nat} {H H' : Hp} (f : Fr [b] H H') (h : WellB H b l m) : Ch [b] H H' := by
  obtain ⟨ns, x, y, z, e1, _⟩ := h
  exact .fr f e1
theorem Ch.upd {H : Hp} {p : Addr} {xs : List V} {o : HO} (h : H p = some (.lst xs)) : Ch [p] H (L2.upd H p o) := fun c o' hc n => by
  by_cases e : c = p
  · rcases n with n | n
    · rw [e, h] at hc
      exact absurd (Option.some.inj hc).symm (n _)
    · exact absurd (by simp [e]) n
  · rw [upd_ne e]
    exact hc
theorem Ch.new {L : List Addr} {H H1 : Hp} {p : Addr} {o : HO} (s : Ch L H H1) (hp : H p = none) : Ch L H (L2.upd H1 p o) := fun c o' hc n => by
  rw [upd_ne (fun z => by rw [z, hp] at hc; cases hc)]
  exact s c o' hc n
theorem Ch.nn {H H1 : Hp} {b p : Addr} {o : HO} (s : Ch [b] H H1) (hb : H1 b = some o) (hp : H1 p = none) : H p = none := by
  cases e : H p with
  | none => rfl
  | some u =>
    have := s p u e (.inr (by rw [List.mem_singleton]; intro z; rw [z, hb] at hp; cases hp))
    rw [this] at hp
    cases hp
theorem Ch.noneW {H H1 : Hp} {b l p : Addr} {m : Nat} (s : Ch [b] H H1) (h : WellB H1 b l m) (hp : H1 p = none) : H p = none := by
  obtain ⟨ns, x, y, z, e1, _⟩ := h
  exact s.nn e1 hp
theorem same_nn {H H1 : Hp} {p : Addr} (s : Same H H1) (hp : H1 p = none) : H p = none := by
  cases e : H p with
  | none => rfl
  | some u => rw [s p u e] at hp; cases hp
structure RowA (H : Hp) (p : Addr) (qs : List (Addr × Arc)) : Prop where
  l : H p = some (.lst (qs.map fun q => V.ref q.1))
  t : ∀ q ∈ qs, H q.1 = some (.tup (av q.2))
theorem RowA.same {H H' : Hp} {p : Addr} {qs : List (Addr × Arc)} (h : RowA H p qs) (s : Same H H') : RowA H' p qs := ⟨s _ _ h.l, fun q hq => s _ _ (h.t q hq)⟩
theorem RowA.ch {L : List Addr} {H H' : Hp} {p : Addr} {qs : List (Addr × Arc)} (h : RowA H p qs) (s : Ch L H H') (hp : p ∉ L) : RowA H' p qs := ⟨s _ _ h.l (.inr hp), fun q hq => s _ _ (h.t q hq) (.inl fun xs z => by cases z)⟩
abbrev Rws : Type := List (Addr × List (Addr × Arc))
structure RowsA (H : Hp) (A : Addr) (rs : Rws) : Prop where
  l : H A = some (.lst (rs.map fun r => V.ref r.1))
  r : ∀ r ∈ rs, RowA H r.1 r.2
theorem RowsA.same {H H' : Hp} {A : Addr} {rs : Rws} (h : RowsA H A rs) (s : Same H H') : RowsA H' A rs := ⟨s _ _ h.l, fun r hr => (h.r r hr).same s⟩
theorem RowsA.ch {L : List Addr} {H H' : Hp} {A : Addr} {rs : Rws} (h : RowsA H A rs) (s : Ch L H H') (hA : A ∉ L) (hr : ∀ r ∈ rs, r.1 ∉ L) : RowsA H' A rs := ⟨s _ _ h.l (.inr hA), fun r h2 => (h.r r h2).ch s (hr r h2)⟩
/-- what the rows say -/
def dat (rs : Rws) : List (List Arc) := rs.map fun r => r.2.map (·.2)
/-- few rows, few arcs in each -/
structure Few (rs : Rws) : Prop where
  n : rs.length ≤ 100
  r : ∀ r ∈ rs, r.2.length ≤ 100
theorem RowsA.snoc {H : Hp} {A p : Addr} {rs : Rws} {qs : List (Addr × Arc)} (h : RowsA H A rs) (hp : RowA H p qs) (hr : ∀ r ∈ rs, r.1 ≠ A) (hpA : p ≠ A) : RowsA (L2.upd H A (.lst ((rs.map fun r => V.ref r.1) ++ [V.ref p]))) A (rs ++ [(p, qs)]) := by
  have c : Ch [A] H (L2.upd H A (.lst ((rs.map fun r => V.ref r.1) ++ [V.ref p]))) := .upd h.l
  refine ⟨by rw [upd_same, List.map_append]; rfl, fun r h2 => ?_⟩
  rcases List.mem_append.mp h2 with h3 | h3
  · exact (h.r r h3).ch c (by simpa using hr r h3)
  · rw [List.mem_singleton.mp h3]
    exact hp.ch c (by simpa using hpA)
def spCopy : Sp := fun vs H Q _ => ∃ (A : Addr) (rs : Rws), vs = [.ref A] ∧ RowsA H A rs ∧ Few rs ∧ ∀ (A' : Addr) (rs' : Rws) (H' : Hp), H A' = none → (∀ r ∈ rs', H r.1 = none) → (A' :: rs'.map (·.1)).Nodup → RowsA H' A' rs' → rs'.map (·.2) = rs.map (·.2) → Same H H' → Q (.ref A') H'
theorem scCopy : FnScope ["_law_rows", "_law_row"] ["_law_rows"] (defScope sCopy) := ⟨rfl, rfl, rfl, by decide +kernel, rfl, by decide +kernel, by decide +kernel⟩
theorem ok_copy (T : Fns K mg a d) : FnOk P w K mg base CX0 1 a.aCopy d.dCopy ["_law_rows"] spCopy := by
  refine T.FCopy.ok scCopy (fun vs H Q E h => ?_) (fun cdv A outer s H vs Q E hr h => ?_)
  · obtain ⟨A, rs, rfl, _⟩ := h
    rfl
  · obtain ⟨A, rs, rfl, hA, hf, k⟩ := h
    have hAl := hA.l
    refine ⟨_, ((pss_one (ps_ret (pe_lc (own := [("_law_row", 1)]) (g := gName 1) (by rfl) scCopy.nd (pi_list (pv 0)) (blkOk_by (own := [("_law_row", 1)]) (N := ["_law_rows", "_law_row"]) (sc := defScope sCopy) (by decide +kernel)) (fun _ _ _ _ _ => pg_name (i := 1) scCopy.nd rfl (Or.inl rfl)) (fun _ _ _ _ _ => pts_nil) (fun _ _ _ _ _ => (pe_callTy (T := "list") (r := rLs K) call_ls (by rfl) T.z_list (by decide +kernel) (pa_cons (pv 1) pa_nil))))))), ?_⟩
    walk_at "go"
    rename_i D hD
    refine lcg_L (fun i H' => Stop (∃ rs' : Rws, RowsA H' D rs' ∧ rs'.map (·.2) = (rs.take i).map (·.2) ∧ (∀ r ∈ rs', H r.1 = none ∧ r.1 ≠ D) ∧ (rs'.map (·.1)).Nodup ∧ Same H H')) ⟨[], ⟨upd_same, fun r h => nomatch h⟩, rfl, (fun r h => nomatch h), List.nodup_nil, Same.upd_new hD⟩ (fun _ => rfl) (fun i H' _ h => SqL.of (by obtain ⟨_, _, _, _, _, s⟩ := h; exact s _ _ hAl)) (fun i x H5 hi hP => ?_) (fun H5 hP => ?_)
    · obtain ⟨rs', hR, hm, hn, hnd, s5⟩ := hP
      rw [List.getElem?_map] at hi
      obtain ⟨z, hz, rfl⟩ := Option.map_eq_some_iff.mp hi
      have hil := (List.getElem?_eq_some_iff.mp hz).1
      have hzr := hA.r z (List.mem_of_getElem? hz)
      have hz5 := s5 _ _ hzr.l
      have hfn := hf.n
      have hml := congrArg List.length hm
      rw [List.length_map, List.length_map, List.length_take] at hml
      walk_at "go"
      rename_i p hp
      have sp : Same H5 (L2.upd H5 p (.lst (z.2.map fun q => V.ref q.1))) := TL.new hp
      have hpR : RowA (L2.upd H5 p (.lst (z.2.map fun q => V.ref q.1))) p z.2 := ⟨upd_same, fun q hq => sp _ _ (s5 _ _ (hzr.t q hq))⟩
      have hR6 := hR.same sp
      have hpD : p ≠ D := (ne_of_none hR.l hp).symm
      have hpn : H p = none := same_nn s5 hp
      have s6 : Same H (L2.upd H5 p (.lst (z.2.map fun q => V.ref q.1))) := TL.tr s5 sp
      have hpr : ∀ r ∈ rs', r.1 ≠ p := fun r h => ne_of_none (hR.r r h).l hp
      show (L2.upd H5 p (.lst (z.2.map fun q => V.ref q.1))) D = _ ∧ _
      generalize (L2.upd H5 p (.lst (z.2.map fun q => V.ref q.1))) = H6 at sp hpR hR6 s6 ⊢
      refine ⟨hR6.l, by rw [List.length_map, sizeLine_eq]; omega, rs' ++ [(p, z.2)], hR6.snoc hpR (fun r h => (hn r h).2) hpD, ?_, fun r h => ?_, ?_, fun c o hc => ?_⟩
      · rw [List.map_append, hm, List.take_add_one, hz, List.map_append]
        rfl
      · rcases List.mem_append.mp h with h2 | h2
        · exact hn r h2
        · rw [List.mem_singleton.mp h2]
          exact ⟨hpn, hpD⟩
      · rw [List.map_append]
        refine List.nodup_append.mpr ⟨hnd, by simp, fun x hx y hy => ?_⟩
        obtain ⟨r, hr, rfl⟩ := List.mem_map.mp hx
        have : y = p := by simpa using hy
        rw [this]
        exact hpr r hr
      · rw [upd_ne (fun e => by rw [e, hD] at hc; cases hc)]
        exact s6 _ _ hc
    · obtain ⟨rs', hR, hm, hn, hnd, s5⟩ := hP
      rw [List.length_map, List.take_length] at hm
      exact k D rs' H5 hD (fun r h => (hn r h).1) (List.nodup_cons.mpr ⟨fun h => by
        obtain ⟨r, hr, e⟩ := List.mem_map.mp h
        exact (hn r hr).2 e, hnd⟩) hR hm s5
/-- the arcs that stand -/
def signB (sg t : List Nat) : Bool := match t with
  | [c] => decide (c ∈ sg)
  | _ => false
def labB (sg t : List Nat) : Bool := decide (t = []) || signB sg t
def arcB (sg : List Nat) (n : Nat) (x : Arc) : Bool := labB sg x.1 && labB sg x.2.1 && decide (0 ≤ x.2.2 ∧ x.2.2 < n)
/-- an arc's texts are short and of plain signs -/
def Low (x : Arc) : Prop := x.1.length ≤ 10 ∧ x.2.1.length ≤ 10 ∧ (∀ c ∈ x.1, c < 128) ∧ ∀ c ∈ x.2.1, c < 128
local macro_rules | `(tactic| walk_at "go1") => `(tactic| (with_reducible refine TL.iLstS ?_))
def spTable : Sp := fun vs H Q _ => ∃ (b l : Addr) (sg : List Nat) (m : Nat), vs = [.ref b, .str (S sg)] ∧ WellB H b l (m + 1000) ∧ SgOk sg ∧
  ∀ (t A G : Addr) (rs : Rws) (bs : List Bool) (H' : Hp), H A = none → H G = none → (∀ r ∈ rs, H r.1 = none) → H' t = some (.tup [.ref A, .ref G]) → RowsA H' A rs → H' G = some (.lst (bs.map V.bl)) → 1 ≤ rs.length → rs.length ≤ 60 → bs.length = rs.length → (∀ r ∈ rs, r.2.length ≤ 5) →
    (∀ y ∈ dat rs, ∀ x ∈ y, arcB sg rs.length x = true ∧ Low x) → WellB H' b l m → Ch [b] H H' → Q (.ref t) H'
theorem mark_ok {sg : List Nat} (hsg : SgOk sg) {j : Nat} (hj : j < ([] :: sg.map fun c => [c]).length) : ∃ t, ([] :: sg.map fun c => [c])[j]? = some t ∧ labB sg t = true ∧ t.length ≤ 1 ∧ ∀ c ∈ t, c < 128 := by
  refine ⟨_, List.getElem?_eq_getElem hj, ?_⟩
  have hm := List.getElem_mem hj
  generalize ([] :: sg.map fun c => [c])[j] = t at hm
  rcases List.mem_cons.mp hm with rfl | h
  · exact ⟨rfl, by simp, fun c h => nomatch h⟩
  · obtain ⟨c, hc, rfl⟩ := List.mem_map.mp h
    refine ⟨?_, by simp, fun x hx => ?_⟩
    · simp [labB, signB, hc]
    · rw [List.mem_singleton.mp hx]
      exact hsg.c c hc
theorem RowA.snoc {H : Hp} {p t : Addr} {x : Arc} {qs : List (Addr × Arc)} (h : RowA H p qs) (ht : H t = some (.tup (av x))) : RowA (L2.upd H p (.lst ((qs.map fun q => V.ref q.1) ++ [V.ref t]))) p (qs ++ [(t, x)]) := by
  have c : Ch [p] H (L2.upd H p (.lst ((qs.map fun q => V.ref q.1) ++ [V.ref t]))) := .upd h.l
  refine ⟨by rw [upd_same, List.map_append]; rfl, fun q hq => ?_⟩
  rcases List.mem_append.mp hq with h3 | h3
  · exact c _ _ (h.t q h3) (.inl fun xs z => by cases z)
  · rw [List.mem_singleton.mp h3]
    exact c _ _ ht (.inl fun xs z => by cases z)
theorem arcB_of {sg : List Nat} {n : Nat} {x : Arc} (h1 : labB sg x.1 = true) (h2 : labB sg x.2.1 = true) (h3 : 0 ≤ x.2.2 ∧ x.2.2 < n) : arcB sg n x = true := by
  unfold arcB
  rw [h1, h2, decide_eq_true h3]
  rfl
/-- one world in eight is large -/
def tT2 (b l : Addr) (sg : List Nat) (m : Nat) : TS := fun D σ H => ∃ n : Nat, σ = [some (.ref b), some (.str (S sg)), some (.int (n : Nat)), some (.int 5), none, none, none, none, none, none] ∧ WellB H b l (m + 1) ∧ 1 ≤ n ∧ n ≤ 6 ∧
  ∀ (n2 q2 : Nat) (H' : Hp), 1 ≤ n2 → n2 ≤ 60 → 1 ≤ q2 → q2 ≤ 5 → WellB H' b l m → Fr [b] H H' → D.nx [some (.ref b), some (.str (S sg)), some (.int (n2 : Nat)), some (.int (q2 : Nat)), none, none, none, none, none, none] H'
theorem scTable : FnScope ["_law_well_here", "_law_signs", "_law_places", "_law_most", "_law_marks", "_law_arcs", "_law_goods", "_law_place", "_law_row", "_law_k"] ["_law_well_here", "_law_signs"] (defScope sTable) := ⟨rfl, rfl, rfl, by decide +kernel, rfl, by decide +kernel, by decide +kernel⟩
theorem ok_table (T : Fns K mg a d) : FnOk P w K mg base CX0 2 a.aTable d.dTable ["_law_well_here", "_law_signs"] spTable := by
  have GTake := ok_take (P := P) (w := w) (base := base) T
  refine T.FTable.ok scTable (fun vs H Q E h => ?_) (fun cdv A outer s H vs Q E hr h => ?_)
  · obtain ⟨b, l, sg, m, rfl, _⟩ := h
    rfl
  · obtain ⟨b, l, sg, m, rfl, hB, hsg, k⟩ := h
    refine ⟨_, ((pss_cons (ps_set (i := 2) scTable.nd rfl (Or.inl rfl) (pe_op op_add pe_int (pe_call GTake (hr.mono (by decide)) (by rfl) T.gTake T.FTake.kp T.bTake .nil pass0 (pa_cons (pv 0) (pa_cons pe_int pa_nil)))))
      (pss_cons (ps_set (i := 3) scTable.nd rfl (Or.inl rfl) pe_int)
      (pss_cons (PS.imp (t' := (tT2 b l sg (m + 998))) (ps_if (pt_cmpR op_eq (pe_call GTake (hr.mono (by decide)) (by rfl) T.gTake T.FTake.kp T.bTake .nil pass0 (pa_cons (pv 0) (pa_cons pe_int pa_nil))) pe_int (nomark _)) (pss_cons (ps_set (i := 2) scTable.nd rfl (Or.inl rfl) pe_int)
      (pss_one (ps_set (i := 3) scTable.nd rfl (Or.inl rfl) pe_int))) pss_nil) ?h2)
      (pss_cons (ps_set (i := 4) scTable.nd rfl (Or.inl rfl) (pe_op op_cat (pe_lst (pa_cons (pe_strS (l := []) (by decide +kernel)) pa_nil)) (pe_callTy (call_listT rfl) (by rfl) T.z_list (by decide +kernel) (pa_cons (pv 1) pa_nil))))
      (pss_cons (ps_set (i := 5) scTable.nd rfl (Or.inl rfl) (pe_lst pa_nil))
      (pss_cons (ps_set (i := 6) scTable.nd rfl (Or.inl rfl) (pe_lst pa_nil))
      (pss_cons (ps_for PassesOwn.never rfl (pi_range1 (by rfl) T.z_range (pa_cons (pv 2) pa_nil)) (pg_name (i := 7) scTable.nd rfl (Or.inl rfl)) (pss_cons (ps_set (i := 8) scTable.nd rfl (Or.inl rfl) (pe_lst pa_nil))
      (pss_cons (ps_for PassesOwn.never rfl (pi_range1 (by rfl) T.z_range (pa_cons (pe_call GTake (hr.mono (by decide)) (by rfl) T.gTake T.FTake.kp T.bTake .nil pass0 (pa_cons (pv 0) (pa_cons (pv 3) pa_nil))) pa_nil)) (pg_name (i := 9) scTable.nd rfl (Or.inl rfl)) (pss_one (ps_expr (pe_bm PySem.F.plainAttrs_list PySem.F.slot_list_append PySem.F.type_list_append mt_append (pv 8) (pa_cons (pe_tup (pa_cons (pe_ix (r := rIxL K) ix_list (pv 4) (pe_call GTake (hr.mono (by decide)) (by rfl) T.gTake T.FTake.kp T.bTake .nil pass0 (pa_cons (pv 0) (pa_cons (pe_callB call_len_seq (by rfl) T.z_len (by decide +kernel) (pa_cons (pv 4) pa_nil)) pa_nil))) (fun _ _ => rfl)) (pa_cons (pe_ix (r := rIxL K) ix_list (pv 4) (pe_call GTake (hr.mono (by decide)) (by rfl) T.gTake T.FTake.kp T.bTake .nil pass0 (pa_cons (pv 0) (pa_cons (pe_callB call_len_seq (by rfl) T.z_len (by decide +kernel) (pa_cons (pv 4) pa_nil)) pa_nil))) (fun _ _ => rfl)) (pa_cons (pe_call GTake (hr.mono (by decide)) (by rfl) T.gTake T.FTake.kp T.bTake .nil pass0 (pa_cons (pv 0) (pa_cons (pv 2) pa_nil))) pa_nil)))) pa_nil)))))
      (pss_cons (ps_expr (pe_bm PySem.F.plainAttrs_list PySem.F.slot_list_append PySem.F.type_list_append mt_append (pv 5) (pa_cons (pv 8) pa_nil)))
      (pss_one (ps_expr (pe_bm PySem.F.plainAttrs_list PySem.F.slot_list_append PySem.F.type_list_append mt_append (pv 6) (pa_cons (pe_cmpR op_eq (pe_call GTake (hr.mono (by decide)) (by rfl) T.gTake T.FTake.kp T.bTake .nil pass0 (pa_cons (pv 0) (pa_cons pe_int pa_nil))) pe_int (nomark _)) pa_nil))))))))
      (pss_one (ps_ret (pe_tup (pa_cons (pv 5) (pa_cons (pv 6) pa_nil))))))))))))), ?_⟩
    case h2 =>
      rintro ⟨D1, D2, D3, D4⟩ σ H0 ⟨n, rfl, hB0, hn1, hn6, kk⟩
      walk_at "go"
      refine ⟨b, l, 8, m + 998, rfl, hB0, by decide, by decide, fun r1 H1 hr1 hB1 f1 => ?_⟩
      walk_at "go"
      · exact kk 60 2 H1 (by decide) (by decide) (by decide) (by decide) hB1 f1
      · exact kk n 5 H1 hn1 (by omega) (by decide) (by decide) hB1 f1
    walk_at "go"
    refine ⟨b, l, 6, m + 999, rfl, hB, by decide, by decide, fun r1 H1 hr1 hB1 f1 => ?_⟩
    walk_at "go"
    refine ⟨1 + r1, rfl, hB1, by omega, by omega, fun n q H2 hn1 hn2 hq1 hq2 hB2 f2 => ?_⟩
    have hsl := hsg.l
    have c02 : Ch [b] H H2 := Ch.tr (Ch.well f1 hB) (Ch.well f2 hB1)
    walk_at "go"
    refine TL.cLst (by simp) fun p1 H3 hp1 s3 h3 => ?_
    walk_at "go"
    rename_i p2 hp2
    have s4 : Same H3 (L2.upd H3 p2 (.lst (sg.map fun c => V.str (S [c])))) := TL.new hp2
    have h4 : (L2.upd H3 p2 (.lst (sg.map fun c => V.str (S [c])))) p2 = some (.lst (sg.map fun c => V.str (S [c]))) := upd_same
    generalize (L2.upd H3 p2 (.lst (sg.map fun c => V.str (S [c])))) = H4 at s4 h4 ⊢
    refine TL.iCatS (s4 _ _ h3) h4 (by simp; omega) fun M H5 hMn s5 hM => ?_
    have hM5 : H5 M = some (.lst (TL.tv ([] :: sg.map fun c => [c]))) := by
      rw [hM]
      refine congrArg (fun z => some (HO.lst z)) ?_
      show V.str (S []) :: sg.map _ = V.str (S []) :: (sg.map fun c => [c]).map _
      rw [List.map_map]
      rfl
    have hB5 := hB2.same (TL.tr s3 (TL.tr s4 s5))
    have c05 : Ch [b] H H5 := c02.tr (.of (TL.tr s3 (TL.tr s4 s5)))
    have iMb : M ∉ [b] := by
      have := (hB2.same (TL.tr s3 s4)).ne hMn
      simpa using this.1
    walk_at "go"
    refine TL.cLst (by simp) fun A H6 hAn s6 hA => ?_
    have hB6 := hB5.same s6
    have hM6 := s6 _ _ hM5
    have c06 : Ch [b] H H6 := c05.tr (.of s6)
    have hAH : H A = none := c05.noneW hB5 hAn
    have nAb := hB5.ne hAn
    walk_at "go"
    refine TL.cLst (by simp) fun G H7 hGn s7 hG => ?_
    have hB7 := hB6.same s7
    have hM7 := s7 _ _ hM6
    have hA7 := s7 _ _ hA
    have c07 : Ch [b] H H7 := c06.tr (.of s7)
    have hGH : H G = none := c06.noneW hB6 hGn
    have nGb := hB6.ne hGn
    have nMA : M ≠ A := ne_of_none hM5 hAn
    have nMG : M ≠ G := ne_of_none hM6 hGn
    have nAG : A ≠ G := ne_of_none hA hGn
    have hml : (sg.map fun c => [c]).length = sg.length := List.length_map ..
    have hBH := hB
    clear hM hM5 hM6 hA hB2 hB5 hB6 hB1 hB h3 h4 hp1 hp2 hMn hAn hGn
    walk_at "go"
    refine for_R (fun i σ H' => Stop (∃ (rs : Rws) (bs : List Bool) (v7 v8 v9 : Option V), σ = [some (.ref b), some (.str (S sg)), some (.int (n : Nat)), some (.int (q : Nat)), some (.ref M), some (.ref A), some (.ref G), v7, v8, v9] ∧
        RowsA H' A rs ∧ rs.length = i ∧ H' G = some (.lst (bs.map V.bl)) ∧ bs.length = i ∧ (∀ r ∈ rs, H r.1 = none ∧ r.1 ≠ A ∧ r.1 ≠ G ∧ r.2.length ≤ 5) ∧ (∀ y ∈ dat rs, ∀ x ∈ y, arcB sg n x = true ∧ Low x) ∧ H' M = some (.lst (TL.tv ([] :: sg.map fun c => [c]))) ∧ WellB H' b l (m + 998 - 16 * i) ∧ Ch [b] H H'))
      ⟨[], [], none, none, none, rfl, ⟨hA7, fun r h => nomatch h⟩, rfl, hG, rfl, (fun r h => nomatch h), (fun y h => nomatch h), hM7, hB7, c07⟩ ?_ ?_
    · rintro i σ H8 hi ⟨rs, bs, v7, v8, v9, rfl, hR8, hrn, hG8, hbn, hrs, hdat, hM8, hB8, c8⟩
      have hi2 : i < n := by simpa using hi
      walk_at "go"
      refine TL.cLst (by simp) fun R H9 hRn s9 hR9 => ?_
      have hRH : H R = none := c8.noneW hB8 hRn
      have nRb := hB8.ne hRn
      have nRA : R ≠ A := (ne_of_none hR8.l hRn).symm
      have nRG : R ≠ G := (ne_of_none hG8 hRn).symm
      have nRM : R ≠ M := (ne_of_none hM8 hRn).symm
      have nRr : ∀ r ∈ rs, r.1 ≠ R := fun r h => ne_of_none (hR8.r r h).l hRn
      have hB9 := hB8.same s9
      have c9 : Ch [b] H H9 := c8.tr (.of s9)
      have hR9a := hR8.same s9
      have hG9 := s9 _ _ hG8
      have hM9 := s9 _ _ hM8
      have iGb : G ∉ [b] := by simpa using nGb.1
      have iAb : A ∉ [b] := by simpa using nAb.1
      have iRb : R ∉ [b] := by simpa using nRb.1
      have hrb : ∀ {H1 : Hp} {m : Nat}, WellB H1 b l m → RowsA H1 A rs → ∀ r ∈ rs, r.1 ∉ [b] := fun {H1 m} hw hrw r hr => by
        have hn := (hrs r hr).1
        rw [List.mem_singleton]
        intro e
        obtain ⟨ns, x, y, z, e1, _⟩ := hBH
        rw [e, e1] at hn
        cases hn
      clear hR8 hG8 hM8 hB8 c8
      walk_at "go"
      refine ⟨b, l, q, m + 998 - 16 * i - 1, rfl, hB9.less (by omega), by omega, by omega, fun r3 H10 hr3 hB10 f10 => ?_⟩
      have c10' : Ch [b] H9 H10 := .well f10 hB9
      have hR10 := hR9a.ch c10' iAb (hrb hB9 hR9a)
      have hG10 := f10 _ _ iGb hG9
      have hM10 := f10 _ _ iMb hM9
      have hRR10 : RowA H10 R [] := ⟨f10 _ _ iRb hR9, fun q h => nomatch h⟩
      have c10 : Ch [b] H H10 := c9.tr c10'
      clear hR9a hG9 hM9 hR9 hB9 c9 c10'
      walk_at "go"
      refine for_R (fun k σ H' => Stop (∃ (qs : List (Addr × Arc)) (v9 : Option V), σ = [some (.ref b), some (.str (S sg)), some (.int (n : Nat)), some (.int (q : Nat)), some (.ref M), some (.ref A), some (.ref G), some (.int (0 + (i : Nat))), some (.ref R), v9] ∧
          RowsA H' A rs ∧ H' G = some (.lst (bs.map V.bl)) ∧ RowA H' R qs ∧ qs.length = k ∧ (∀ x ∈ qs, arcB sg n x.2 = true ∧ Low x.2) ∧ H' M = some (.lst (TL.tv ([] :: sg.map fun c => [c]))) ∧ WellB H' b l (m + 998 - 16 * i - 1 - 3 * k) ∧ Ch [b] H H'))
        ⟨[], v9, rfl, hR10, hG10, hRR10, rfl, (fun x h => nomatch h), hM10, hB10, c10⟩ ?_ ?_
      · rintro kk σ H11 hk ⟨qs, v9, rfl, hR11, hG11, hRR11, hqn, hqs, hM11, hB11, c11⟩
        have hk2 : kk < r3 := by simpa using hk
        have hRl := hRR11.l
        have hml2 : (TL.tv ([] :: sg.map fun c => [c])).length = sg.length + 1 := by rw [TL.tvL, List.length_cons, hml]
        walk_at "go"
        rw [hml2]
        refine ⟨b, l, sg.length + 1, m + 998 - 16 * i - 1 - 3 * kk - 1, rfl, hB11.less (by omega), by omega, by omega, fun j1 H12 hj1 hB12 f12 => ?_⟩
        have c12 : Ch [b] H11 H12 := .well f12 hB11
        have hM12 := f12 _ _ iMb hM11
        obtain ⟨t1, ht1, lb1, ln1, lo1⟩ := mark_ok hsg (j := j1) (by rw [List.length_cons, hml]; omega)
        have hv1 : (TL.tv ([] :: sg.map fun c => [c]))[j1]? = some (V.str (S t1)) := by
          show (List.map _ _)[j1]? = _
          rw [List.getElem?_map, ht1]
          rfl
        walk_at "go"
        rw [hml2]
        refine ⟨b, l, sg.length + 1, m + 998 - 16 * i - 1 - 3 * kk - 2, rfl, hB12.less (by omega), by omega, by omega, fun j2 H13 hj2 hB13 f13 => ?_⟩
        have c13 : Ch [b] H12 H13 := .well f13 hB12
        have hM13 := f13 _ _ iMb hM12
        obtain ⟨t2, ht2, lb2, ln2, lo2⟩ := mark_ok hsg (j := j2) (by rw [List.length_cons, hml]; omega)
        have hv2 : (TL.tv ([] :: sg.map fun c => [c]))[j2]? = some (V.str (S t2)) := by
          show (List.map _ _)[j2]? = _
          rw [List.getElem?_map, ht2]
          rfl
        walk_at "go"
        refine ⟨b, l, n, m + 998 - 16 * i - 1 - 3 * (kk + 1), rfl, hB13.less (by omega), by omega, by omega, fun j3 H14 hj3 hB14 f14 => ?_⟩
        have c14 : Ch [b] H13 H14 := .well f14 hB13
        have c1114 : Ch [b] H11 H14 := c12.tr (c13.tr c14)
        have hM14 := f14 _ _ iMb hM13
        have hR14 := hR11.ch c1114 iAb (hrb hB11 hR11)
        have hG14 := c1114 _ _ hG11 (.inr iGb)
        have hRR14 := hRR11.ch c1114 iRb
        have c14' : Ch [b] H H14 := c11.tr c1114
        have hRl14 := hRR14.l
        walk_at "go"
        rename_i tp htp
        have stp : Same H14 (L2.upd H14 tp (.tup [.str (S t1), .str (S t2), .int (j3 : Nat)])) := TL.new htp
        have htv : (L2.upd H14 tp (.tup [.str (S t1), .str (S t2), .int (j3 : Nat)])) tp = some (.tup (av (t1, t2, (j3 : Int)))) := upd_same
        have hRR15 := hRR14.same stp
        have hR15 := hR14.same stp
        have hG15 := stp _ _ hG14
        have hM15 := stp _ _ hM14
        have hB15 := hB14.same stp
        have c15 : Ch [b] H (L2.upd H14 tp (.tup [.str (S t1), .str (S t2), .int (j3 : Nat)])) := c14'.tr (.of stp)
        generalize (L2.upd H14 tp (.tup [.str (S t1), .str (S t2), .int (j3 : Nat)])) = H15 at stp htv hRR15 hR15 hG15 hM15 hB15 c15 ⊢
        have cR : Ch [R] H15 (L2.upd H15 R (.lst ((qs.map fun q => V.ref q.1) ++ [V.ref tp]))) := .upd hRR15.l
        refine ⟨_, _, _, rfl, rfl, hRR15.l, by rw [List.length_map, sizeLine_eq]; omega, qs ++ [(tp, t1, t2, (j3 : Int))], _, rfl, hR15.ch cR (by simpa using nRA.symm) (fun r h => by simpa using nRr r h), cR _ _ hG15 (.inr (by simpa using nRG.symm)), hRR15.snoc htv, by rw [List.length_append, List.length_singleton, hqn], fun x hx => ?_, cR _ _ hM15 (.inr (by simpa using nRM.symm)), hB15.upd nRb.1 nRb.2, c15.new hRH⟩
        rcases List.mem_append.mp hx with h | h
        · exact hqs x h
        · rw [List.mem_singleton.mp h]
          exact ⟨arcB_of lb1 lb2 ⟨Int.natCast_nonneg _, by show ((j3 : Nat) : Int) < (n : Int); omega⟩, by show t1.length ≤ 10; omega, by show t2.length ≤ 10; omega, lo1, lo2⟩
      · rintro σ H11 ⟨qs, v9, rfl, hR11, hG11, hRR11, hqn, hqs, hM11, hB11, c11⟩
        have hqn : qs.length = r3 := by simpa using hqn
        have hAl := hR11.l
        walk_at "go"
        have hnR : ∀ r ∈ rs, r.1 ≠ A := fun r h => (hrs r h).2.1
        have hA12 := hR11.snoc hRR11 hnR nRA
        have cA : Ch [A] H11 (L2.upd H11 A (.lst ((rs.map fun r => V.ref r.1) ++ [V.ref R]))) := .upd hR11.l
        have hG12 := cA _ _ hG11 (.inr (by simpa using nAG.symm))
        have hM12 := cA _ _ hM11 (.inr (by simpa using nMA))
        have hB12 := hB11.upd (o := .lst ((rs.map fun r => V.ref r.1) ++ [V.ref R])) nAb.1 nAb.2
        have c12 : Ch [b] H (L2.upd H11 A (.lst ((rs.map fun r => V.ref r.1) ++ [V.ref R]))) := c11.new hAH
        refine ⟨_, _, _, rfl, rfl, hR11.l, by rw [List.length_map, sizeLine_eq]; omega, ?_⟩
        generalize (L2.upd H11 A (.lst ((rs.map fun r => V.ref r.1) ++ [V.ref R]))) = H12 at hA12 hG12 hM12 hB12 c12 ⊢
        walk_at "go"
        refine ⟨b, l, 2, m + 998 - 16 * (i + 1), rfl, hB12.less (by rw [Int.toNat_natCast]; omega), by decide, by decide, fun g H13 hg hB13 f13 => ?_⟩
        have c1213 : Ch [b] H12 H13 := .well f13 hB12
        have hrs2 : ∀ r ∈ rs ++ [(R, qs)], H r.1 = none ∧ r.1 ≠ A ∧ r.1 ≠ G ∧ r.2.length ≤ 5 := fun r h => by
          rcases List.mem_append.mp h with h2 | h2
          · exact hrs r h2
          · rw [List.mem_singleton.mp h2]
            exact ⟨hRH, nRA, nRG, by show qs.length ≤ 5; omega⟩
        have hA13 := hA12.ch c1213 iAb fun r h => by
          have hn := (hrs2 r h).1
          rw [List.mem_singleton]
          intro e
          obtain ⟨ns, x, y, z, e1, _⟩ := hBH
          rw [e, e1] at hn
          cases hn
        have hG13 := c1213 _ _ hG12 (.inr iGb)
        have hM13 := c1213 _ _ hM12 (.inr iMb)
        have c13 := c12.tr c1213
        walk_at "go"
        generalize decide (V.int (g : Nat) = V.int 0) = gb
        have cG : Ch [G] H13 (L2.upd H13 G (.lst (bs.map V.bl ++ [V.bl gb]))) := .upd hG13
        refine ⟨_, _, _, rfl, rfl, hG13, by rw [List.length_map, sizeLine_eq]; omega, rs ++ [(R, qs)], bs ++ [gb], _, _, _, rfl, hA13.ch cG (by simpa using nAG) (fun r h => by simpa using (hrs2 r h).2.2.1), by rw [List.length_append, List.length_singleton, hrn], by rw [upd_same, List.map_append]; rfl, by rw [List.length_append, List.length_singleton, hbn], hrs2, fun y hy x hx => ?_, cG _ _ hM13 (.inr (by simpa using nMG)), hB13.upd nGb.1 nGb.2, c13.new hGH⟩
        unfold dat at hy
        rw [List.map_append] at hy
        rcases List.mem_append.mp hy with h | h
        · exact hdat y h x hx
        · have e : y = qs.map (·.2) := by simpa using h
          rw [e] at hx
          obtain ⟨z, hz, rfl⟩ := List.mem_map.mp hx
          exact hqs z hz
    · rintro σ H8 ⟨rs, bs, v7, v8, v9, rfl, hR8, hrn, hG8, hbn, hrs, hdat, hM8, hB8, c8⟩
      have hrn : rs.length = n := by simpa using hrn
      have hbn : bs.length = n := by simpa using hbn
      walk_at "go"
      rename_i t ht
      have st : Same H8 (L2.upd H8 t (.tup [.ref A, .ref G])) := TL.new ht
      refine k t A G rs bs _ hAH hGH (fun r h => (hrs r h).1) upd_same (hR8.same st) (st _ _ hG8) (by omega) (by omega) (by omega) (fun r h => (hrs r h).2.2.2) (by rw [hrn]; exact hdat) ((hB8.same st).less ?_) (c8.tr (.of st))
      have : n = ((n : Nat) : Int).toNat := by simp
      omega
end
end
section
set_option Elab.async false
set_option linter.all false
set_option maxRecDepth 100000
set_option maxHeartbeats 4000000
open PySem PySem.Spec PyProof.Rows L2 NSet

local macro_rules | `(tactic| walk_at "side") => `(tactic| exact .inl (by assumption))
local macro_rules | `(tactic| walk_at "go1") => `(tactic| (with_reducible refine iGTup (by assumption) rfl ?_))
local macro_rules | `(tactic| walk_at "go1") => `(tactic| (with_reducible refine iGCons ?_))
local macro_rules | `(tactic| walk_at "go1") => `(tactic| (with_reducible refine iGNil ?_))
local macro_rules | `(tactic| walk_at "go1") => `(tactic| (with_reducible refine iMakeV ?_))
local macro_rules | `(tactic| walk_at "go1") => `(tactic| (with_reducible refine iMakeD ?_))
local macro_rules | `(tactic| walk_at "go1") => `(tactic| (with_reducible refine iLc2S ?_))
local macro_rules | `(tactic| walk_at "go1") => `(tactic| (with_reducible refine iLc2L ?_))
local macro_rules | `(tactic| walk_at "go1") => `(tactic| (with_reducible refine iIStr ?_))
local macro_rules | `(tactic| walk_at "go1") => `(tactic| (with_reducible refine iIxI ?_))
local macro_rules | `(tactic| walk_at "go1") => `(tactic| (with_reducible refine iCMeth ?_))

section
variable {P : Program} {w : World} {K : PySem.W.Frag} {mg : Str → Option Value} {base : Heap} {a : Ad} {d : Fd}
local macro_rules | `(tactic| walk_at "go1") => `(tactic| ((with_reducible apply iLs); (walk_at "lk")))
/-! k08: wrong arcs, arcs put in -/
theorem bad1 {sg : List Nat} {n : Nat} {x : Arc} (h : labB sg x.1 = false) : arcB sg n x = false := by
  unfold arcB
  rw [h]
  rfl
theorem bad2 {sg : List Nat} {n : Nat} {x : Arc} (h : labB sg x.2.1 = false) : arcB sg n x = false := by
  unfold arcB
  rw [h, Bool.and_false]
  rfl
theorem bad3 {sg : List Nat} {n : Nat} {x : Arc} (h : ¬ (0 ≤ x.2.2 ∧ x.2.2 < n)) : arcB sg n x = false := by
  unfold arcB
  rw [decide_eq_false h, Bool.and_false]
theorem lab1 {sg : List Nat} {y : Nat} (h : y ∉ sg) : labB sg [y] = false := by simp [labB, signB, h]
theorem lab2 {sg : List Nat} {y z : Nat} : labB sg [y, z] = false := by simp [labB, signB]
def spWrong : Sp := fun vs H Q _ => ∃ (b l : Addr) (sg : List Nat) (n m : Nat), vs = [.ref b, .str (S sg), .int (n : Nat)] ∧ WellB H b l (m + 4) ∧ SgOk sg ∧ 1 ≤ n ∧ n ≤ 100 ∧
  ∀ (t : Addr) (x : Arc) (H' : Hp), H t = none → H' t = some (.tup (av x)) → arcB sg n x = false → Low x → WellB H' b l m → Ch [b] H H' → Q (.ref t) H'
theorem scWrong : FnScope ["_law_well_here", "_law_signs", "_law_places", "_law_good", "_law_strange_here", "_law_way"] ["_law_well_here", "_law_signs", "_law_places"] (defScope sWrong) := ⟨rfl, rfl, rfl, by decide +kernel, rfl, by decide +kernel, by decide +kernel⟩
theorem ok_wrong (T : Fns K mg a d) : FnOk P w K mg base CX0 3 a.aWrong d.dWrong ["_law_well_here", "_law_signs", "_law_places"] spWrong := by
  have GTake := ok_take (P := P) (w := w) (base := base) T
  have GStrange := ok_strange (P := P) (w := w) (base := base) T
  refine T.FWrong.ok scWrong (fun vs H Q E h => ?_) (fun cdv A outer s H vs Q E hr h => ?_)
  · obtain ⟨b, l, sg, n, m, rfl, _⟩ := h
    rfl
  · obtain ⟨b, l, sg, n, m, rfl, hB, hsg, hn1, hn2, k⟩ := h
    have hsl := hsg.l
    have hsp := hsg.p
    refine ⟨_, ((pss_cons (ps_set (i := 3) scWrong.nd rfl (Or.inl rfl) (pe_ix ix_str (pv 1) (pe_call GTake (hr.mono (by decide)) (by rfl) T.gTake T.FTake.kp T.bTake .nil pass0 (pa_cons (pv 0) (pa_cons (pe_callB call_lenS (by rfl) T.z_len (by decide +kernel) (pa_cons (pv 1) pa_nil)) pa_nil))) (fun _ _ => rfl)))
      (pss_cons (ps_set (i := 4) scWrong.nd rfl (Or.inl rfl) (pe_call GStrange (hr.mono (by decide)) (by rfl) T.gStrange T.FStrange.kp T.bStrange .nil pass0 (pa_cons (pv 0) (pa_cons (pv 1) pa_nil))))
      (pss_cons (ps_set (i := 5) scWrong.nd rfl (Or.inl rfl) (pe_call GTake (hr.mono (by decide)) (by rfl) T.gTake T.FTake.kp T.bTake .nil pass0 (pa_cons (pv 0) (pa_cons pe_int pa_nil))))
      (pss_cons (ps_if (pt_cmpR op_eq (pv 5) pe_int (nomark _)) (pss_one (ps_ret (pe_tup (pa_cons (pv 4) (pa_cons (pv 3) (pa_cons pe_int pa_nil)))))) pss_nil)
      (pss_cons (ps_if (pt_cmpR op_eq (pv 5) pe_int (nomark _)) (pss_one (ps_ret (pe_tup (pa_cons (pv 3) (pa_cons (pv 4) (pa_cons pe_int pa_nil)))))) pss_nil)
      (pss_cons (ps_if (pt_cmpR op_eq (pv 5) pe_int (nomark _)) (pss_one (ps_ret (pe_tup (pa_cons (pe_op op_addS (pv 3) (pe_ix ix_str (pv 1) pe_int (fun _ _ => rfl))) (pa_cons (pe_strS (l := []) (by decide +kernel)) (pa_cons pe_int pa_nil)))))) pss_nil)
      (pss_cons (ps_if (pt_cmpR op_eq (pv 5) pe_int (nomark _)) (pss_one (ps_ret (pe_tup (pa_cons (pe_strS (l := []) (by decide +kernel)) (pa_cons (pe_op op_addS (pe_ix ix_str (pv 1) pe_int (fun _ _ => rfl)) (pv 3)) (pa_cons pe_int pa_nil)))))) pss_nil)
      (pss_cons (ps_if (pt_cmpR op_eq (pv 5) pe_int (nomark _)) (pss_one (ps_ret (pe_tup (pa_cons (pv 3) (pa_cons (pe_strS (l := []) (by decide +kernel)) (pa_cons (pe_un un_neg pe_int) pa_nil)))))) pss_nil)
      (pss_cons (ps_if (pt_cmpR op_eq (pv 5) pe_int (nomark _)) (pss_one (ps_ret (pe_tup (pa_cons (pe_strS (l := []) (by decide +kernel)) (pa_cons (pv 3) (pa_cons (pv 2) pa_nil)))))) pss_nil)
      (pss_cons (ps_if (pt_cmpR op_eq (pv 5) pe_int (nomark _)) (pss_one (ps_ret (pe_tup (pa_cons (pv 3) (pa_cons (pv 3) (pa_cons (pe_un un_neg (pv 2)) pa_nil)))))) pss_nil)
      (pss_one (ps_ret (pe_tup (pa_cons (pe_strS (l := []) (by decide +kernel)) (pa_cons (pe_strS (l := []) (by decide +kernel)) (pa_cons (pe_op op_add (pv 2) (pe_call GTake (hr.mono (by decide)) (by rfl) T.gTake T.FTake.kp T.bTake .nil pass0 (pa_cons (pv 0) (pa_cons (pe_op op_pow pe_int pe_int) pa_nil)))) pa_nil))))))))))))))))), ?_⟩
    walk_at "go"
    refine ⟨b, l, sg.length, m + 3, rfl, hB, hsp, by omega, fun r1 H1 hr1 hB1 f1 => ?_⟩
    obtain ⟨g, hg⟩ : ∃ c, sg[r1]? = some c := ⟨_, List.getElem?_eq_getElem hr1⟩
    obtain ⟨s0, hs0⟩ : ∃ c, sg[0]? = some c := ⟨_, List.getElem?_eq_getElem hsp⟩
    have hgm := hsg.c g (List.mem_of_getElem? hg)
    have hsm := hsg.c s0 (List.mem_of_getElem? hs0)
    walk_at "go"
    refine ⟨b, l, sg, m + 2, rfl, hB1, hsl, fun y H2 hy hy2 hB2 f2 => ?_⟩
    walk_at "go"
    refine ⟨b, l, 8, m + 1, rfl, hB2, by decide, by decide, fun r3 H3 hr3 hB3 f3 => ?_⟩
    have c3 : Ch [b] H H3 := (Ch.well f1 hB).tr ((Ch.well f2 hB1).tr (Ch.well f3 hB2))
    have hs00 : atI sg 0 = some s0 := atI_nat (j := 0) hs0
    have fin : ∀ (t : Addr) (x : Arc), H3 t = none → arcB sg n x = false → Low x → Q (.ref t) (L2.upd H3 t (.tup (av x))) := fun t x ht h1 h2 => k t x _ (c3.noneW hB3 ht) upd_same h1 h2 ((hB3.less (by omega)).same (TL.new ht)) (c3.tr (.of (TL.new ht)))
    have lowg : ∀ c ∈ [g], c < 128 := fun c h => by rw [List.mem_singleton.mp h]; exact hgm
    have lowy : ∀ c ∈ [y], c < 128 := fun c h => by rw [List.mem_singleton.mp h]; exact hy2
    have low0 : ∀ c ∈ ([] : List Nat), c < 128 := fun c h => nomatch h
    have lowgs : ∀ c ∈ [g, s0], c < 128 := fun c h => by rcases List.mem_cons.mp h with rfl | h2; exact hgm; rw [List.mem_singleton.mp h2]; exact hsm
    have lowsg : ∀ c ∈ [s0, g], c < 128 := fun c h => by rcases List.mem_cons.mp h with rfl | h2; exact hsm; rw [List.mem_singleton.mp h2]; exact hgm
    match r3, hr3 with
    | 0, _ =>
      walk_at "go"
      rename_i t ht
      exact fin t ([y], [g], 0) ht (bad1 (lab1 hy)) ⟨by simp, by simp, lowy, lowg⟩
    | 1, _ =>
      walk_at "go"
      rename_i t ht
      exact fin t ([g], [y], 0) ht (bad2 (lab1 hy)) ⟨by simp, by simp, lowg, lowy⟩
    | 2, _ =>
      walk_at "go"
      rename_i t ht
      exact fin t ([g, s0], [], 0) ht (bad1 lab2) ⟨by simp, by simp, lowgs, low0⟩
    | 3, _ =>
      walk_at "go"
      rename_i t ht
      exact fin t ([], [s0, g], 0) ht (bad2 lab2) ⟨by simp, by simp, low0, lowsg⟩
    | 4, _ =>
      walk_at "go"
      rename_i t ht
      exact fin t ([g], [], -1) ht (bad3 (by show ¬ ((0 : Int) ≤ -1 ∧ _); omega)) ⟨by simp, by simp, lowg, low0⟩
    | 5, _ =>
      walk_at "go"
      rename_i t ht
      exact fin t ([], [g], (n : Int)) ht (bad3 (by show ¬ (_ ∧ (n : Int) < n); omega)) ⟨by simp, by simp, low0, lowg⟩
    | 6, _ =>
      walk_at "go"
      rename_i t ht
      exact fin t ([g], [g], -(n : Int)) ht (bad3 (by show ¬ (0 ≤ -(n : Int) ∧ _); omega)) ⟨by simp, by simp, lowg, lowg⟩
    | 7, _ =>
      walk_at "go"
      refine ⟨b, l, 10 ^ 30, m, congrArg (fun z => [V.ref b, V.int z]) (show (10 : Int) ^ Int.toNat 30 = ((10 ^ 30 : Nat) : Int) from by decide +kernel), hB3, by decide, by decide +kernel, fun r4 H4 hr4 hB4 f4 => ?_⟩
      have c4 := c3.tr (Ch.well f4 hB3)
      walk_at "go"
      rename_i t ht
      exact k t ([], [], (n : Int) + (r4 : Int)) _ (c4.noneW hB4 ht) upd_same (bad3 (by show ¬ (_ ∧ (n : Int) + (r4 : Int) < n); omega)) ⟨by simp, by simp, low0, low0⟩ (hB4.same (TL.new ht)) (c4.tr (.of (TL.new ht)))
    | r + 8, h => omega
def insA {α : Type} (l : List α) (k : Nat) (x : α) : List α := l.take k ++ x :: l.drop k
theorem insA_map {α β : Type} (f : α → β) (l : List α) (k : Nat) (x : α) : (insA l k x).map f = insA (l.map f) k (f x) := by
  unfold insA
  rw [List.map_append, List.map_take, List.map_cons, List.map_drop]
theorem dat_snd (rs : Rws) : dat rs = (rs.map (·.2)).map fun q => q.map (·.2) := by
  unfold dat
  rw [List.map_map]
  rfl
/-- a row changed in place -/
theorem RowsA.put {H H' : Hp} {A : Addr} {rs : Rws} {i : Nat} {z : Addr × List (Addr × Arc)} {qs : List (Addr × Arc)} (h : RowsA H A rs) (hz : rs[i]? = some z) (nd : (A :: rs.map (·.1)).Nodup) (c : Ch [z.1] H H') (hq : RowA H' z.1 qs) : RowsA H' A (rs.set i (z.1, qs)) := by
  have hi := (List.getElem?_eq_some_iff.mp hz).1
  have nd1 := List.nodup_cons.mp nd
  have hzm : z.1 ∈ rs.map (·.1) := List.mem_map.mpr ⟨z, List.mem_of_getElem? hz, rfl⟩
  refine ⟨?_, fun r hr => ?_⟩
  · have e : (rs.set i (z.1, qs)).map (fun r => V.ref r.1) = rs.map fun r => V.ref r.1 := by
      rw [List.map_set]
      refine List.ext_getElem? fun j => ?_
      by_cases e : i = j
      · subst e
        rw [List.getElem?_set_self (by rw [List.length_map]; exact hi), List.getElem?_map, hz]
        rfl
      · rw [List.getElem?_set_ne e]
    rw [e]
    exact c _ _ h.l (.inr fun m => nd1.1 (by rw [List.mem_singleton.mp m]; exact hzm))
  · obtain ⟨j, hj, e⟩ := List.mem_iff_getElem.mp hr
    by_cases eij : i = j
    · subst eij
      rw [List.getElem_set_self] at e
      rw [← e]
      exact hq
    · rw [List.getElem_set_ne eij] at e
      rw [List.length_set] at hj
      refine (h.r r (by rw [← e]; exact List.getElem_mem _)).ch c fun m => eij ?_
      have h1 : (rs.map (·.1))[i]? = some z.1 := by rw [List.getElem?_map, hz]; rfl
      have h2 : (rs.map (·.1))[j]? = some z.1 := by
        rw [List.getElem?_map, List.getElem?_eq_getElem hj, e]
        exact congrArg some (List.mem_singleton.mp m)
      exact (List.getElem?_inj (by rw [List.length_map]; exact hi) nd1.2).mp (h1.trans h2.symm)
def spPut : Sp := fun vs H Q _ => ∃ (b l A t : Addr) (rs : Rws) (x : Arc) (i m : Nat), vs = [.ref b, .ref A, .int (i : Nat), .ref t] ∧ WellB H b l (m + 1) ∧ RowsA H A rs ∧ Few rs ∧ i < rs.length ∧ H t = some (.tup (av x)) ∧ A ≠ b ∧ (∀ r ∈ rs, r.1 ≠ b) ∧
  ∀ (A' : Addr) (rs' : Rws) (k : Nat) (ys : List Arc) (H' : Hp), H A' = none → (∀ r ∈ rs', H r.1 = none) → RowsA H' A' rs' → (dat rs)[i]? = some ys → k ≤ ys.length → dat rs' = (dat rs).set i (insA ys k x) → WellB H' b l m → Ch [b] H H' → Q (.ref A') H'
theorem scPut : FnScope ["_law_well_here", "_law_arcs", "_law_place", "_law_arc", "_law_bent"] ["_law_well_here", "_law_arcs", "_law_place", "_law_arc"] (defScope sPut) := ⟨rfl, rfl, rfl, by decide +kernel, rfl, by decide +kernel, by decide +kernel⟩
theorem ok_put (T : Fns K mg a d) : FnOk P w K mg base CX0 2 a.aPut d.dPut ["_law_well_here", "_law_arcs", "_law_place", "_law_arc"] spPut := by
  have GTake := ok_take (P := P) (w := w) (base := base) T
  have GCopy := ok_copy (P := P) (w := w) (base := base) T
  refine T.FPut.ok scPut (fun vs H Q E h => ?_) (fun cdv A0 outer s H vs Q E hr h => ?_)
  · obtain ⟨b, l, A, t, rs, x, i, m, rfl, _⟩ := h
    rfl
  · obtain ⟨b, l, A, t, rs, x, i, m, rfl, hB, hA, hf, hi, ht, nAb, nrb, k⟩ := h
    refine ⟨_, ((pss_cons (ps_set (i := 4) scPut.nd rfl (Or.inl rfl) (pe_call GCopy (hr.mono (by decide)) (by rfl) T.gCopy T.FCopy.kp T.bCopy .nil pass0 (pa_cons (pv 1) pa_nil)))
      (pss_cons (ps_expr (pe_bm PySem.F.plainAttrs_list PySem.F.slot_list_insert PySem.F.type_list_insert mt_insert (pe_ix (r := rIxL K) ix_list (pv 4) (pv 2) (fun _ _ => rfl)) (pa_cons (pe_call GTake (hr.mono (by decide)) (by rfl) T.gTake T.FTake.kp T.bTake .nil pass0 (pa_cons (pv 0) (pa_cons (pe_op op_add (pe_callB call_len_seq (by rfl) T.z_len (by decide +kernel) (pa_cons (pe_ix (r := rIxL K) ix_list (pv 4) (pv 2) (fun _ _ => rfl)) pa_nil)) pe_int) pa_nil))) (pa_cons (pv 3) pa_nil))))
      (pss_one (ps_ret (pv 4)))))), ?_⟩
    walk_at "go"
    refine ⟨A, rs, rfl, hA, hf, fun A' rs' H1 hAn hrn hnd hA1 hm s1 => ?_⟩
    have hB1 := hB.same s1
    have hlen : rs'.length = rs.length := by
      have := congrArg List.length hm
      rwa [List.length_map, List.length_map] at this
    obtain ⟨z, hz⟩ : ∃ z, rs'[i]? = some z := ⟨_, List.getElem?_eq_getElem (by omega)⟩
    have hzm := List.mem_of_getElem? hz
    have hzr := hA1.r z hzm
    have hzl := hzr.l
    have hAl := hA1.l
    have hzf : z.2.length ≤ 100 := by
      have h1 : z.2 ∈ rs.map (·.2) := by
        rw [← hm]
        exact List.mem_map.mpr ⟨z, hzm, rfl⟩
      obtain ⟨r, hr, e⟩ := List.mem_map.mp h1
      rw [← e]
      exact hf.r r hr
    have hv : (rs'.map fun r => V.ref r.1)[i]? = some (V.ref z.1) := by rw [List.getElem?_map, hz]; rfl
    walk_at "go"
    refine ⟨b, l, z.2.length + 1, m, by rw [List.length_map]; rfl, hB1, by omega, by omega, fun kk H2 hk hB2 f2 => ?_⟩
    have hzH : H z.1 = none := hrn z hzm
    have izb : z.1 ∉ [b] := by
      obtain ⟨ns, u1, u2, u3, e1, _⟩ := hB
      rw [List.mem_singleton]
      intro e
      rw [e, e1] at hzH
      cases hzH
    have c2 : Ch [b] H1 H2 := .well f2 hB1
    have hAb : A' ∉ [b] := by
      obtain ⟨ns, u1, u2, u3, e1, _⟩ := hB
      rw [List.mem_singleton]
      intro e
      rw [e, e1] at hAn
      cases hAn
    have hzb2 : z.1 ≠ l := by
      obtain ⟨ns, u1, u2, u3, e1, e2, _⟩ := hB
      intro e
      rw [e, e2] at hzH
      cases hzH
    have hA2 : RowsA H2 A' rs' := hA1.ch c2 hAb fun r hr => by
      obtain ⟨ns, u1, u2, u3, e1, _⟩ := hB
      have hn := hrn r hr
      rw [List.mem_singleton]
      intro e
      rw [e, e1] at hn
      cases hn
    have hz2 := (hA2.r z hzm).l
    have ht2 : H2 t = some (.tup (av x)) := c2 _ _ (s1 _ _ ht) (.inl fun xs q => by cases q)
    have hzn : z.1 ≠ b := by simpa using izb
    have c02 : Ch [b] H H2 := (Ch.of s1).tr c2
    walk_at "go"
    refine ⟨by rw [List.length_map, sizeLine_eq]; omega, Int.natCast_nonneg _, by omega, ?_⟩
    have hw : (L2.upd H2 z.1 (.lst ((z.2.map fun q => V.ref q.1).take ((kk : Nat) : Int).toNat ++ [V.ref t] ++ (z.2.map fun q => V.ref q.1).drop ((kk : Nat) : Int).toNat))) z.1 = some (.lst ((insA z.2 kk (t, x)).map fun q => V.ref q.1)) := by
      rw [upd_same, Int.toNat_natCast, insA_map]
      unfold insA
      rw [List.append_assoc]
      rfl
    have cz : Ch [z.1] H2 (L2.upd H2 z.1 (.lst ((z.2.map fun q => V.ref q.1).take ((kk : Nat) : Int).toNat ++ [V.ref t] ++ (z.2.map fun q => V.ref q.1).drop ((kk : Nat) : Int).toNat))) := .upd hz2
    have hB3 := hB2.upd (o := .lst ((z.2.map fun q => V.ref q.1).take ((kk : Nat) : Int).toNat ++ [V.ref t] ++ (z.2.map fun q => V.ref q.1).drop ((kk : Nat) : Int).toNat)) hzn hzb2
    have c3 : Ch [b] H (L2.upd H2 z.1 (.lst ((z.2.map fun q => V.ref q.1).take ((kk : Nat) : Int).toNat ++ [V.ref t] ++ (z.2.map fun q => V.ref q.1).drop ((kk : Nat) : Int).toNat))) := c02.new hzH
    generalize (L2.upd H2 z.1 (.lst ((z.2.map fun q => V.ref q.1).take ((kk : Nat) : Int).toNat ++ [V.ref t] ++ (z.2.map fun q => V.ref q.1).drop ((kk : Nat) : Int).toNat))) = H3 at hw cz hB3 c3 ⊢
    have hrow : RowA H3 z.1 (insA z.2 kk (t, x)) := by
      refine ⟨hw, fun q hq => ?_⟩
      unfold insA at hq
      rcases List.mem_append.mp hq with h | h
      · exact cz _ _ ((hA2.r z hzm).t q (List.mem_of_mem_take h)) (.inl fun xs q => by cases q)
      · rcases List.mem_cons.mp h with rfl | h
        · exact cz _ _ ht2 (.inl fun xs q => by cases q)
        · exact cz _ _ ((hA2.r z hzm).t q (List.mem_of_mem_drop h)) (.inl fun xs q => by cases q)
    walk_at "go"
    refine k A' (rs'.set i (z.1, insA z.2 kk (t, x))) kk (z.2.map (·.2)) H3 hAn (fun r hr => ?_) (hA2.put hz hnd cz hrow) ?_ (by rw [List.length_map]; omega) ?_ hB3 c3
    · obtain ⟨j, hj, e⟩ := List.mem_iff_getElem.mp hr
      by_cases eij : i = j
      · subst eij
        rw [List.getElem_set_self] at e
        rw [← e]
        exact hzH
      · rw [List.getElem_set_ne eij] at e
        rw [← e]
        exact hrn _ (List.getElem_mem _)
    · rw [dat_snd, ← hm, ← dat_snd]
      unfold dat
      rw [List.getElem?_map, hz]
      rfl
    · rw [dat_snd rs, ← hm, ← dat_snd]
      unfold dat
      rw [List.map_set, insA_map]
end
end
section
set_option Elab.async false
set_option linter.all false
set_option maxRecDepth 100000
set_option maxHeartbeats 4000000
open PySem PySem.Spec PyProof.Rows L2 NSet

local macro_rules | `(tactic| walk_at "side") => `(tactic| exact .inl (by assumption))
local macro_rules | `(tactic| walk_at "go1") => `(tactic| (with_reducible refine iGTup (by assumption) rfl ?_))
local macro_rules | `(tactic| walk_at "go1") => `(tactic| (with_reducible refine iGCons ?_))
local macro_rules | `(tactic| walk_at "go1") => `(tactic| (with_reducible refine iGNil ?_))
local macro_rules | `(tactic| walk_at "go1") => `(tactic| (with_reducible refine iMakeV ?_))
local macro_rules | `(tactic| walk_at "go1") => `(tactic| (with_reducible refine iMakeD ?_))
local macro_rules | `(tactic| walk_at "go1") => `(tactic| (with_reducible refine iLc2S ?_))
local macro_rules | `(tactic| walk_at "go1") => `(tactic| (with_reducible refine iLc2L ?_))
local macro_rules | `(tactic| walk_at "go1") => `(tactic| (with_reducible refine iIStr ?_))
local macro_rules | `(tactic| walk_at "go1") => `(tactic| (with_reducible refine iIxI ?_))
local macro_rules | `(tactic| walk_at "go1") => `(tactic| (with_reducible refine iCMeth ?_))

section
variable {P : Program} {w : World} {K : PySem.W.Frag} {mg : Str → Option Value} {base : Heap} {a : Ad} {d : Fd}
abbrev rLenS (K : PySem.W.Frag) : List V → Hp → VK → Prop := fun xs H Q => ∃ p ys, xs = [V.ref p] ∧ (SqL K H p ys ∨ SqT K H p ys) ∧ Q (.int ys.length) H
theorem pi_listK {X : Cx} {K : PySem.W.Frag} {tg : Expr} {l : Expr} {tl : TE} (hl : PE X l tl) (hK : X.K = K := by rfl) : PI X tg l (iList K tl) := by
  subst hK
  exact pi_list hl
theorem blkOk_nest {N : List Str} {own : List (Str × Nat)} {scope scope2 : Scope} {cl : List (Str × Addr)} {C : Addr} {env : Env} (sc : Scope) (e : env.scope = sc) (h : blkC N (relS scope sc) scope2 own = true) : BlkOk N (compEnvC scope cl C env).scope scope2 own := by
  subst e
  exact blkOk_by h
local macro_rules | `(tactic| walk_at "go1") => `(tactic| ((with_reducible apply iLs); (walk_at "lk")))
theorem al2 (a b : Str) : (a ++ b).length = a.length + b.length := by
  show (a.cps ++ b.cps).size = _
  rw [Array.size_append]
  rfl
theorem sl4 {n : Nat} (h : n ≤ 4000) : n ≤ sizeLine := by rw [sizeLine_eq]; omega
theorem e0l : Str.empty.length = 0 := by decide +kernel
theorem emp_S : (Str.empty : Str) = S [] := by decide +kernel
def PostE (B b : Addr) (E : XK) (H1 : Hp) : VK := fun v H2 => v = .non ∧ ∃ (d : Addr) (fs : List (Str × V)), H2 b = some (exo b B (some d)) ∧ H2 d = some (exd d fs) ∧ H1 d = none ∧ E (.ref B) (some d) (upd (del H2 b) d (.xd fs))
theorem raise1 {B b : Addr} {H0 H1 : Hp} {E : XK} {f : Str} {y : V} (hb : H1 b = none) (s : Same H0 H1) (k : ∀ d H', H0 d = none → H' d = some (.xd [(f, y)]) → Same H0 H' → E (.ref B) (some d) H') :
    ∀ dx, (upd H1 b (exo b B none)) dx = none → dx ≠ b → PostE B b E H1 .non (upd (upd (upd H1 b (exo b B none)) dx (exd dx [(f, y)])) b (exo b B (some dx))) := by
  intro d hd hn
  refine ⟨rfl, d, [(f, y)], upd_same, ?_, ?_, ?_⟩
  · rw [upd_ne hn, upd_same]
  · rw [upd_ne hn] at hd
    exact hd
  · have h1 : H1 d = none := by
      rw [upd_ne hn] at hd
      exact hd
    exact k d _ (L2.Same.free s h1) upd_same (Vk.Same.trans s (kp_exc hb hd hn))
def spErrI (C : Addr) (f : Str) : Sp := fun vs H Q _ => ∃ (a : Addr) (k : Int), vs = [.ref a, .int k] ∧ -1 ≤ k ∧ k ≤ 100 ∧ H a = some (exo a C none) ∧
  ∀ dx, H dx = none → dx ≠ a → Q .non (upd (upd H dx (exd dx [(f, .int k)])) a (exo a C (some dx)))
abbrev sEBadTable : Stmt := inClass (top 6) 0
theorem scBadTable : SScope ["self", "place"] (defScope sEBadTable) := ⟨rfl, rfl, rfl, by decide +kernel, by decide +kernel, by decide +kernel, fun x h => (show ∀ y ∈ (defScope sEBadTable).names, y.2 = .free → y.1 = "__class__" by decide +kernel) _ (PySem.mem_of_lookup h) rfl, by decide +kernel, by decide +kernel⟩
theorem ok_eBadTable {f C cc cda : Addr} {dV kV doc pm ct oc : Value} {an od : Option Addr} {osl : Array (Option Value)} (T : SupC P K mg C cc cda) (hp : PySem.W.findIn K (.ref C) "place" = some none)
    (lk : K.lookup f = some ⟨oc, od, .func (PySem.W.ksFn "__init__" "BadTable.__init__" (defArgs sEBadTable) (defBody sEBadTable) (defScope sEBadTable) dV kV doc pm an (.ref cda) ct cc), osl⟩) (hcd : PySem.W.codeIn K (.ref cda) "BadTable.__init__" = true) :
    FnOk P w K mg base CX0 1 f (PySem.W.ksFn "__init__" "BadTable.__init__" (defArgs sEBadTable) (defBody sEBadTable) (defScope sEBadTable) dV kV doc pm an (.ref cda) ct cc) ["self", "place"] (spErrI C "place") := by
  refine fn_super (self := "self") (N' := ["place"]) T lk hcd scBadTable rfl rfl rfl rfl (fun _ => rfl) (fun _ => rfl) (fun vs H Q E h => ?_) (fun A outer s H vs Q E hr h => ?_)
  · obtain ⟨a, z, rfl, _⟩ := h
    rfl
  · obtain ⟨a, z, rfl, hz1, hz2, ha, k⟩ := h
    refine ⟨_, _, pe_joined (.cons pe_str (.cons (pe_fmt (pv 1)) .nil)), pss_one (ps_ost (pv 0) (pv 1)), ⟨a, rfl, ha⟩, ?_⟩
    have f1 : ∀ i : Fin 128, (((i.val : Nat) : Int) - 1).natAbs.log2 < 1920 := by decide +kernel
    have f2 : ∀ i : Fin 128, (Str.empty ++ PySem.Str.ofString "wrong table, at place " ++ PySem.Str.ofString (toString (((i.val : Nat) : Int) - 1))).length ≤ 4000 := by decide +kernel
    have ez : z = (((z + 1).toNat : Nat) : Int) - 1 := by omega
    have g1 : z.natAbs.log2 < 1920 := by
      rw [ez]
      exact f1 ⟨(z + 1).toNat, by omega⟩
    have g2 : (Str.empty ++ PySem.Str.ofString "wrong table, at place " ++ PySem.Str.ofString (toString z)).length ≤ 4000 := by
      rw [ez]
      exact f2 ⟨(z + 1).toNat, by omega⟩
    refine ⟨_, rfl, sl4 ?_, _, rfl, .inr ⟨z, rfl, g1, _, rfl, sl4 g2, ⟨a, rfl, ha⟩, ?_⟩⟩
    · decide +kernel
    · exact ⟨_, rfl, _, rfl, a, C, rfl, T.oex, hp, .inl ⟨ha, fun dx hd hn => k dx hd hn⟩⟩
/-! k08: Machine -/
theorem scIsSign : FnScope ["self", "text"] ["self", "text"] (defScope sIsSign) := ⟨rfl, rfl, rfl, by decide +kernel, rfl, by decide +kernel, by decide +kernel⟩
def spIsSignG (a : Ad) : Sp := fun vs H Q _ => ∃ (al : Addr) (t sg W : List Nat), vs = [.ref al, .str (S t)] ∧ AlG a.cAlphabet H al sg W ∧ t.length ≤ 4000 ∧ Q (.bl (signB sg t)) H
theorem ok_isSignG (T : Fns K mg a d) : FnOk P w K mg base CX0 1 a.aIsSign d.dIsSign ["self", "text"] (spIsSignG a) := by
  have hcl := T.clA
  have hnS := T.nS
  refine T.FIsSign.ok scIsSign (fun vs H Q E h => ?_) (fun cdv A0 outer s H vs Q E hr h => ?_)
  · obtain ⟨al, t, sg, W, rfl, _⟩ := h
    rfl
  · obtain ⟨al, t, sg, W, rfl, hal, ht, k⟩ := h
    obtain ⟨dx, l, v, hal1⟩ := hal.ins
    refine ⟨_, ((pss_one (ps_ret (pe_and (pe_cmpR op_eq (pe_callB call_lenS (by rfl) T.z_len (by decide +kernel) (pa_cons (pv 1) pa_nil)) pe_int (nomark _)) (pe_one (pe_cmpR op_inS (pv 1) (pe_fld (pv 0) rfl) rfl)))))), ?_⟩
    rcases t with _ | ⟨c, _ | ⟨c2, r⟩⟩
    · walk_at "go"
      exact k
    · walk_at "go"
      exact k
    · walk_at "go"
      exact k
def spIsLabel (a : Ad) : Sp := fun vs H Q _ => ∃ (al : Addr) (t sg W : List Nat), vs = [.ref al, .str (S t)] ∧ AlG a.cAlphabet H al sg W ∧ t.length ≤ 4000 ∧ Q (.bl (labB sg t)) H
theorem scIsLabel : FnScope ["alphabet", "sign"] ["alphabet", "sign"] (defScope sIsLabel) := ⟨rfl, rfl, rfl, by decide +kernel, rfl, by decide +kernel, by decide +kernel⟩
theorem ok_isLabel (T : Fns K mg a d) : FnOk P w K mg base CX0 2 a.aIsLabel d.dIsLabel ["alphabet", "sign"] (spIsLabel a) := by
  have GIsSign := ok_isSignG (P := P) (w := w) (base := base) T
  refine T.FIsLabel.ok scIsLabel (fun vs H Q E h => ?_) (fun cdv A0 outer s H vs Q E hr h => ?_)
  · obtain ⟨al, t, sg, W, rfl, _⟩ := h
    rfl
  · obtain ⟨al, t, sg, W, rfl, hal, ht, k⟩ := h
    obtain ⟨dx, l, v, hal1⟩ := hal.ins
    refine ⟨_, ((pss_one (ps_ret (pe_or (pe_cmpR op_eq (pv 1) (pe_strS (l := []) (by decide +kernel)) (nomark _)) (pe_one (pe_meth (pv 0) T.clA T.mIsSign GIsSign (hr.mono (by decide)) T.bIsSign .nil pass0 (pa_cons (pv 1) pa_nil))))))), ?_⟩
    rcases t with _ | ⟨c, r⟩
    · walk_at "go"
      exact k
    · walk_at "go"
      refine ⟨al, c :: r, sg, W, rfl, hal, ht, ?_⟩
      have e : labB sg (c :: r) = signB sg (c :: r) := by simp [labB]
      rw [← e]
      exact k
def spIsArc (a : Ad) : Sp := fun vs H Q _ => ∃ (al q : Addr) (x : Arc) (sg W : List Nat) (n : Nat), vs = [.ref al, .ref q, .int (n : Nat)] ∧ AlG a.cAlphabet H al sg W ∧ H q = some (.tup (av x)) ∧ Low x ∧ Q (.bl (arcB sg n x)) H
theorem scIsArc : FnScope ["alphabet", "arc", "many", "read", "write", "to"] ["alphabet", "arc", "many"] (defScope sIsArc) := ⟨rfl, rfl, rfl, by decide +kernel, rfl, by decide +kernel, by decide +kernel⟩
theorem ok_isArc (T : Fns K mg a d) : FnOk P w K mg base CX0 3 a.aIsArc d.dIsArc ["alphabet", "arc", "many"] (spIsArc a) := by
  have GIsLabel := ok_isLabel (P := P) (w := w) (base := base) T
  refine T.FIsArc.ok scIsArc (fun vs H Q E h => ?_) (fun cdv A0 outer s H vs Q E hr h => ?_)
  · obtain ⟨al, q, x, sg, W, n, rfl, _⟩ := h
    rfl
  · obtain ⟨al, q, ⟨t1, t2, z⟩, sg, W, n, rfl, hal, hq, hlow, k⟩ := h
    have hl1 := hlow.1
    have hl2 := hlow.2.1
    have hq : H q = some (.tup [.str (S t1), .str (S t2), .int z]) := hq
    refine ⟨_, ((pss_cons (ps_asg (pv 1) (pg_tup rfl (pgs_cons (pg_name (i := 3) scIsArc.nd rfl (Or.inl rfl)) (pgs_cons (pg_name (i := 4) scIsArc.nd rfl (Or.inl rfl)) (pgs_cons (pg_name (i := 5) scIsArc.nd rfl (Or.inl rfl)) pgs_nil)))))
      (pss_one (ps_ret (pe_and (pe_call GIsLabel (hr.mono (by decide)) (by rfl) T.gIsLabel T.FIsLabel.kp T.bIsLabel .nil pass0 (pa_cons (pv 0) (pa_cons (pv 3) pa_nil))) (pe_and (pe_call GIsLabel (hr.mono (by decide)) (by rfl) T.gIsLabel T.FIsLabel.kp T.bIsLabel .nil pass0 (pa_cons (pv 0) (pa_cons (pv 4) pa_nil))) (pe_one (pe_chain op_le op_lt pe_int (pv 5) (pv 2))))))))), ?_⟩
    have hl1 : t1.length ≤ 10 := hl1
    have hl2 : t2.length ≤ 10 := hl2
    have ea : arcB sg n (t1, t2, z) = (labB sg t1 && labB sg t2 && decide (0 ≤ z ∧ z < n)) := rfl
    rw [ea] at k
    walk_at "go"
    refine ⟨al, t1, sg, W, rfl, hal, by omega, ⟨_, rfl, ?_⟩⟩
    cases h1 : labB sg t1 with
    | false =>
      rw [h1] at k
      walk_at "go"
      exact k
    | true =>
      rw [h1] at k
      walk_at "go"
      refine ⟨al, t2, sg, W, rfl, hal, by omega, ⟨_, rfl, ?_⟩⟩
      cases h2 : labB sg t2 with
      | false =>
        rw [h2] at k
        walk_at "go"
        exact k
      | true =>
        rw [h2] at k
        walk_at "go"
        refine ⟨.int z, rfl, 0, z, rfl, rfl, _, rfl, ?_⟩
        by_cases h3 : 0 ≤ z
        · rw [decide_eq_true h3, if_pos rfl]
          refine ⟨.int (n : Nat), rfl, z, n, rfl, rfl, ?_⟩
          have e : decide (0 ≤ z ∧ z < (n : Int)) = decide (z < (n : Int)) := by simp [h3]
          rw [e] at k
          exact k
        · rw [decide_eq_false h3, if_neg Bool.false_ne_true]
          have e : decide (0 ≤ z ∧ z < (n : Int)) = false := decide_eq_false fun h => h3 h.1
          rw [e] at k
          exact k
def spCkLen (a : Ad) : Sp := fun vs H Q E => ∃ (A G : Addr) (xs ys : List V), vs = [.ref A, .ref G] ∧ H A = some (.lst xs) ∧ H G = some (.lst ys) ∧ (xs ≠ [] → xs.length = ys.length → Q .non H) ∧
  ((xs = [] ∨ xs.length ≠ ys.length) → ∀ dd H', H dd = none → H' dd = some (.xd [("place", .int (-1))]) → Same H H' → E (.ref a.cBadTable) (some dd) H')
theorem scCkLen : FnScope ["rows", "goods"] ["rows", "goods"] (defScope sCkLen) := ⟨rfl, rfl, rfl, by decide +kernel, rfl, by decide +kernel, by decide +kernel⟩
theorem ok_ckLen (T : Fns K mg a d) (GBadTable : FnOk P w K mg base CX0 1 a.eBadTable d.eBadTable ["self", "place"] (spErrI a.cBadTable "place")) : FnOk P w K mg base (L2.CX P w) 3 a.aCkLen d.dCkLen ["rows", "goods"] (spCkLen a) := by
  refine T.FCkLen.okX scCkLen (fun vs H Q E h => ?_) (fun cdv A0 outer s H vs Q E hr h => ?_)
  · obtain ⟨A, G, xs, ys, rfl, _⟩ := h
    rfl
  · obtain ⟨A, G, xs, ys, rfl, hA, hG, k1, k⟩ := h
    refine ⟨_, ((pss_one (ps_if (PW.pt (pw_or (pt_cmpR op_eq (pe_callB call_len_seq (by rfl) T.z_len (by decide +kernel) (pa_cons (pv 0) pa_nil)) pe_int (nomark _)) (pw_or1 (pt_cmpR op_ne (pe_callB call_len_seq (by rfl) T.z_len (by decide +kernel) (pa_cons (pv 0) pa_nil)) (pe_callB call_len_seq (by rfl) T.z_len (by decide +kernel) (pa_cons (pv 1) pa_nil)) (nomark _))))) (pss_one (ps_raise rfl (takes_of rfl rfl rfl rfl) (pmk_oex T.xBadTable.ox T.xBadTable.iC T.xBadTable.tI GBadTable (hr.mono (by decide)) T.xBadTable.bB .nil pass0 (by rfl) T.xBadTable.gB (pa_cons (pe_un un_neg pe_int) pa_nil)))) pss_nil))), ?_⟩
    have raise : (xs = [] ∨ xs.length ≠ ys.length) → ∀ b, H b = none → spErrI a.cBadTable "place" [.ref b, .int (-1)] (L2.upd H b (exo b a.cBadTable none)) (PostE a.cBadTable b E H) E0 := fun hx b hb => ⟨b, -1, rfl, by decide, by decide, upd_same, raise1 hb (fun _ _ z => z) fun dd H' h1 h2 h3 => k hx dd H' h1 h2 h3⟩
    walk_at "go"
    · rename_i h1
      exact ⟨1, rfl, by show 1 ≤ 1000; decide, raise (.inl (List.eq_nil_of_length_eq_zero (by omega)))⟩
    · rename_i h1 h2
      exact ⟨1, rfl, by show 1 ≤ 1000; decide, raise (.inr (by omega))⟩
    · rename_i h1 h2
      exact k1 (fun e => h1 (by rw [e]; rfl)) (by omega)
def spMLen (a : Ad) : Sp := fun vs H Q _ => ∃ (mm dx A : Addr) (fs : List (Str × V)) (xs : List V), vs = [.ref mm] ∧ H mm = some (.ins a.cMachine dx fs) ∧ fs.lookup ("arcs" : Str) = some (V.ref A) ∧ H A = some (.lst xs) ∧ Q (.int (xs.length : Nat)) H
theorem scMLen : FnScope ["self"] ["self"] (defScope sMLen) := ⟨rfl, rfl, rfl, by decide +kernel, rfl, by decide +kernel, by decide +kernel⟩
theorem ok_mLen (T : Fns K mg a d) : FnOk P w K mg base CX0 1 a.aMLen d.dMLen ["self"] (spMLen a) := by
  refine T.FMLen.ok scMLen (fun vs H Q E h => ?_) (fun cdv A0 outer s H vs Q E hr h => ?_)
  · obtain ⟨mm, dx, A, fs, xs, rfl, _⟩ := h
    rfl
  · obtain ⟨mm, dx, A, fs, xs, rfl, hm, hf, hA, k⟩ := h
    have clM := T.clM
    have nMr := T.nMr
    refine ⟨_, ((pss_one (ps_ret (pe_callB call_len_seq (by rfl) T.z_len (by decide +kernel) (pa_cons (pe_fld (pv 0) rfl) pa_nil))))), ?_⟩
    walk_at "go"
    exact k
/-- no row but good ones -/
def RowG (sg : List Nat) (n : Nat) (y : List Arc) : Prop := ∀ x ∈ y, arcB sg n x = true
theorem RowA.kp {H H' : Hp} {mm C dx p : Addr} {fs : List (Str × V)} {qs : List (Addr × Arc)} (h : RowA H p qs) (hm : H mm = some (.ins C dx fs)) (s : Kp mm H H') : RowA H' p qs := ⟨s _ _ (fun e => by have := h.l; rw [e, hm] at this; cases this) h.l, fun q hq => s _ _ (fun e => by have := h.t q hq; rw [e, hm] at this; cases this) (h.t q hq)⟩
theorem RowsA.kp {H H' : Hp} {mm C dx A : Addr} {fs : List (Str × V)} {rs : Rws} (h : RowsA H A rs) (hm : H mm = some (.ins C dx fs)) (s : Kp mm H H') : RowsA H' A rs := ⟨s _ _ (fun e => by have := h.l; rw [e, hm] at this; cases this) h.l, fun r hr => (h.r r hr).kp hm s⟩
theorem dat_snoc (rs : Rws) (p : Addr) (qs : List (Addr × Arc)) : dat (rs ++ [(p, qs)]) = dat rs ++ [qs.map (·.2)] := by
  unfold dat
  rw [List.map_append]
  rfl
theorem Kp.of {b : Addr} {H H' : Hp} (s : Same H H') : Kp b H H' := fun c o _ h => s c o h
def spMInit (a : Ad) : Sp := fun vs H Q E => ∃ (mm al A G dx : Addr) (sg W : List Nat) (rs : Rws) (bs : List Bool), vs = [.ref mm, .ref al, .ref A, .ref G] ∧ H mm = some (.ins a.cMachine dx []) ∧ AlG a.cAlphabet H al sg W ∧ RowsA H A rs ∧ Few rs ∧ H G = some (.lst (bs.map V.bl)) ∧ (∀ y ∈ dat rs, ∀ x ∈ y, Low x) ∧
  (rs ≠ [] → rs.length = bs.length → (∀ y ∈ dat rs, RowG sg rs.length y) →
    ∀ (A' G' : Addr) (rs' : Rws) (H' : Hp), H A' = none → H G' = none → A' ≠ G' → (∀ r ∈ rs', H r.1 = none) → Kp mm H H' → H' mm = some (.ins a.cMachine dx [("alphabet", .ref al), ("arcs", .ref A'), ("goods", .ref G')]) → RowsA H' A' rs' → dat rs' = dat rs → H' G' = some (.lst (bs.map V.bl)) → Q .non H') ∧
  ((rs = [] ∨ rs.length ≠ bs.length) → ∀ dd H', H dd = none → H' dd = some (.xd [("place", .int (-1))]) → Same H H' → E (.ref a.cBadTable) (some dd) H') ∧
  (rs ≠ [] → rs.length = bs.length → ∀ (i : Nat) (y : List Arc), (dat rs)[i]? = some y → ¬ RowG sg rs.length y → (∀ j, j < i → ∀ y', (dat rs)[j]? = some y' → RowG sg rs.length y') →
    ∀ dd H', H dd = none → H' dd = some (.xd [("place", .int (i : Nat))]) → Same H H' → E (.ref a.cBadTable) (some dd) H')
theorem scMInit : FnScope ["self", "alphabet", "arcs", "goods", "place", "row", "arc", "read", "write", "to"] ["self", "alphabet", "arcs", "goods"] (defScope sMInit) := ⟨rfl, rfl, rfl, by decide +kernel, rfl, by decide +kernel, by decide +kernel⟩
theorem ok_mInit (T : Fns K mg a d) (GBadTable : FnOk P w K mg base CX0 1 a.eBadTable d.eBadTable ["self", "place"] (spErrI a.cBadTable "place")) : FnOk P w K mg base (L2.CX P w) 5 a.aMInit d.dMInit ["self", "alphabet", "arcs", "goods"] (spMInit a) := by
  have GCkLen := ok_ckLen (P := P) (w := w) (base := base) T GBadTable
  have GIsArc := ok_isArc (P := P) (w := w) (base := base) T
  refine T.FMInit.okX scMInit (fun vs H Q E h => ?_) (fun cdv A0 outer s H vs Q E hr h => ?_)
  · obtain ⟨mm, al, A, G, dx, sg, W, rs, bs, rfl, _⟩ := h
    rfl
  · obtain ⟨mm, al, A, G, dx, sg, W, rs, bs, rfl, hm, hal, hA, hf, hG, hlow, kQ, kL, kB⟩ := h
    have clM := T.clM
    have nMa := T.nMa
    have nMr := T.nMr
    have nMg := T.nMg
    have hAl := hA.l
    have hfn := hf.n
    refine ⟨_, ((pss_cons (ps_expr (pe_call GCkLen (hr.mono (by decide)) (by rfl) T.gCkLen T.FCkLen.kp T.bCkLen .nil (passes_call (takes_of rfl rfl rfl rfl) (fun _ _ _ _ h => h)) (pa_cons (pv 2) (pa_cons (pv 3) pa_nil))))
      (pss_cons (ps_for (passes_of rfl) rfl (pi_enum (by rfl) T.z_enum (pa_cons (pv 2) pa_nil)) (pg_tup rfl (pgs_cons (pg_name (i := 4) scMInit.nd rfl (Or.inl rfl)) (pgs_cons (pg_name (i := 5) scMInit.nd rfl (Or.inl rfl)) pgs_nil))) (pss_one (ps_if (pt_not (pt_val (pe_callB (cr_all rfl) (by rfl) T.z_all (by decide +kernel) (pa_cons (pe_lc (own := [("arc", 6)]) (g := gName 6) (by rfl) scMInit.nd (pi_list (pv 5)) (blkOk_by (own := [("arc", 6)]) (N := ["self", "alphabet", "arcs", "goods", "place", "row", "arc", "read", "write", "to"]) (sc := defScope sMInit) (by decide +kernel)) (fun _ _ _ _ _ => pg_name (i := 6) scMInit.nd rfl (Or.inl rfl)) (fun _ _ _ _ _ => pts_nil) (fun _ _ _ _ _ => (pe_call GIsArc (hr.mono (by decide)) (by rfl) T.gIsArc T.FIsArc.kp T.bIsArc .nil pass0 (pa_cons (pv 1) (pa_cons (pv 6) (pa_cons (pe_callB (id := "len") (r := rLenS K) call_len_seq (by rfl) T.z_len (by decide +kernel) (pa_cons (pv 2) pa_nil)) pa_nil)))))) pa_nil)))) (pss_one (ps_raise rfl (takes_of rfl rfl rfl rfl) (pmk_oex T.xBadTable.ox T.xBadTable.iC T.xBadTable.tI GBadTable (hr.mono (by decide)) T.xBadTable.bB .nil pass0 (by rfl) T.xBadTable.gB (pa_cons (pv 4) pa_nil)))) pss_nil)))
      (pss_cons (ps_fld (pv 0) (pv 1) rfl)
      (pss_cons (ps_fld (pv 0) (pe_lc (own := [("row", 5)]) (g := gName 5) (by rfl) scMInit.nd (pi_list (pv 2)) (blkOk_by (own := [("row", 5)]) (N := ["self", "alphabet", "arcs", "goods", "place", "row", "arc", "read", "write", "to"]) (sc := defScope sMInit) (by decide +kernel)) (fun _ _ _ _ _ => pg_name (i := 5) scMInit.nd rfl (Or.inl rfl)) (fun _ _ _ _ _ => pts_nil) (fun _ _ _ _ _ => (pe_lc (own := [("read", 7), ("write", 8), ("to", 9)]) (g := (gTup K 3 (gCons (gName 7) (gCons (gName 8) (gCons (gName 9) gNil))))) (by rfl) scMInit.nd (pi_listK (K := K) (pv 5)) (blkOk_nest (own := [("read", 7), ("write", 8), ("to", 9)]) (N := ["self", "alphabet", "arcs", "goods", "place", "row", "arc", "read", "write", "to"]) (defScope sMInit) rfl (by decide +kernel)) (fun _ _ _ _ _ => (pg_tup rfl (pgs_cons (pg_name (i := 7) scMInit.nd rfl (Or.inl rfl)) (pgs_cons (pg_name (i := 8) scMInit.nd rfl (Or.inl rfl)) (pgs_cons (pg_name (i := 9) scMInit.nd rfl (Or.inl rfl)) pgs_nil))))) (fun _ _ _ _ _ => pts_nil) (fun _ _ _ _ _ => (pe_tup (pa_cons (pv 7) (pa_cons (pv 8) (pa_cons (pv 9) pa_nil)))))))) rfl)
      (pss_one (ps_fld (pv 0) (pe_callTy call_list_of (by rfl) T.z_list (by decide +kernel) (pa_cons (pv 3) pa_nil)) rfl))))))), ?_⟩
    walk_at "go"
    refine ⟨A, G, _, _, rfl, hAl, hG, fun hne hlen => ?_, fun hx => kL ?_⟩
    rotate_left
    · rcases hx with hx | hx
      · exact .inl (List.map_eq_nil_iff.mp hx)
      · exact .inr (by rwa [List.length_map, List.length_map] at hx)
    have hne : rs ≠ [] := fun e => hne (by rw [e]; rfl)
    have hlen : rs.length = bs.length := by rwa [List.length_map, List.length_map] at hlen
    refine ⟨_, rfl, A, _, rfl, SqL.of hAl, for_it (walk_enum (K := K) (a := A) (xs := rs.map fun r => V.ref r.1)) (fun i σ H' => Stop (∃ (v4 v5 : Option V), σ = [some (.ref mm), some (.ref al), some (.ref A), some (.ref G), v4, v5, none, none, none, none] ∧ Same H H' ∧ ∀ j, j < i → ∀ y', (dat rs)[j]? = some y' → RowG sg rs.length y')) ⟨none, none, rfl, fun _ _ h => h, fun j h => nomatch h⟩ (fun i σ H' _ hP => ?_) ?_ ?_⟩
    · obtain ⟨v4, v5, rfl, s, _⟩ := hP
      exact SqL.of (s _ _ hAl)
    · rintro i x σ H4 H5 hi ⟨v4, v5, rfl, s, hpre⟩ ⟨Tp, x1, y1, rfl, hTp, rfl, hx1, hy1⟩
      cases hx1
      have hy1 : (rs.map fun r => V.ref r.1)[i]? = some y1 := hy1
      rw [List.getElem?_map] at hy1
      obtain ⟨r, hr, rfl⟩ := Option.map_eq_some_iff.mp hy1
      have hrm := List.mem_of_getElem? hr
      have hil := (List.getElem?_eq_some_iff.mp hr).1
      have s5 := Vk.Same.trans s (Same.upd_new (o := .tup [.int (i : Nat), .ref r.1]) hTp)
      have hT5 : (upd H4 Tp (.tup [.int (i : Nat), .ref r.1])) Tp = some (.tup [.int (i : Nat), .ref r.1]) := upd_same
      generalize upd H4 Tp (.tup [.int (i : Nat), .ref r.1]) = H5 at s5 hT5 ⊢
      have hrow := (hA.r r hrm).same s5
      have hrl := hrow.l
      have hA5 := s5 _ _ hAl
      have hdi : (dat rs)[i]? = some (r.2.map (·.2)) := by
        unfold dat
        rw [List.getElem?_map, hr]
        rfl
      have hrn := hf.r r hrm
      walk_at "go"
      rename_i D hD
      refine lcg_L (fun j H' => Stop (H' D = some (.lst ((r.2.take j).map fun q => V.bl (arcB sg rs.length q.2))) ∧ Same H5 H')) ⟨upd_same, Same.upd_new hD⟩ (fun _ => rfl) (fun j H' _ h => SqL.of (h.2 _ _ hrl)) (fun j x H6 hj hP => ?_) (fun H6 hP => ?_)
      · obtain ⟨h6, s6⟩ := hP
        rw [List.getElem?_map] at hj
        obtain ⟨q, hq, rfl⟩ := Option.map_eq_some_iff.mp hj
        have hqm := List.mem_of_getElem? hq
        have hjl := (List.getElem?_eq_some_iff.mp hq).1
        have hq6 := s6 _ _ (hrow.t q hqm)
        have hal6 := hal.same (TL.tr s5 s6)
        have hA6 := s6 _ _ hA5
        have hlo : Low q.2 := hlow _ (List.mem_of_getElem? hdi) _ (List.mem_map.mpr ⟨q, hqm, rfl⟩)
        walk_at "go"
        refine ⟨al, q.1, q.2, sg, W, rs.length, by rw [List.length_map], hal6, hq6, hlo, ?_⟩
        refine ⟨_, h6, by rw [List.length_map, List.length_take, sizeLine_eq]; omega, ?_, fun c o hc => ?_⟩
        · rw [upd_same, List.take_add_one, hq, List.map_append]
          rfl
        · rw [upd_ne (fun z => by rw [z, hD] at hc; cases hc)]
          exact s6 _ _ hc
      · obtain ⟨h6, s6⟩ := hP
        rw [List.length_map, List.take_length] at h6
        have s06 := TL.tr s5 s6
        refine ⟨D, r.2.map (fun q => arcB sg rs.length q.2), rfl, SqL.of (by rw [h6, List.map_map]; rfl), ?_⟩
        by_cases hg : RowG sg rs.length (r.2.map (·.2))
        · have e : (r.2.map fun q => arcB sg rs.length q.2).all id = true := by
            rw [List.all_map, List.all_eq_true]
            exact fun q hq => hg q.2 (List.mem_map.mpr ⟨q, hq, rfl⟩)
          rw [e]
          walk_at "go"
          refine ⟨_, _, rfl, s06, fun j hj y' hy' => ?_⟩
          by_cases ej : j = i
          · subst ej
            rw [hdi] at hy'
            cases hy'
            exact hg
          · exact hpre j (by omega) y' hy'
        · have e : (r.2.map fun q => arcB sg rs.length q.2).all id = false := by
            rw [Bool.eq_false_iff]
            intro h
            rw [List.all_map, List.all_eq_true] at h
            refine hg fun x hx => ?_
            obtain ⟨q, hq, rfl⟩ := List.mem_map.mp hx
            exact h q hq
          rw [e]
          walk_at "go"
          exact ⟨.int (i : Nat), rfl, by show 1 ≤ 1000; decide, fun b hb => ⟨b, i, rfl, by omega, by omega, upd_same, raise1 hb s06 fun dd H' h1 h2 h3 => kB hne hlen i _ hdi hg hpre dd H' h1 h2 h3⟩⟩
    · rintro σ H4 ⟨v4, v5, rfl, s, hpre⟩
      rw [List.length_map] at hpre
      have hall : ∀ y ∈ dat rs, RowG sg rs.length y := fun y hy => by
        obtain ⟨j, hj, e⟩ := List.mem_iff_getElem.mp hy
        refine hpre j (by unfold dat at hj; rwa [List.length_map] at hj) y ?_
        rw [List.getElem?_eq_getElem hj, e]
      have hm4 := s _ _ hm
      walk_at "go"
      have n1 : putF "alphabet" (V.ref al) [] = ([("alphabet", V.ref al)] : List (Str × V)) := rfl
      rw [n1]
      have hm5 : (upd H4 mm (.ins a.cMachine dx [("alphabet", .ref al)])) mm = some (.ins a.cMachine dx [("alphabet", .ref al)]) := upd_same
      have kp5 : Kp mm H (upd H4 mm (.ins a.cMachine dx [("alphabet", .ref al)])) := fun c o hc e => by
        rw [upd_ne hc]
        exact s _ _ e
      generalize upd H4 mm (.ins a.cMachine dx [("alphabet", .ref al)]) = H5 at hm5 kp5 ⊢
      have hA5 := hA.kp hm kp5
      have hA5l := hA5.l
      have hG5 : H5 G = some (.lst (bs.map V.bl)) := kp5 _ _ (fun e => by rw [e, hm] at hG; cases hG) hG
      refine ⟨⟨_, SqL.of hA5l⟩, fun D hD => ?_⟩
      refine lcg_L (fun i H' => Stop (∃ rs' : Rws, RowsA H' D rs' ∧ dat rs' = (dat rs).take i ∧ (∀ r ∈ rs', H5 r.1 = none ∧ r.1 ≠ D) ∧ Same H5 H')) ⟨[], ⟨upd_same, fun r h => nomatch h⟩, rfl, (fun r h => nomatch h), Same.upd_new hD⟩ (fun _ => rfl) (fun i H' _ h => SqL.of (by obtain ⟨_, _, _, _, s⟩ := h; exact s _ _ hA5l)) (fun i x H6 hi hP => ?_) (fun H6 hP => ?_)
      · obtain ⟨rs', hR, hdt, hn, s6⟩ := hP
        rw [List.getElem?_map] at hi
        obtain ⟨r, hr, rfl⟩ := Option.map_eq_some_iff.mp hi
        have hrm := List.mem_of_getElem? hr
        have hil := (List.getElem?_eq_some_iff.mp hr).1
        have hrow := (hA5.r r hrm).same s6
        have hrl := hrow.l
        have hrn := hf.r r hrm
        have hml := congrArg List.length hdt
        have hdi : (dat rs)[i]? = some (r.2.map (·.2)) := by
          unfold dat
          rw [List.getElem?_map, hr]
          rfl
        have hml2 : rs'.length ≤ i := by
          unfold dat at hml
          rw [List.length_map, List.length_take] at hml
          omega
        walk_at "go"
        rename_i D2 hD2
        have nD2 : D2 ≠ D := (ne_of_none hR.l hD2).symm
        have hD2H : H5 D2 = none := same_nn s6 hD2
        refine lc_list (K := K) (a := r.1) (xs := r.2.map fun q => V.ref q.1) (fun j H' => Stop (∃ qs : List (Addr × Arc), RowA H' D2 qs ∧ qs.map (·.2) = (r.2.take j).map (·.2) ∧ Same H6 H')) ⟨[], ⟨upd_same, fun q h => nomatch h⟩, rfl, Same.upd_new hD2⟩ (fun j H' _ h => SqL.of (by obtain ⟨_, _, _, s⟩ := h; exact s _ _ hrl)) ?_ ?_
        · rintro j x H7 hj ⟨qs, hQ, hqm, s7⟩
          rw [List.getElem?_map] at hj
          obtain ⟨q, hq, rfl⟩ := Option.map_eq_some_iff.mp hj
          have hqr := List.mem_of_getElem? hq
          have hjl := (List.getElem?_eq_some_iff.mp hq).1
          have hql := congrArg List.length hqm
          rw [List.length_map, List.length_map, List.length_take] at hql
          have hq7 : H7 q.1 = some (.tup [.str (S q.2.1), .str (S q.2.2.1), .int q.2.2.2]) := s7 _ _ (hrow.t q hqr)
          walk_at "go"
          rename_i tp htp
          have stp : Same H7 (L2.upd H7 tp (.tup (av q.2))) := TL.new htp
          have hQ8 := hQ.same stp
          have hv : (L2.upd H7 tp (.tup (av q.2))) tp = some (.tup (av q.2)) := upd_same
          show (L2.upd H7 tp (.tup (av q.2))) D2 = _ ∧ _
          change _ ∧ _ ∧ Stop (∃ qs2 : List (Addr × Arc), RowA (L2.upd (L2.upd H7 tp (.tup (av q.2))) D2 _) D2 qs2 ∧ _ ∧ Same H6 (L2.upd (L2.upd H7 tp (.tup (av q.2))) D2 _))
          generalize (L2.upd H7 tp (.tup (av q.2))) = H8 at stp hQ8 hv ⊢
          refine ⟨hQ8.l, by rw [List.length_map, sizeLine_eq]; omega, qs ++ [(tp, q.2)], hQ8.snoc hv, ?_, fun c o hc => ?_⟩
          · rw [List.map_append, hqm, List.take_add_one, hq, List.map_append]
            rfl
          · rw [upd_ne (fun z => by rw [z, hD2] at hc; cases hc)]
            exact stp _ _ (s7 _ _ hc)
        · rintro H7 ⟨qs, hQ, hqm, s7⟩
          rw [List.length_map, List.take_length] at hqm
          have hR7 := hR.same s7
          refine ⟨_, hR7.l, by rw [List.length_map, sizeLine_eq]; omega, rs' ++ [(D2, qs)], hR7.snoc hQ (fun r h => (hn r h).2) nD2, ?_, fun z hz => ?_, fun c o hc => ?_⟩
          · rw [dat_snoc, hdt, hqm, List.take_add_one, hdi]
            rfl
          · rcases List.mem_append.mp hz with h | h
            · exact hn z h
            · rw [List.mem_singleton.mp h]
              exact ⟨hD2H, nD2⟩
          · rw [upd_ne (fun z => by rw [z, hD] at hc; cases hc)]
            exact s7 _ _ (s6 _ _ hc)
      · obtain ⟨rs', hR, hdt, hn, s6⟩ := hP
        have hdt : dat rs' = dat rs := by
          rw [hdt]
          unfold dat
          exact List.take_of_length_le (by rw [List.length_map, List.length_map]; exact Nat.le_refl _)
        have hm6 := s6 _ _ hm5
        have nGm : G ≠ mm := fun e => by rw [e, hm] at hG; cases hG
        have hG6 := s6 _ _ hG5
        walk_at "go"
        rename_i p hp
        have n2 : putF "arcs" (V.ref D) [("alphabet", V.ref al)] = ([("alphabet", V.ref al), ("arcs", V.ref D)] : List (Str × V)) := rfl
        have n3 : putF "goods" (V.ref p) [("alphabet", V.ref al), ("arcs", V.ref D)] = ([("alphabet", V.ref al), ("arcs", V.ref D), ("goods", V.ref p)] : List (Str × V)) := rfl
        rw [n2] at hp ⊢
        rw [n3]
        refine ⟨by simp, ?_⟩
        have npm : p ≠ mm := fun e => by rw [e, upd_same] at hp; cases hp
        have hp6 : H6 p = none := by rwa [upd_ne npm] at hp
        have fresh : ∀ x : Addr, H5 x = none → H x = none := fun x hx => by
          cases e : H x with
          | none => rfl
          | some o =>
            by_cases ex : x = mm
            · rw [ex, hm5] at hx
              cases hx
            · rw [kp5 x o ex e] at hx
              cases hx
        have k68 : Kp mm H6 (upd (upd (upd H6 mm (.ins a.cMachine dx [("alphabet", V.ref al), ("arcs", V.ref D)])) p (.lst (bs.map V.bl))) mm (.ins a.cMachine dx [("alphabet", V.ref al), ("arcs", V.ref D), ("goods", V.ref p)])) := fun c o hc e => by
          rw [upd_ne hc, upd_ne (fun z => by rw [z, hp6] at e; cases e), upd_ne hc]
          exact e
        refine kQ hne hlen hall D p rs' _ (fresh D hD) (fresh p (same_nn s6 hp6)) (ne_of_none hR.l hp6) (fun r h => fresh _ (hn r h).1) (fun c o hc e => k68 _ _ hc (s6 _ _ (kp5 _ _ hc e))) upd_same (hR.kp hm6 k68) hdt ?_
        rw [upd_ne npm, upd_same]
end
end
section
set_option Elab.async false
set_option linter.all false
set_option maxRecDepth 100000
set_option maxHeartbeats 4000000
open PySem PySem.Spec PyProof.Rows L2 NSet

local macro_rules | `(tactic| walk_at "side") => `(tactic| exact .inl (by assumption))
local macro_rules | `(tactic| walk_at "go1") => `(tactic| (with_reducible refine iGTup (by assumption) rfl ?_))
local macro_rules | `(tactic| walk_at "go1") => `(tactic| (with_reducible refine iGCons ?_))
local macro_rules | `(tactic| walk_at "go1") => `(tactic| (with_reducible refine iGNil ?_))
local macro_rules | `(tactic| walk_at "go1") => `(tactic| (with_reducible refine iMakeV ?_))
local macro_rules | `(tactic| walk_at "go1") => `(tactic| (with_reducible refine iMakeD ?_))
local macro_rules | `(tactic| walk_at "go1") => `(tactic| (with_reducible refine iLc2S ?_))
local macro_rules | `(tactic| walk_at "go1") => `(tactic| (with_reducible refine iLc2L ?_))
local macro_rules | `(tactic| walk_at "go1") => `(tactic| (with_reducible refine iIStr ?_))
local macro_rules | `(tactic| walk_at "go1") => `(tactic| (with_reducible refine iIxI ?_))
local macro_rules | `(tactic| walk_at "go1") => `(tactic| (with_reducible refine iCMeth ?_))

section
variable {P : Program} {w : World} {K : PySem.W.Frag} {mg : Str → Option Value} {base : Heap} {a : Ad} {d : Fd}
theorem isi_lst {K : PySem.W.Frag} {H : Hp} {Q : VK} {p : Addr} {xs : List V} (hp : H p = some (.lst xs)) (h : Q (.bl true) H) : rIsi K [.ref p, .ty "list"] H Q := ⟨_, _, _, _, true, rfl, .ty "list", .base (.lst hp), rfl, h⟩
theorem isi_tup {K : PySem.W.Frag} {H : Hp} {Q : VK} {p : Addr} {xs : List V} (hp : H p = some (.tup xs)) (h : Q (.bl true) H) : rIsi K [.ref p, .ty "tuple"] H Q := ⟨_, _, _, _, true, rfl, .ty "tuple", .base (.tup hp), rfl, h⟩
local macro_rules | `(tactic| walk_at "go1") => `(tactic| ((with_reducible apply isi_lst); (walk_at "lk")))
local macro_rules | `(tactic| walk_at "go1") => `(tactic| ((with_reducible apply isi_tup); (walk_at "lk")))
/-! k08: rows as data; _law_kept -/
def da (x : Arc) : PyData := .tuple [.str (S x.1), .str (S x.2.1), .int x.2.2]
def dl (y : List Arc) : PyData := .list (y.map da)
def dll (z : List (List Arc)) : PyData := .list (z.map dl)
theorem dp_av {K : PySem.W.Frag} {H : Hp} {p : Addr} {x : Arc} (h : H p = some (.tup (av x))) : Dp K H (.ref p) (da x) := .tup (SqT.of h) (.cons (.str _) (.cons (.str _) (.cons (.int _) .nil)))
theorem dp_avs {K : PySem.W.Frag} {H : Hp} : ∀ qs : List (Addr × Arc), (∀ q ∈ qs, H q.1 = some (.tup (av q.2))) → DpAll K H (qs.map fun q => V.ref q.1) ((qs.map (·.2)).map da)
  | [], _ => .nil
  | q :: qs, h => .cons (dp_av (h q List.mem_cons_self)) (dp_avs qs fun z hz => h z (List.mem_cons_of_mem _ hz))
theorem RowA.dp {K : PySem.W.Frag} {H : Hp} {p : Addr} {qs : List (Addr × Arc)} (h : RowA H p qs) : Dp K H (.ref p) (dl (qs.map (·.2))) := .lst (SqL.of h.l) (dp_avs qs h.t)
theorem dp_rowsA {K : PySem.W.Frag} {H : Hp} : ∀ rs : Rws, (∀ r ∈ rs, RowA H r.1 r.2) → DpAll K H (rs.map fun r => V.ref r.1) ((dat rs).map dl)
  | [], _ => .nil
  | r :: rs, h => .cons ((h r List.mem_cons_self).dp) (dp_rowsA rs fun z hz => h z (List.mem_cons_of_mem _ hz))
theorem RowsA.dp {K : PySem.W.Frag} {H : Hp} {A : Addr} {rs : Rws} (h : RowsA H A rs) : Dp K H (.ref A) (dll (dat rs)) := .lst (SqL.of h.l) (dp_rowsA rs h.r)
theorem can_da {x : Arc} (h : Low x) : PyData.canLay0 (da x) = true := by
  have h1 := TL.okT (l := x.1) fun c hc => by have := h.2.2.1 c hc; omega
  have h2 := TL.okT (l := x.2.1) fun c hc => by have := h.2.2.2 c hc; omega
  simp [da, PyData.canLay0, PyData.canLayAll0, h1, h2]
theorem can_das : ∀ y : List Arc, (∀ x ∈ y, Low x) → PyData.canLayAll0 (y.map da) = true
  | [], _ => by simp [PyData.canLayAll0]
  | x :: y, h => by simp [PyData.canLayAll0, can_da (h x List.mem_cons_self), can_das y fun z hz => h z (List.mem_cons_of_mem _ hz)]
theorem can_dls : ∀ z : List (List Arc), (∀ y ∈ z, ∀ x ∈ y, Low x) → PyData.canLayAll0 (z.map dl) = true
  | [], _ => by simp [PyData.canLayAll0]
  | y :: z, h => by simp [PyData.canLayAll0, dl, PyData.canLay0, can_das y (h y List.mem_cons_self), can_dls z fun q hq => h q (List.mem_cons_of_mem _ hq)]
theorem dep_da {x : Arc} : PyData.depth (da x) = 1 := by simp [da, PyData.depth, PyData.depthAll]
theorem dep_das : ∀ y : List Arc, PyData.depthAll (y.map da) ≤ 1
  | [] => by simp [PyData.depthAll]
  | x :: y => by
    have := dep_das y
    simp [PyData.depthAll, dep_da]
    omega
theorem dep_dls : ∀ z : List (List Arc), PyData.depthAll (z.map dl) ≤ 2
  | [] => by simp [PyData.depthAll]
  | y :: z => by
    have h1 := dep_dls z
    have h2 := dep_das y
    simp [PyData.depthAll, dl, PyData.depth]
    omega
theorem shaped_dl {y : List Arc} (h : ∀ x ∈ y, Low x) : SeqAt.shaped (dl y) = true := by
  have := dep_das y
  simp [dl, SeqAt.shaped, PyData.canLay0, PyData.depth, can_das y h]
  omega
theorem shaped_dll {z : List (List Arc)} (h : ∀ y ∈ z, ∀ x ∈ y, Low x) : SeqAt.shaped (dll z) = true := by
  have := dep_dls z
  simp [dll, SeqAt.shaped, PyData.canLay0, PyData.depth, can_dls z h]
  omega
theorem S_eqb (a b : List Nat) : (S a == S b) = decide (a = b) := by
  rw [Bool.eq_iff_iff, beq_iff_eq, decide_eq_true_iff]
  exact ⟨TL.inj, fun h => by rw [h]⟩
theorem eqv_da (a b : Arc) : PyData.eqv (da a) (da b) = decide (a = b) := by
  obtain ⟨a1, a2, a3⟩ := a
  obtain ⟨b1, b2, b3⟩ := b
  have e : (a3 == b3) = decide (a3 = b3) := by rw [Bool.eq_iff_iff, beq_iff_eq, decide_eq_true_iff]
  simp [da, PyData.eqv, PyData.eqvAll, S_eqb, e]
theorem eqv_das : ∀ l m : List Arc, PyData.eqvAll (l.map da) (m.map da) = decide (l = m)
  | [], [] => by simp [PyData.eqvAll]
  | [], _ :: _ => by simp [PyData.eqvAll]
  | _ :: _, [] => by simp [PyData.eqvAll]
  | a :: l, b :: m => by simp [PyData.eqvAll, eqv_da, eqv_das l m]
theorem eqv_dl (l m : List Arc) : PyData.eqv (dl l) (dl m) = decide (l = m) := by
  show PyData.eqvAll _ _ = _
  exact eqv_das l m
theorem eqv_dls : ∀ l m : List (List Arc), PyData.eqvAll (l.map dl) (m.map dl) = decide (l = m)
  | [], [] => by simp [PyData.eqvAll]
  | [], _ :: _ => by simp [PyData.eqvAll]
  | _ :: _, [] => by simp [PyData.eqvAll]
  | a :: l, b :: m => by simp [PyData.eqvAll, eqv_dl, eqv_dls l m]
theorem eqv_dll (l m : List (List Arc)) : PyData.eqv (dll l) (dll m) = decide (l = m) := by
  show PyData.eqvAll _ _ = _
  exact eqv_dls l m
theorem iNeRow {K : PySem.W.Frag} {H : Hp} {Q : VK} {p q : Addr} {l m : List (Addr × Arc)} (h1 : RowA H p l) (h2 : RowA H q m) (c1 : ∀ x ∈ l.map (·.2), Low x) (c2 : ∀ x ∈ m.map (·.2), Low x) (k : Q (.bl (!decide (l.map (·.2) = m.map (·.2)))) H) : rNeD K (.ref p) (.ref q) H Q := by
  refine ⟨_, _, h1.dp, h2.dp, shaped_dl c1, shaped_dl c2, ?_⟩
  rw [eqv_dl]
  exact k
theorem iNeRows {K : PySem.W.Frag} {H : Hp} {Q : VK} {p q : Addr} {l m : Rws} (h1 : RowsA H p l) (h2 : RowsA H q m) (c1 : ∀ y ∈ dat l, ∀ x ∈ y, Low x) (c2 : ∀ y ∈ dat m, ∀ x ∈ y, Low x) (k : Q (.bl (!decide (dat l = dat m))) H) : rNeD K (.ref p) (.ref q) H Q := by
  refine ⟨_, _, h1.dp, h2.dp, shaped_dll c1, shaped_dll c2, ?_⟩
  rw [eqv_dll]
  exact k
/-- a machine, by what it holds -/
structure MachB (a : Ad) (H : Hp) (mm al A G : Addr) (sg W : List Nat) (rs : Rws) (bs : List Bool) : Prop where
  o : ∃ dx, H mm = some (.ins a.cMachine dx [("alphabet", .ref al), ("arcs", .ref A), ("goods", .ref G)])
  al : AlG a.cAlphabet H al sg W
  r : RowsA H A rs
  g : H G = some (.lst (bs.map V.bl))
def spKept (a : Ad) : Sp := fun vs H Q _ => ∃ (mm al A G A2 G2 : Addr) (l W : List Nat) (rs rs2 : Rws) (bs : List Bool), vs = [.ref mm, .ref A2, .ref G2, .str (S l), .str (S W)] ∧ MachB a H mm al A G (45 :: l) W rs bs ∧ RowsA H A2 rs2 ∧ dat rs = dat rs2 ∧ H G2 = some (.lst (bs.map V.bl)) ∧ bs.length = rs.length ∧ (∀ y ∈ dat rs, ∀ x ∈ y, Low x) ∧ rs.length ≤ 100 ∧ Q (.bl true) H
theorem scKept : FnScope ["_law_machine", "_law_arcs", "_law_goods", "_law_letters_here", "_law_vowels", "_law_place", "_law_row", "_law_arc"] ["_law_machine", "_law_arcs", "_law_goods", "_law_letters_here", "_law_vowels"] (defScope sKept) := ⟨rfl, rfl, rfl, by decide +kernel, rfl, by decide +kernel, by decide +kernel⟩
theorem ok_kept (T : Fns K mg a d) : FnOk P w K mg base CX0 3 a.aKept d.dKept ["_law_machine", "_law_arcs", "_law_goods", "_law_letters_here", "_law_vowels"] (spKept a) := by
  have GMLen := ok_mLen (P := P) (w := w) (base := base) T
  refine T.FKept.ok scKept (fun vs H Q E h => ?_) (fun cdv A0 outer s H vs Q E hr h => ?_)
  · obtain ⟨mm, al, A, G, A2, G2, l, W, rs, rs2, bs, rfl, _⟩ := h
    rfl
  · obtain ⟨mm, al, A, G, A2, G2, l, W, rs, rs2, bs, rfl, ⟨⟨dx, hm⟩, hal, hA, hG⟩, hA2, hdt, hG2, hbn, hlow, hn, k⟩ := h
    have clM := T.clM
    have nMa := T.nMa
    have nMr := T.nMr
    have nMg := T.nMg
    have clA := T.clA
    have nL := T.nL
    have nV := T.nV
    have hAl := hA.l
    have hA2l := hA2.l
    have hlen : rs.length = rs2.length := by
      have := congrArg List.length hdt
      unfold dat at this
      rwa [List.length_map, List.length_map] at this
    refine ⟨_, ((pss_cons (ps_if (PW.pt (pw_or (pt_not (pt_val (pe_callB call_isi (by rfl) T.z_isinstance (by decide +kernel) (pa_cons (pe_fld (pv 0) rfl) (pa_cons (pe_bltn (v := .ty "list") (by rfl) T.z_list (by decide +kernel) rfl) pa_nil))))) (pw_or1 (pt_not (pt_val (pe_callB call_isi (by rfl) T.z_isinstance (by decide +kernel) (pa_cons (pe_fld (pv 0) rfl) (pa_cons (pe_bltn (v := .ty "list") (by rfl) T.z_list (by decide +kernel) rfl) pa_nil)))))))) (pss_one (ps_ret pe_bl)) pss_nil)
      (pss_cons (ps_if (PW.pt (pw_or (pt_cmpR op_ne (pe_callB call_len_seq (by rfl) T.z_len (by decide +kernel) (pa_cons (pe_fld (pv 0) rfl) pa_nil)) (pe_callB call_len_seq (by rfl) T.z_len (by decide +kernel) (pa_cons (pv 1) pa_nil)) (nomark _)) (pw_or (pt_cmpR op_ne (pe_callB call_len_seq (by rfl) T.z_len (by decide +kernel) (pa_cons (pe_fld (pv 0) rfl) pa_nil)) (pe_callB call_len_seq (by rfl) T.z_len (by decide +kernel) (pa_cons (pv 2) pa_nil)) (nomark _)) (pw_or1 (pt_cmpR op_ne (pe_callB (call_lenI T.mMLen.at_ T.mMLen.fn (GMLen.raw T.bMLen .nil) (hr.mono (by decide)) pass0) (by rfl) T.z_len (by decide +kernel) (pa_cons (pv 0) pa_nil)) (pe_callB call_len_seq (by rfl) T.z_len (by decide +kernel) (pa_cons (pv 1) pa_nil)) (nomark _)))))) (pss_one (ps_ret pe_bl)) pss_nil)
      (pss_cons (ps_for PassesOwn.never rfl (pi_range1 (by rfl) T.z_range (pa_cons (pe_callB call_len_seq (by rfl) T.z_len (by decide +kernel) (pa_cons (pv 1) pa_nil)) pa_nil)) (pg_name (i := 5) scKept.nd rfl (Or.inl rfl)) (pss_cons (ps_set (i := 6) scKept.nd rfl (Or.inl rfl) (pe_ix (r := rIxL K) ix_list (pe_fld (pv 0) rfl) (pv 5) (fun _ _ => rfl)))
      (pss_cons (ps_if (PW.pt (pw_or (pt_not (pt_val (pe_callB call_isi (by rfl) T.z_isinstance (by decide +kernel) (pa_cons (pv 6) (pa_cons (pe_bltn (v := .ty "list") (by rfl) T.z_list (by decide +kernel) rfl) pa_nil))))) (pw_or1 (pt_cmpR (op_neD hr.units) (pv 6) (pe_ix (r := rIxL K) ix_list (pv 1) (pv 5) (fun _ _ => rfl)) (nomark _))))) (pss_one (ps_ret pe_bl)) pss_nil)
      (pss_cons (ps_for PassesOwn.never rfl (pi_list (pv 6)) (pg_name (i := 7) scKept.nd rfl (Or.inl rfl)) (pss_one (ps_if (PW.pt (pw_or (pt_not (pt_val (pe_callB call_isi (by rfl) T.z_isinstance (by decide +kernel) (pa_cons (pv 7) (pa_cons (pe_bltn (v := .ty "tuple") (by rfl) T.z_tuple (by decide +kernel) rfl) pa_nil))))) (pw_or (pt_not (pt_val (pe_callB call_isi (by rfl) T.z_isinstance (by decide +kernel) (pa_cons (pe_ix (r := rIxT K) ix_tup (pv 7) pe_int (fun _ _ => rfl)) (pa_cons (pe_bltn (v := .ty "int") (by rfl) T.z_int (by decide +kernel) rfl) pa_nil))))) (pw_or1 (pt_val (pe_callB call_isi (by rfl) T.z_isinstance (by decide +kernel) (pa_cons (pe_ix (r := rIxT K) ix_tup (pv 7) pe_int (fun _ _ => rfl)) (pa_cons (pe_bltn (v := .ty "bool") (by rfl) T.z_bool (by decide +kernel) rfl) pa_nil)))))))) (pss_one (ps_ret pe_bl)) pss_nil)))
      (pss_one (ps_if (PW.pt (pw_or (pt_not (pt_val (pe_callB call_isi (by rfl) T.z_isinstance (by decide +kernel) (pa_cons (pe_ix (r := rIxL K) ix_list (pe_fld (pv 0) rfl) (pv 5) (fun _ _ => rfl)) (pa_cons (pe_bltn (v := .ty "bool") (by rfl) T.z_bool (by decide +kernel) rfl) pa_nil))))) (pw_or1 (pt_cmpR op_ne (pe_ix (r := rIxL K) ix_list (pe_fld (pv 0) rfl) (pv 5) (fun _ _ => rfl)) (pe_ix (r := rIxL K) ix_list (pv 2) (pv 5) (fun _ _ => rfl)) (nomark _))))) (pss_one (ps_ret pe_bl)) pss_nil))))))
      (pss_one (ps_ret (pe_and (pe_cmpR op_eq (pe_fld (pe_fld (pv 0) rfl) rfl) (pv 3) (nomark _)) (pe_one (pe_cmpR op_eq (pe_fld (pe_fld (pv 0) rfl) rfl) (pv 4) (nomark _)))))))))), ?_⟩
    walk_at "go"
    · rename_i h
      exact absurd (by rw [List.length_map, List.length_map, hlen]) h
    refine ⟨mm, dx, _, rfl, hm, mm, dx, A, _, _, rfl, hm, rfl, hAl, _, rfl, by rw [List.length_map]; omega, ?_⟩
    walk_at "go"
    refine ⟨by rw [List.length_map]; omega, ?_⟩
    refine for_R (fun i σ H' => Stop (∃ (v5 v6 v7 : Option V), σ = [some (.ref mm), some (.ref A2), some (.ref G2), some (.str (S l)), some (.str (S W)), v5, v6, v7] ∧ H' = H)) ⟨none, none, none, rfl, rfl⟩ ?_ ?_
    · rintro i σ H1 hi ⟨v5, v6, v7, rfl, rfl⟩
      have hi2 : i < rs.length := by
        rw [Int.toNat_natCast, List.length_map] at hi
        omega
      have ij : (0 : Int) + (i : Int) = (i : Int) := Int.zero_add _
      rw [ij]
      obtain ⟨r, hr⟩ : ∃ r, rs[i]? = some r := ⟨_, List.getElem?_eq_getElem hi2⟩
      obtain ⟨r2, hr2⟩ : ∃ r, rs2[i]? = some r := ⟨_, List.getElem?_eq_getElem (by omega)⟩
      obtain ⟨g, hg⟩ : ∃ g, bs[i]? = some g := ⟨_, List.getElem?_eq_getElem (by omega)⟩
      have hrv : (rs.map fun r => V.ref r.1)[i]? = some (V.ref r.1) := by rw [List.getElem?_map, hr]; rfl
      have hrv2 : (rs2.map fun r => V.ref r.1)[i]? = some (V.ref r2.1) := by rw [List.getElem?_map, hr2]; rfl
      have hgv : (bs.map V.bl)[i]? = some (V.bl g) := by rw [List.getElem?_map, hg]; rfl
      have hrow := hA.r r (List.mem_of_getElem? hr)
      have hrow2 := hA2.r r2 (List.mem_of_getElem? hr2)
      have hrl := hrow.l
      have ed : r.2.map (·.2) = r2.2.map (·.2) := by
        have e1 : (dat rs)[i]? = some (r.2.map (·.2)) := by unfold dat; rw [List.getElem?_map, hr]; rfl
        have e2 : (dat rs2)[i]? = some (r2.2.map (·.2)) := by unfold dat; rw [List.getElem?_map, hr2]; rfl
        rw [hdt, e2] at e1
        exact (Option.some.inj e1).symm
      have lo1 : ∀ x ∈ r.2.map (·.2), Low x := hlow _ (by unfold dat; exact List.mem_map.mpr ⟨r, List.mem_of_getElem? hr, rfl⟩)
      walk_at "go"
      refine iNeRow hrow hrow2 lo1 (by rw [← ed]; exact lo1) ?_
      rw [decide_eq_true ed]
      walk_at "go"
      refine for_L (fun j σ H' => Stop (∃ (v7 : Option V), σ = [some (.ref mm), some (.ref A2), some (.ref G2), some (.str (S l)), some (.str (S W)), some (.int (i : Nat)), some (.ref r.1), v7] ∧ H' = H1)) ⟨_, rfl, rfl⟩ (fun j σ H' _ h => SqL.of (by obtain ⟨_, _, rfl⟩ := h; exact hrl)) ?_ ?_
      · rintro j x σ H1 hj ⟨v7, rfl, rfl⟩
        rw [List.getElem?_map] at hj
        obtain ⟨q, hq, rfl⟩ := Option.map_eq_some_iff.mp hj
        have hqt := hrow.t q (List.mem_of_getElem? hq)
        have hqt : _ = some (HO.tup [.str (S q.2.1), .str (S q.2.2.1), .int q.2.2.2]) := hqt
        walk_at "go"
        all_goals exact ⟨_, rfl, rfl⟩
      · rintro σ H1 ⟨v7, rfl, rfl⟩
        walk_at "go"
        all_goals exact ⟨_, _, _, rfl, rfl⟩
    · rintro σ H1 ⟨v5, v6, v7, rfl, rfl⟩
      obtain ⟨l0, v0, ⟨dxa, hai⟩, e1, e2⟩ := hal
      injection e1 with _ e1
      subst e1
      subst e2
      walk_at "go"
      rw [decide_eq_true rfl]
      exact k
end
end
section
set_option Elab.async false
set_option linter.all false
set_option maxRecDepth 100000
set_option maxHeartbeats 4000000
open PySem PySem.Spec PyProof.Rows L2 NSet

local macro_rules | `(tactic| walk_at "side") => `(tactic| exact .inl (by assumption))
local macro_rules | `(tactic| walk_at "go1") => `(tactic| (with_reducible refine iGTup (by assumption) rfl ?_))
local macro_rules | `(tactic| walk_at "go1") => `(tactic| (with_reducible refine iGCons ?_))
local macro_rules | `(tactic| walk_at "go1") => `(tactic| (with_reducible refine iGNil ?_))
local macro_rules | `(tactic| walk_at "go1") => `(tactic| (with_reducible refine iMakeV ?_))
local macro_rules | `(tactic| walk_at "go1") => `(tactic| (with_reducible refine iMakeD ?_))
local macro_rules | `(tactic| walk_at "go1") => `(tactic| (with_reducible refine iLc2S ?_))
local macro_rules | `(tactic| walk_at "go1") => `(tactic| (with_reducible refine iLc2L ?_))
local macro_rules | `(tactic| walk_at "go1") => `(tactic| (with_reducible refine iIStr ?_))
local macro_rules | `(tactic| walk_at "go1") => `(tactic| (with_reducible refine iIxI ?_))
local macro_rules | `(tactic| walk_at "go1") => `(tactic| (with_reducible refine iCMeth ?_))
def kStrL7_0 : List Nat := [99, 108, 97, 115, 115]
theorem kStrL7_0_eq : PySem.Str.ofString "class" = S kStrL7_0 := by decide +kernel
def kStrL7_1 : List Nat := [112, 108, 97, 99, 101]
theorem kStrL7_1_eq : PySem.Str.ofString "place" = S kStrL7_1 := by decide +kernel
def kStrL7_2 : List Nat := [99, 104, 97, 110, 103, 101, 100]
theorem kStrL7_2_eq : PySem.Str.ofString "changed" = S kStrL7_2 := by decide +kernel
section
variable {P : Program} {w : World} {K : PySem.W.Frag} {mg : Str → Option Value} {base : Heap} {a : Ad} {d : Fd}
local macro_rules | `(tactic| walk_at "go1") => `(tactic| ((with_reducible apply isi_lst); (walk_at "lk")))
local macro_rules | `(tactic| walk_at "go1") => `(tactic| ((with_reducible apply isi_tup); (walk_at "lk")))
theorem iMakeS {C : Addr} {sp : Sp} {dvs : List V} {E : L2.St → XK} {t : TA} {σ : L2.St} {H : Hp} {Q : VK} (h : t σ H fun vs H1 => ∀ x dx, H1 x = none → H1 dx = none → dx ≠ x → sp (.ref x :: (vs ++ dvs)) (upd (upd H1 dx (.own x)) x (.ins C dx [])) (fun v H2 => v = .non ∧ Q (.ref x) H2) (E σ)) : tMakeS C sp dvs E t σ H Q := h
local macro_rules | `(tactic| walk_at "go1") => `(tactic| (with_reducible refine iMakeS ?_))
/-! k08: _law_refused -/
theorem dpb {K : PySem.W.Frag} {H : Hp} : ∀ l : List Bool, DpAll K H (l.map V.bl) (l.map PyData.bool)
  | [] => .nil
  | a :: l => .cons (.bl _) (dpb l)
theorem canb : ∀ l : List Bool, PyData.canLayAll0 (l.map PyData.bool) = true
  | [] => by simp [PyData.canLayAll0]
  | a :: l => by simp [PyData.canLayAll0, PyData.canLay0, canb l]
theorem depb : ∀ l : List Bool, PyData.depthAll (l.map PyData.bool) = 0
  | [] => by simp [PyData.depthAll]
  | a :: l => by simp [PyData.depthAll, PyData.depth, depb l]
theorem eqvb : ∀ l : List Bool, PyData.eqvAll (l.map PyData.bool) (l.map PyData.bool) = true
  | [] => by simp [PyData.eqvAll]
  | a :: l => by simp [PyData.eqvAll, PyData.eqv, eqvb l]
theorem iNeB {K : PySem.W.Frag} {H : Hp} {Q : VK} {p q : Addr} {l : List Bool} (h1 : H p = some (.lst (l.map V.bl))) (h2 : H q = some (.lst (l.map V.bl))) (k : Q (.bl false) H) : rNeD K (.ref p) (.ref q) H Q := by
  refine ⟨.list (l.map PyData.bool), .list (l.map PyData.bool), .lst (SqL.of h1) (dpb _), .lst (SqL.of h2) (dpb _), ?_, ?_, ?_⟩
  · simp [SeqAt.shaped, PyData.canLay0, PyData.depth, canb, depb]
  · simp [SeqAt.shaped, PyData.canLay0, PyData.depth, canb, depb]
  · have e : PyData.eqv (.list (l.map PyData.bool)) (.list (l.map PyData.bool)) = true := by
      show PyData.eqvAll _ _ = _
      exact eqvb l
    rw [e]
    exact k
structure ErrX (K : PySem.W.Frag) (a : Ad) : Prop where
  xf : XfC K a.cBadTable
  np : PySem.W.findIn K (.ref a.cBadTable) "place" = some none
  ec : ExcC K a.cBadTable
  e1 : PySem.W.exmOne K (.ref a.cBadTable) (.ref a.cTale) = some true
  k1 : PySem.W.kitOne K (.ref a.cBadTable) (.ref a.cBadTable) = some true
  k2 : PySem.W.kitOne K (.ref a.cBadTable) (.ref a.cBadText) = some false
  k3 : PySem.W.kitOne K (.ref a.cBadTable) (.ref a.cMixed) = some false
  k4 : PySem.W.kitOne K (.ref a.cBadTable) (.type "ValueError") = some true
theorem iIsX1 {K : PySem.W.Frag} {ab D dd : Addr} {fs : List (Str × V)} {c : V} {u : Value} {b : Bool} {H : Hp} {Q : VK} (C : ExcC K D) (h : H dd = some (.xd fs)) (cl : ClsV c u) (k : PySem.W.kitOne K (.ref D) u = some b) (q : Q (.bl b) H) : rIsX K ab (.ref D) (some dd) [.ref ab, c] H Q := ⟨D, dd, fs, rfl, rfl, C, h, .inl ⟨c, u, b, rfl, cl, k, q⟩⟩
/-- what the refusal is due -/
def DueM (sg : List Nat) (rs : Rws) (bs : List Bool) (v : V) : Prop :=
  (rs ≠ [] ∧ rs.length = bs.length ∧ (∀ y ∈ dat rs, RowG sg rs.length y) ∧ v = .non) ∨ ((rs = [] ∨ rs.length ≠ bs.length) ∧ v = .int (-1)) ∨
  (rs ≠ [] ∧ rs.length = bs.length ∧ ∃ (i : Nat) (y : List Arc), (dat rs)[i]? = some y ∧ ¬ RowG sg rs.length y ∧ (∀ j, j < i → ∀ y', (dat rs)[j]? = some y' → RowG sg rs.length y') ∧ v = .int (i : Nat))
theorem dat_len (rs : Rws) : (dat rs).length = rs.length := List.length_map ..
def spRefused (a : Ad) : Sp := fun vs H Q _ => ∃ (al A G : Addr) (sg W : List Nat) (rs : Rws) (bs : List Bool) (v : V), vs = [.ref al, .ref A, .ref G] ∧ AlG a.cAlphabet H al sg W ∧ RowsA H A rs ∧ Few rs ∧ H G = some (.lst (bs.map V.bl)) ∧ (∀ y ∈ dat rs, ∀ x ∈ y, Low x) ∧ DueM sg rs bs v ∧ ∀ H', Same H H' → Q v H'
theorem scRefused : FnScope ["_law_alphabet", "_law_arcs", "_law_goods", "_law_handed", "_law_handed_goods", "error"] ["_law_alphabet", "_law_arcs", "_law_goods"] (defScope sRefused) := ⟨rfl, rfl, rfl, by decide +kernel, rfl, by decide +kernel, by decide +kernel⟩
theorem ok_refused (T : Fns K mg a d) (MM : Mk K a.cMachine a.aMInit) (gcM : mg "Machine" = some (.ref a.cMachine)) (BBadTable : ErrX K a) (GBadTable : FnOk P w K mg base CX0 1 a.eBadTable d.eBadTable ["self", "place"] (spErrI a.cBadTable "place")) :
    FnOk P w K mg base CX0 8 a.aRefused d.dRefused ["_law_alphabet", "_law_arcs", "_law_goods"] (spRefused a) := by
  have GCopy := ok_copy (P := P) (w := w) (base := base) T
  have GMInit := ok_mInit (P := P) (w := w) (base := base) T GBadTable
  have bMInit := T.bMInit
  refine T.FRefused.ok scRefused (fun vs H Q E h => ?_) (fun cdv A0 outer s H vs Q E hr h => ?_)
  · obtain ⟨al, A, G, sg, W, rs, bs, v, rfl, _⟩ := h
    rfl
  · obtain ⟨al, A, G, sg, W, rs, bs, v, rfl, hal, hA, hf, hG, hlow, hdue, k⟩ := h
    refine ⟨_, ((pss_cons (ps_set (i := 3) scRefused.nd rfl (Or.inl rfl) (pe_call GCopy (hr.mono (by decide)) (by rfl) T.gCopy T.FCopy.kp T.bCopy .nil pass0 (pa_cons (pv 1) pa_nil)))
      (pss_cons (ps_set (i := 4) scRefused.nd rfl (Or.inl rfl) (pe_callTy call_list_of (by rfl) T.z_list (by decide +kernel) (pa_cons (pv 2) pa_nil)))
      (pss_cons (ps_try_as (i := 5) (tb := _) (ts := _) (Wout := fun _ _ _ _ => False) rfl rfl scRefused.nd rfl rfl ⟨rfl, by decide, Or.inl T.gcTaleError⟩ takes0 (fun W pn xe tk _ => (pss_one (ps_expr (pe_makeS MM GMInit (hr.mono (by decide)) (by rfl) gcM bMInit .nil (fun σ => passAt tk σ) (pa_cons (pv 0) (pa_cons (pv 3) (pa_cons (pv 4) pa_nil))))))) (fun ab oe cls db pn hz hf => (pss_cons (ps_if (PW.pt (pw_or (pt_not (pt_val (pe_callB (call_isX hz hf) (by rfl) T.z_isinstance (by decide +kernel) (pa_cons (pv 5) (pa_cons (pe_glob (v := .ref a.cBadTable) (by rfl) T.gcBadTable rfl) pa_nil))))) (pw_or (pt_val (pe_callB (call_isX hz hf) (by rfl) T.z_isinstance (by decide +kernel) (pa_cons (pv 5) (pa_cons (pe_glob (v := .ref a.cBadText) (by rfl) T.gcBadText rfl) pa_nil)))) (pw_or1 (pt_val (pe_callB (call_isX hz hf) (by rfl) T.z_isinstance (by decide +kernel) (pa_cons (pv 5) (pa_cons (pe_glob (v := .ref a.cMixed) (by rfl) T.gcMixed rfl) pa_nil)))))))) (pss_one (ps_ret (pe_strS (l := kStrL7_0) kStrL7_0_eq))) pss_nil)
      (pss_cons (ps_if (PW.pt (pw_or (pt_not (pt_val (pe_callB (call_isX hz hf) (by rfl) T.z_isinstance (by decide +kernel) (pa_cons (pv 5) (pa_cons (pe_bltn (v := .ty "ValueError") (by rfl) T.z_VE (by decide +kernel) rfl) pa_nil))))) (pw_or (pt_not (pt_val (pe_callB (id := "isinstance") (r := rIsi K) call_isi (by rfl) T.z_isinstance (by decide +kernel) (pa_cons (pe_xf BBadTable.xf BBadTable.np hz hf (pv 5)) (pa_cons (pe_bltn (v := .ty "int") (by rfl) T.z_int (by decide +kernel) rfl) pa_nil))))) (pw_or1 (pt_val (pe_callB (id := "isinstance") (r := rIsi K) call_isi (by rfl) T.z_isinstance (by decide +kernel) (pa_cons (pe_xf BBadTable.xf BBadTable.np hz hf (pv 5)) (pa_cons (pe_bltn (v := .ty "bool") (by rfl) T.z_bool (by decide +kernel) rfl) pa_nil)))))))) (pss_one (ps_ret (pe_strS (l := kStrL7_1) kStrL7_1_eq))) pss_nil)
      (pss_cons (ps_if (PW.pt (pw_or (pt_cmpR (r := rNeD K) (op_neD (by exact hr.units)) (pv 3) (pv 1) (nomark _)) (pw_or1 (pt_cmpR (r := rNeD K) (op_neD (by exact hr.units)) (pv 4) (pv 2) (nomark _))))) (pss_one (ps_ret (pe_strS (l := kStrL7_2) kStrL7_2_eq))) pss_nil)
      (pss_one (ps_ret (pe_xf BBadTable.xf BBadTable.np hz hf (pv 5)))))))))
      (pss_one (ps_ret pe_non)))))), ?_⟩
    walk_at "go"
    refine ⟨A, rs, rfl, hA, hf, fun A' rs' H1 hAn hrn hnd hA1 hm s1 => ?_⟩
    have hdt : dat rs' = dat rs := by rw [dat_snd, hm, ← dat_snd]
    have hln : rs'.length = rs.length := by rw [← dat_len, ← dat_len, hdt]
    have hf' : Few rs' := by
      refine ⟨by rw [hln]; exact hf.n, fun r hr => ?_⟩
      have h1 : r.2 ∈ rs.map (·.2) := by
        rw [← hm]
        exact List.mem_map.mpr ⟨r, hr, rfl⟩
      obtain ⟨z, hz, e⟩ := List.mem_map.mp h1
      rw [← e]
      exact hf.r z hz
    have hnil : rs' = [] ↔ rs = [] := by rw [← List.length_eq_zero_iff, ← List.length_eq_zero_iff, hln]
    have hG1 := s1 _ _ hG
    walk_at "go"
    rename_i G' hGn
    have s2 : Same H1 (L2.upd H1 G' (.lst (bs.map V.bl))) := TL.new hGn
    have hG' : (L2.upd H1 G' (.lst (bs.map V.bl))) G' = some (.lst (bs.map V.bl)) := upd_same
    have hA2 := hA1.same s2
    have hG2 := s2 _ _ hG1
    have s02 := TL.tr s1 s2
    generalize (L2.upd H1 G' (.lst (bs.map V.bl))) = H2 at s2 hG' hA2 hG2 s02 ⊢
    walk_at "go"
    intro x dx hx hdx hnx
    have s3 : Same H2 (upd (upd H2 dx (.own x)) x (.ins a.cMachine dx [])) := fun c o hc => by
      rw [upd_ne (fun z => by rw [z, hx] at hc; cases hc), upd_ne (fun z => by rw [z, hdx] at hc; cases hc)]
      exact hc
    have hx3 : (upd (upd H2 dx (.own x)) x (.ins a.cMachine dx [])) x = some (.ins a.cMachine dx []) := upd_same
    have hxH : H x = none := same_nn s02 hx
    show spMInit a [.ref x, .ref al, .ref A', .ref G'] (upd (upd H2 dx (.own x)) x (.ins a.cMachine dx [])) _ _
    generalize (upd (upd H2 dx (.own x)) x (.ins a.cMachine dx [])) = H3 at s3 hx3 ⊢
    have s03 := TL.tr s02 s3
    refine ⟨x, al, A', G', dx, sg, W, rs', bs, rfl, hx3, hal.same s03, hA2.same s3, hf', s3 _ _ hG', by rw [hdt]; exact hlow, fun hne hlen hgood A2 G2 rs2 H5 _ _ _ _ kp _ _ _ _ => ?_, fun hbad dd H5 h1 h2 s5 => ?_, fun hne hlen i y hy hnb hpre dd H5 h1 h2 s5 => ?_⟩
    · have s05 : Same H H5 := fun c o hc => kp c o (fun z => by rw [z, hxH] at hc; cases hc) (s03 c o hc)
      refine ⟨rfl, ?_⟩
      rw [hdt, hln] at hgood
      have hv : v = .non := by
        rcases hdue with ⟨_, _, _, e⟩ | ⟨h, _⟩ | ⟨_, _, i, y, hy, hnb, _, _⟩
        · exact e
        · rcases h with h | h
          · exact absurd (hnil.mpr h) hne
          · omega
        · exact absurd (hgood y (List.mem_of_getElem? hy)) hnb
      subst hv
      walk_at "go"
      exact k H5 s05
    · have s05 : Same H H5 := TL.tr s03 s5
      have hv : v = .int (-1) := by
        rcases hdue with ⟨h1, h2, _, _⟩ | ⟨_, e⟩ | ⟨h1, h2, _⟩
        · rcases hbad with h | h
          · exact absurd (hnil.mp h) h1
          · omega
        · exact e
        · rcases hbad with h | h
          · exact absurd (hnil.mp h) h1
          · omega
      subst hv
      refine ⟨true, BBadTable.e1, fun _ ab hab => ?_, fun q => Bool.noConfusion q⟩
      have hA5 := hA2.same (TL.tr s3 s5)
      have hA05 := hA.same s05
      have hG5 := s5 _ _ (s3 _ _ hG')
      have hG05 := s05 _ _ hG
      walk_at "go"
      refine iIsX1 BBadTable.ec h2 (.own a.cBadTable) BBadTable.k1 ?_
      walk_at "go"
      refine iIsX1 BBadTable.ec h2 (.own a.cBadText) BBadTable.k2 ?_
      walk_at "go"
      refine iIsX1 BBadTable.ec h2 (.own a.cMixed) BBadTable.k3 ?_
      walk_at "go"
      refine iIsX1 BBadTable.ec h2 (.ty "ValueError") BBadTable.k4 ?_
      walk_at "go"
      refine ⟨_, rfl, rfl, rfl, dd, _, _, rfl, h2, rfl, ?_⟩
      walk_at "go"
      refine ⟨_, rfl, rfl, rfl, dd, _, _, rfl, h2, rfl, ?_⟩
      walk_at "go"
      refine iNeRows hA5 hA05 (by rw [hdt]; exact hlow) hlow ?_
      rw [decide_eq_true hdt]
      walk_at "go"
      refine iNeB hG5 hG05 ?_
      walk_at "go"
      refine ⟨_, rfl, rfl, rfl, dd, _, _, rfl, h2, rfl, ?_⟩
      exact k H5 s05
    · have s05 : Same H H5 := TL.tr s03 s5
      rw [hdt] at hy hpre
      rw [hln] at hnb hpre
      have hv : v = .int (i : Nat) := by
        rcases hdue with ⟨_, _, h3, _⟩ | ⟨h, _⟩ | ⟨_, _, j, y2, hy2, hnb2, hpre2, e⟩
        · exact absurd (h3 y (List.mem_of_getElem? hy)) hnb
        · rcases h with h | h
          · exact absurd (hnil.mpr h) hne
          · omega
        · have ej : j = i := by
            rcases Nat.lt_trichotomy j i with h | h | h
            · exact absurd (hpre j h y2 hy2) hnb2
            · exact h
            · exact absurd (hpre2 i h y hy) hnb
          rw [e, ej]
      subst hv
      refine ⟨true, BBadTable.e1, fun _ ab hab => ?_, fun q => Bool.noConfusion q⟩
      have hA5 := hA2.same (TL.tr s3 s5)
      have hA05 := hA.same s05
      have hG5 := s5 _ _ (s3 _ _ hG')
      have hG05 := s05 _ _ hG
      walk_at "go"
      refine iIsX1 BBadTable.ec h2 (.own a.cBadTable) BBadTable.k1 ?_
      walk_at "go"
      refine iIsX1 BBadTable.ec h2 (.own a.cBadText) BBadTable.k2 ?_
      walk_at "go"
      refine iIsX1 BBadTable.ec h2 (.own a.cMixed) BBadTable.k3 ?_
      walk_at "go"
      refine iIsX1 BBadTable.ec h2 (.ty "ValueError") BBadTable.k4 ?_
      walk_at "go"
      refine ⟨_, rfl, rfl, rfl, dd, _, _, rfl, h2, rfl, ?_⟩
      walk_at "go"
      refine ⟨_, rfl, rfl, rfl, dd, _, _, rfl, h2, rfl, ?_⟩
      walk_at "go"
      refine iNeRows hA5 hA05 (by rw [hdt]; exact hlow) hlow ?_
      rw [decide_eq_true hdt]
      walk_at "go"
      refine iNeB hG5 hG05 ?_
      walk_at "go"
      refine ⟨_, rfl, rfl, rfl, dd, _, _, rfl, h2, rfl, ?_⟩
      exact k H5 s05
end
end
section
set_option Elab.async false
set_option linter.all false
set_option maxRecDepth 100000
set_option maxHeartbeats 4000000
open PySem PySem.Spec PyProof.Rows L2 NSet

local macro_rules | `(tactic| walk_at "side") => `(tactic| exact .inl (by assumption))
local macro_rules | `(tactic| walk_at "go1") => `(tactic| (with_reducible refine iGTup (by assumption) rfl ?_))
local macro_rules | `(tactic| walk_at "go1") => `(tactic| (with_reducible refine iGCons ?_))
local macro_rules | `(tactic| walk_at "go1") => `(tactic| (with_reducible refine iGNil ?_))
local macro_rules | `(tactic| walk_at "go1") => `(tactic| (with_reducible refine iMakeV ?_))
local macro_rules | `(tactic| walk_at "go1") => `(tactic| (with_reducible refine iMakeD ?_))
local macro_rules | `(tactic| walk_at "go1") => `(tactic| (with_reducible refine iLc2S ?_))
local macro_rules | `(tactic| walk_at "go1") => `(tactic| (with_reducible refine iLc2L ?_))
local macro_rules | `(tactic| walk_at "go1") => `(tactic| (with_reducible refine iIStr ?_))
local macro_rules | `(tactic| walk_at "go1") => `(tactic| (with_reducible refine iIxI ?_))
local macro_rules | `(tactic| walk_at "go1") => `(tactic| (with_reducible refine iCMeth ?_))

section
variable {P : Program} {w : World} {K : PySem.W.Frag} {mg : Str → Option Value} {base : Heap} {a : Ad} {d : Fd}
/-! k08: what the law's tables are -/
theorem srt_rev (l : List Nat) : srtL l.reverse = srtL l := by
  have h : ∀ m : List Nat, m.Nodup → True := fun _ _ => trivial
  refine List.Perm.eq_of_pairwise (le := (· ≤ ·)) (fun a b _ _ h1 h2 => by omega) (srtL_le _) (srtL_le _) ?_
  exact (srtL_perm _).trans ((List.reverse_perm l).trans (srtL_perm l).symm)
theorem AlOk.turn {l v : List Nat} (h : AlOk l v) : AlOk l.reverse v := ⟨⟨(List.reverse_perm l).nodup_iff.mpr h.dl.1, fun c hc => h.dl.2 c (List.mem_reverse.mp hc)⟩, by rw [List.length_reverse]; exact h.h1, by rw [List.length_reverse]; exact h.h4, h.vn, fun c hc => List.mem_reverse.mpr (h.vl c hc)⟩
structure Bad1 (sg : List Nat) (n : Nat) (D : List (List Arc)) (i : Nat) : Prop where
  e : ∃ y, D[i]? = some y ∧ ¬ RowG sg n y
  p : ∀ j, j < i → ∀ y', D[j]? = some y' → RowG sg n y'
theorem mem_insA {α : Type} {l : List α} {k : Nat} {x y : α} : y ∈ insA l k x ↔ y = x ∨ y ∈ l := by
  unfold insA
  rw [List.mem_append, List.mem_cons]
  constructor
  · rintro (h | h | h)
    · exact .inr (List.mem_of_mem_take h)
    · exact .inl h
    · exact .inr (List.mem_of_mem_drop h)
  · rintro (h | h)
    · exact .inr (.inl h)
    · rw [← List.take_append_drop k l] at h
      rcases List.mem_append.mp h with h | h
      · exact .inl h
      · exact .inr (.inr h)
theorem len_insA {α : Type} {l : List α} {k : Nat} {x : α} : (insA l k x).length = l.length + 1 := by
  unfold insA
  rw [List.length_append, List.length_cons, List.length_take, List.length_drop]
  omega
theorem bad_put {sg : List Nat} {n : Nat} {D : List (List Arc)} {i k : Nat} {ys : List Arc} {x : Arc} (h : ∀ y ∈ D, RowG sg n y) (hi : D[i]? = some ys) (hx : arcB sg n x = false) : Bad1 sg n (D.set i (insA ys k x)) i := by
  have hl := (List.getElem?_eq_some_iff.mp hi).1
  refine ⟨⟨insA ys k x, by rw [List.getElem?_set_self hl], fun g => ?_⟩, fun j hj y' hy' => ?_⟩
  · have := g x (mem_insA.mpr (.inl rfl))
    rw [hx] at this
    cases this
  · rw [List.getElem?_set_ne (by omega)] at hy'
    exact h y' (List.mem_of_getElem? hy')
theorem bad_put2 {sg : List Nat} {n : Nat} {D : List (List Arc)} {i j k : Nat} {ys : List Arc} {x : Arc} (h : Bad1 sg n D i) (hij : i ≤ j) (hj : D[j]? = some ys) : Bad1 sg n (D.set j (insA ys k x)) i := by
  have hl := (List.getElem?_eq_some_iff.mp hj).1
  obtain ⟨⟨y, hy, hb⟩, hp⟩ := h
  refine ⟨?_, fun m hm y' hy' => ?_⟩
  · by_cases e : i = j
    · subst e
      rw [hj] at hy
      cases hy
      exact ⟨insA ys k x, by rw [List.getElem?_set_self hl], fun g => hb fun z hz => g z (mem_insA.mpr (.inr hz))⟩
    · exact ⟨y, by rw [List.getElem?_set_ne (by omega)]; exact hy, hb⟩
  · rw [List.getElem?_set_ne (by omega)] at hy'
    exact hp m hm y' hy'
theorem Bad1.due {sg : List Nat} {rs : Rws} {bs : List Bool} {i : Nat} (h : Bad1 sg rs.length (dat rs) i) (hl : rs.length = bs.length) : DueM sg rs bs (.int (i : Nat)) := by
  obtain ⟨⟨y, hy, hb⟩, hp⟩ := h
  refine .inr (.inr ⟨fun e => ?_, hl, i, y, hy, hb, hp, rfl⟩)
  rw [e] at hy
  simp [dat] at hy
/-- short rows of plain arcs -/
structure Nice (q : Nat) (D : List (List Arc)) : Prop where
  l : ∀ y ∈ D, y.length ≤ q
  w : ∀ y ∈ D, ∀ x ∈ y, Low x
theorem Nice.put {q : Nat} {D : List (List Arc)} {i k : Nat} {ys : List Arc} {x : Arc} (h : Nice q D) (hi : D[i]? = some ys) (hx : Low x) : Nice (q + 1) (D.set i (insA ys k x)) := by
  have hm := List.mem_of_getElem? hi
  refine ⟨fun y hy => ?_, fun y hy z hz => ?_⟩
  · rcases List.mem_or_eq_of_mem_set hy with h1 | h1
    · have := h.l y h1
      omega
    · rw [h1, len_insA]
      have := h.l ys hm
      omega
  · rcases List.mem_or_eq_of_mem_set hy with h1 | h1
    · exact h.w y h1 z hz
    · rw [h1] at hz
      rcases mem_insA.mp hz with h2 | h2
      · rw [h2]
        exact hx
      · exact h.w ys hm z h2
theorem Nice.few {q : Nat} {rs : Rws} (h : Nice q (dat rs)) (hq : q ≤ 100) (hn : rs.length ≤ 100) : Few rs := ⟨hn, fun r hr => by
  have := h.l (r.2.map (·.2)) (List.mem_map.mpr ⟨r, hr, rfl⟩)
  rw [List.length_map] at this
  omega⟩
theorem MachB.ch {a : Ad} {L : List Addr} {H H' : Hp} {mm al A G : Addr} {sg W : List Nat} {rs : Rws} {bs : List Bool} (h : MachB a H mm al A G sg W rs bs) (s : Ch L H H') (hA : A ∉ L) (hG : G ∉ L) (hr : ∀ r ∈ rs, r.1 ∉ L) : MachB a H' mm al A G sg W rs bs := by
  obtain ⟨⟨dx, h1⟩, ⟨l, v, ⟨dy, h2⟩, z⟩, h3, h4⟩ := h
  exact ⟨⟨dx, s _ _ h1 (.inl fun xs z => by cases z)⟩, ⟨l, v, ⟨dy, s _ _ h2 (.inl fun xs z => by cases z)⟩, z⟩, h3.ch s hA hr, s _ _ h4 (.inr hG)⟩
theorem MachB.same {a : Ad} {H H' : Hp} {mm al A G : Addr} {sg W : List Nat} {rs : Rws} {bs : List Bool} (h : MachB a H mm al A G sg W rs bs) (s : Same H H') : MachB a H' mm al A G sg W rs bs := h.ch (L := []) (.of s) (by simp) (by simp) (fun _ _ => by simp)
theorem AlG.ch {C : Addr} {L : List Addr} {H H' : Hp} {al : Addr} {sg W : List Nat} (h : AlG C H al sg W) (s : Ch L H H') : AlG C H' al sg W := by
  obtain ⟨l, v, ⟨dy, h2⟩, z⟩ := h
  exact ⟨l, v, ⟨dy, s _ _ h2 (.inl fun xs z => by cases z)⟩, z⟩
theorem WellB.ch {L : List Addr} {H H' : Hp} {b l : Addr} {m : Nat} (h : WellB H b l m) (s : Ch L H H') (hb : b ∉ L) (hl : l ∉ L) : WellB H' b l m := by
  obtain ⟨ns, x, y, z, e1, e2, e3⟩ := h
  exact ⟨ns, x, y, z, s _ _ e1 (.inr hb), s _ _ e2 (.inr hl), e3⟩
/-- what stays through the law -/
structure Bs (a : Ad) (H : Hp) (mm al A3 G3 A G b l : Addr) (x W : List Nat) (rs3 rs : Rws) (bs : List Bool) (q : Nat) : Prop where
  m : MachB a H mm al A3 G3 (45 :: x) W rs3 bs
  r : RowsA H A rs
  g : H G = some (.lst (bs.map V.bl))
  w : WellB H b l q
theorem Bs.same {a : Ad} {H H' : Hp} {mm al A3 G3 A G b l : Addr} {x W : List Nat} {rs3 rs : Rws} {bs : List Bool} {m : Nat} (h : Bs a H mm al A3 G3 A G b l x W rs3 rs bs m) (s : Same H H') : Bs a H' mm al A3 G3 A G b l x W rs3 rs bs m := ⟨h.m.same s, h.r.same s, s _ _ h.g, h.w.same s⟩
/-- the lists of the machine and of the table are none of L -/
structure Off (L : List Addr) (A3 G3 A G : Addr) (rs3 rs : Rws) : Prop where
  a3 : A3 ∉ L
  g3 : G3 ∉ L
  a : A ∉ L
  g : G ∉ L
  r3 : ∀ r ∈ rs3, r.1 ∉ L
  r : ∀ r ∈ rs, r.1 ∉ L
theorem Bs.ch {a : Ad} {L : List Addr} {H H' : Hp} {mm al A3 G3 A G b l : Addr} {x W : List Nat} {rs3 rs : Rws} {bs : List Bool} {m m' : Nat} (h : Bs a H mm al A3 G3 A G b l x W rs3 rs bs m) (o : Off L A3 G3 A G rs3 rs) (s : Ch L H H') (w : WellB H' b l m') : Bs a H' mm al A3 G3 A G b l x W rs3 rs bs m' := ⟨h.m.ch s o.a3 o.g3 o.r3, h.r.ch s o.a o.r, s _ _ h.g (.inr o.g), w⟩
end
end
section
set_option Elab.async false
set_option linter.all false
set_option maxRecDepth 100000
set_option maxHeartbeats 4000000
open PySem PySem.Spec PyProof.Rows L2 NSet

local macro_rules | `(tactic| walk_at "side") => `(tactic| exact .inl (by assumption))
local macro_rules | `(tactic| walk_at "go1") => `(tactic| (with_reducible refine iGTup (by assumption) rfl ?_))
local macro_rules | `(tactic| walk_at "go1") => `(tactic| (with_reducible refine iGCons ?_))
local macro_rules | `(tactic| walk_at "go1") => `(tactic| (with_reducible refine iGNil ?_))
local macro_rules | `(tactic| walk_at "go1") => `(tactic| (with_reducible refine iMakeV ?_))
local macro_rules | `(tactic| walk_at "go1") => `(tactic| (with_reducible refine iMakeD ?_))
local macro_rules | `(tactic| walk_at "go1") => `(tactic| (with_reducible refine iLc2S ?_))
local macro_rules | `(tactic| walk_at "go1") => `(tactic| (with_reducible refine iLc2L ?_))
local macro_rules | `(tactic| walk_at "go1") => `(tactic| (with_reducible refine iIStr ?_))
local macro_rules | `(tactic| walk_at "go1") => `(tactic| (with_reducible refine iIxI ?_))
local macro_rules | `(tactic| walk_at "go1") => `(tactic| (with_reducible refine iCMeth ?_))

section
variable {P : Program} {w : World} {K : PySem.W.Frag} {mg : Str → Option Value} {base : Heap} {a : Ad} {d : Fd}
local macro_rules | `(tactic| walk_at "go1") => `(tactic| ((with_reducible apply iLs); (walk_at "lk")))
local macro_rules | `(tactic| walk_at "go1") => `(tactic| (with_reducible refine TL.iLstS ?_))
local macro_rules | `(tactic| walk_at "go1") => `(tactic| (with_reducible refine iRevS ?_))
local macro_rules | `(tactic| walk_at "nrm") => `(tactic| try simp only [List.set_cons_succ, List.set_cons_zero])
/-! k08: the law -/
def spLaw (K : PySem.W.Frag) : Sp := fun vs H Q _ => ∃ (x : Addr) (ns : List Int), vs = [.ref x] ∧ SqL K H x (ns.map V.int) ∧ ns.length ≤ 63 ∧ ∀ H', Q (.bl true) H'
theorem scLaw : FnScope ["_law_script", "_law_well_here", "_law_letters_here", "_law_vowels", "_law_alphabet", "_law_signs", "_law_arcs", "_law_goods", "_law_handed", "_law_handed_goods", "_law_machine", "_law_places", "_law_place", "_law_later", "_law_bent", "_law_twice", "_law_other"] ["_law_script"] (defScope sLaw) := ⟨rfl, rfl, rfl, by decide +kernel, rfl, by decide +kernel, by decide +kernel⟩
theorem ok_law {fA B : Addr} {fdA : FuncData} {mc : Value} {tm tj tl : Tok} (T : Fns K mg a d) (MM : Mk K a.cMachine a.aMInit) (gcM : mg "Machine" = some (.ref a.cMachine)) (BBadTable : ErrX K a) (GBadTable : FnOk P w K mg base CX0 1 a.eBadTable d.eBadTable ["self", "place"] (spErrI a.cBadTable "place"))
    (AV : AlV K mg a.cAlphabet mc tm tj tl) (MA : Mk K a.cAlphabet fA) (GA : FnOk P w K mg base (L2.CX P w) 3 fA fdA ["self", "letters", "vowels"] (spAl a.cAlphabet B)) (bA : Binds K fdA ["self", "letters", "vowels"] []) : FnOk P w K mg base CX0 10 a.aLaw d.dLaw ["_law_script"] (spLaw K) := by
  have GWell := ok_well (P := P) (w := w) (base := base) T
  have GTake := ok_take (P := P) (w := w) (base := base) T
  have GLetters := ok_letters (P := P) (w := w) (base := base) T
  have GTable := ok_table (P := P) (w := w) (base := base) T
  have GCopy := ok_copy (P := P) (w := w) (base := base) T
  have GWrong := ok_wrong (P := P) (w := w) (base := base) T
  have GPut := ok_put (P := P) (w := w) (base := base) T
  have GKept := ok_kept (P := P) (w := w) (base := base) T
  have GMInit := ok_mInit (P := P) (w := w) (base := base) T GBadTable
  have bMInit := T.bMInit
  have GRefused := ok_refused (P := P) (w := w) (base := base) T MM gcM BBadTable GBadTable
  refine T.FLaw.ok scLaw (fun vs H Q E h => ?_) (fun cdv A0 outer s H vs Q E hr h => ?_)
  · obtain ⟨x, ns, rfl, _⟩ := h
    rfl
  · obtain ⟨xx, ns, rfl, hx, hnl, k⟩ := h
    refine ⟨_, ((pss_cons (ps_set (i := 1) scLaw.nd rfl (Or.inl rfl) (pe_call GWell (hr.mono (by decide)) (by rfl) T.gWell T.FWell.kp T.bWell .nil pass0 (pa_cons (pv 0) pa_nil)))
      (pss_cons (ps_asg (pe_call GLetters (hr.mono (by decide)) (by rfl) T.gLetters T.FLetters.kp T.bLetters .nil pass0 (pa_cons (pv 1) (pa_cons pe_int pa_nil))) (pg_tup rfl (pgs_cons (pg_name (i := 2) scLaw.nd rfl (Or.inl rfl)) (pgs_cons (pg_name (i := 3) scLaw.nd rfl (Or.inl rfl)) pgs_nil))))
      (pss_cons (ps_set (i := 4) scLaw.nd rfl (Or.inl rfl) (pe_make MA GA (hr.mono (by decide)) (by rfl) AV.gC bA .nil passE (pa_cons (pe_revS (pv 2)) (pa_cons (pv 3) pa_nil))))
      (pss_cons (ps_set (i := 5) scLaw.nd rfl (Or.inl rfl) (pe_op op_addS (pe_strS (l := [45]) (by decide +kernel)) (pv 2)))
      (pss_cons (ps_asg (pe_call GTable (hr.mono (by decide)) (by rfl) T.gTable T.FTable.kp T.bTable .nil pass0 (pa_cons (pv 1) (pa_cons (pv 5) pa_nil))) (pg_tup rfl (pgs_cons (pg_name (i := 6) scLaw.nd rfl (Or.inl rfl)) (pgs_cons (pg_name (i := 7) scLaw.nd rfl (Or.inl rfl)) pgs_nil))))
      (pss_cons (ps_set (i := 8) scLaw.nd rfl (Or.inl rfl) (pe_call GCopy (hr.mono (by decide)) (by rfl) T.gCopy T.FCopy.kp T.bCopy .nil pass0 (pa_cons (pv 6) pa_nil)))
      (pss_cons (ps_set (i := 9) scLaw.nd rfl (Or.inl rfl) (pe_callTy call_list_of (by rfl) T.z_list (by decide +kernel) (pa_cons (pv 7) pa_nil)))
      (pss_cons (ps_set (i := 10) scLaw.nd rfl (Or.inl rfl) (pe_make MM GMInit (hr.mono (by decide)) (by rfl) gcM bMInit .nil passE (pa_cons (pv 4) (pa_cons (pv 8) (pa_cons (pv 9) pa_nil)))))
      (pss_cons (ps_if (PW.pt (pw_or (pt_cmpR (op_neD hr.units) (pv 8) (pv 6) (nomark _)) (pw_or (pt_cmpR (op_neD hr.units) (pv 9) (pv 7) (nomark _)) (pw_or1 (pt_not (pt_val (pe_call GKept (hr.mono (by decide)) (by rfl) T.gKept T.FKept.kp T.bKept .nil pass0 (pa_cons (pv 10) (pa_cons (pv 6) (pa_cons (pv 7) (pa_cons (pv 2) (pa_cons (pv 3) pa_nil)))))))))))) (pss_one (ps_ret pe_bl)) pss_nil)
      (pss_cons (ps_expr (pe_bm PySem.F.plainAttrs_list PySem.F.slot_list_append PySem.F.type_list_append mt_append (pe_ix (r := rIxL K) ix_list (pv 8) pe_int (fun _ _ => rfl)) (pa_cons (pe_tup (pa_cons (pe_ix ix_str (pv 5) pe_int (fun _ _ => rfl)) (pa_cons (pe_ix ix_str (pv 5) pe_int (fun _ _ => rfl)) (pa_cons pe_int pa_nil)))) pa_nil)))
      (pss_cons (ps_expr (pe_bm PySem.F.plainAttrs_list PySem.F.slot_list_append PySem.F.type_list_append mt_append (pv 8) (pa_cons (pe_lst pa_nil) pa_nil)))
      (pss_cons (ps_asg (pe_not (pe_ix (r := rIxL K) ix_list (pv 9) pe_int (fun _ _ => rfl))) (pg_sub (pv 9) pe_int set_list))
      (pss_cons (ps_expr (pe_bm PySem.F.plainAttrs_list PySem.F.slot_list_append PySem.F.type_list_append mt_append (pv 9) (pa_cons pe_bl pa_nil)))
      (pss_cons (ps_if (pt_not (pt_val (pe_call GKept (hr.mono (by decide)) (by rfl) T.gKept T.FKept.kp T.bKept .nil pass0 (pa_cons (pv 10) (pa_cons (pv 6) (pa_cons (pv 7) (pa_cons (pv 2) (pa_cons (pv 3) pa_nil)))))))) (pss_one (ps_ret pe_bl)) pss_nil)
      (pss_cons (ps_set (i := 11) scLaw.nd rfl (Or.inl rfl) (pe_callB call_len_seq (by rfl) T.z_len (by decide +kernel) (pa_cons (pv 6) pa_nil)))
      (pss_cons (ps_set (i := 12) scLaw.nd rfl (Or.inl rfl) (pe_call GTake (hr.mono (by decide)) (by rfl) T.gTake T.FTake.kp T.bTake .nil pass0 (pa_cons (pv 1) (pa_cons (pv 11) pa_nil))))
      (pss_cons (ps_set (i := 13) scLaw.nd rfl (Or.inl rfl) (pe_op op_add (pv 12) (pe_call GTake (hr.mono (by decide)) (by rfl) T.gTake T.FTake.kp T.bTake .nil pass0 (pa_cons (pv 1) (pa_cons (pe_op op_sub (pv 11) (pv 12)) pa_nil)))))
      (pss_cons (ps_set (i := 14) scLaw.nd rfl (Or.inl rfl) (pe_call GPut (hr.mono (by decide)) (by rfl) T.gPut T.FPut.kp T.bPut .nil pass0 (pa_cons (pv 1) (pa_cons (pv 6) (pa_cons (pv 12) (pa_cons (pe_call GWrong (hr.mono (by decide)) (by rfl) T.gWrong T.FWrong.kp T.bWrong .nil pass0 (pa_cons (pv 1) (pa_cons (pv 5) (pa_cons (pv 11) pa_nil)))) pa_nil))))))
      (pss_cons (ps_set (i := 15) scLaw.nd rfl (Or.inl rfl) (pe_call GPut (hr.mono (by decide)) (by rfl) T.gPut T.FPut.kp T.bPut .nil pass0 (pa_cons (pv 1) (pa_cons (pv 14) (pa_cons (pv 13) (pa_cons (pe_call GWrong (hr.mono (by decide)) (by rfl) T.gWrong T.FWrong.kp T.bWrong .nil pass0 (pa_cons (pv 1) (pa_cons (pv 5) (pa_cons (pv 11) pa_nil)))) pa_nil))))))
      (pss_cons (ps_if (PW.pt (pw_or (pt_cmpR op_ne (pe_call GRefused (hr.mono (by decide)) (by rfl) T.gRefused T.FRefused.kp T.bRefused .nil pass0 (pa_cons (pv 4) (pa_cons (pv 14) (pa_cons (pv 7) pa_nil)))) (pv 12) (nomark _)) (pw_or1 (pt_cmpR op_ne (pe_call GRefused (hr.mono (by decide)) (by rfl) T.gRefused T.FRefused.kp T.bRefused .nil pass0 (pa_cons (pv 4) (pa_cons (pv 15) (pa_cons (pv 7) pa_nil)))) (pv 12) (nomark _))))) (pss_one (ps_ret pe_bl)) pss_nil)
      (pss_cons (ps_if (PW.pt (pw_or (pt_cmpR op_ne (pe_call GRefused (hr.mono (by decide)) (by rfl) T.gRefused T.FRefused.kp T.bRefused .nil pass0 (pa_cons (pv 4) (pa_cons (pv 14) (pa_cons (pe_slice sl_list (pv 7) (po_some pe_int) po_none) pa_nil)))) (pe_un un_neg pe_int) (nomark _)) (pw_or1 (pt_cmpR op_ne (pe_call GRefused (hr.mono (by decide)) (by rfl) T.gRefused T.FRefused.kp T.bRefused .nil pass0 (pa_cons (pv 4) (pa_cons (pv 6) (pa_cons (pe_op op_cat (pv 7) (pe_lst (pa_cons pe_bl pa_nil))) pa_nil)))) (pe_un un_neg pe_int) (nomark _))))) (pss_one (ps_ret pe_bl)) pss_nil)
      (pss_cons (ps_if (PW.pt (pw_or (pt_cmpR op_ne (pe_call GRefused (hr.mono (by decide)) (by rfl) T.gRefused T.FRefused.kp T.bRefused .nil pass0 (pa_cons (pv 4) (pa_cons (pe_lst pa_nil) (pa_cons (pe_lst pa_nil) pa_nil)))) (pe_un un_neg pe_int) (nomark _)) (pw_or1 (pt_cmpR op_ne (pe_call GRefused (hr.mono (by decide)) (by rfl) T.gRefused T.FRefused.kp T.bRefused .nil pass0 (pa_cons (pv 4) (pa_cons (pe_lst pa_nil) (pa_cons (pe_lst (pa_cons pe_bl pa_nil)) pa_nil)))) (pe_un un_neg pe_int) (nomark _))))) (pss_one (ps_ret pe_bl)) pss_nil)
      (pss_cons (ps_if (pt_cmpR op_notN (pe_call GRefused (hr.mono (by decide)) (by rfl) T.gRefused T.FRefused.kp T.bRefused .nil pass0 (pa_cons (pv 4) (pa_cons (pv 6) (pa_cons (pv 7) pa_nil)))) pe_non (nomark _)) (pss_one (ps_ret pe_bl)) pss_nil)
      (pss_cons (ps_set (i := 16) scLaw.nd rfl (Or.inl rfl) (pe_make MM GMInit (hr.mono (by decide)) (by rfl) gcM bMInit .nil passE (pa_cons (pv 4) (pa_cons (pe_lst (pa_cons (pe_lst pa_nil) pa_nil)) (pa_cons (pe_lst (pa_cons pe_bl pa_nil)) pa_nil)))))
      (pss_one (ps_ret (pe_and (pe_call GKept (hr.mono (by decide)) (by rfl) T.gKept T.FKept.kp T.bKept .nil pass0 (pa_cons (pv 16) (pa_cons (pe_lst (pa_cons (pe_lst pa_nil) pa_nil)) (pa_cons (pe_lst (pa_cons pe_bl pa_nil)) (pa_cons (pv 2) (pa_cons (pv 3) pa_nil)))))) (pe_one (pe_call GKept (hr.mono (by decide)) (by rfl) T.gKept T.FKept.kp T.bKept .nil pass0 (pa_cons (pv 10) (pa_cons (pv 6) (pa_cons (pv 7) (pa_cons (pv 2) (pa_cons (pv 3) pa_nil))))))))))))))))))))))))))))))))))), ?_⟩
    rw [show L2.start [("_law_script" : Str), ("_law_well_here" : Str), ("_law_letters_here" : Str), ("_law_vowels" : Str), ("_law_alphabet" : Str), ("_law_signs" : Str), ("_law_arcs" : Str), ("_law_goods" : Str), ("_law_handed" : Str), ("_law_handed_goods" : Str), ("_law_machine" : Str), ("_law_places" : Str), ("_law_place" : Str), ("_law_later" : Str), ("_law_bent" : Str), ("_law_twice" : Str), ("_law_other" : Str)] [V.ref xx] = [some (V.ref xx), none, none, none, none, none, none, none, none, none, none, none, none, none, none, none, none] from rfl]
    walk_at "go"
    refine ⟨xx, ns, rfl, hx, by omega, fun b l H1 _ _ hB1 s1 => ?_⟩
    walk_at "nrm"
    walk_at "go"
    refine ⟨b, l, 4, 899000, rfl, hB1.less (by decide), by decide, by decide, fun t x v H2 htn ht hok ex ev hB2 f2 => ?_⟩
    have h4 := hok.h4
    have h1 := hok.h1
    have hxl : x.length ≤ 100000 := by omega
    walk_at "nrm"
    walk_at "go"
    intro al dal hal1 hal2 hal3
    refine iMkA hal1 hal2 hal3 hok.turn fun H3 s3 hal => ?_
    rw [srt_rev, ex, ev] at hal
    have hsg := hok.sg
    rw [ex] at hsg
    have hB3 := hB2.same s3
    clear hB1 hB2 ht htn
    walk_at "nrm"
    walk_at "go"
    refine ⟨b, l, 45 :: x, 898000, rfl, hB3, hsg, fun tt A G rs bs H4 hAn hGn hrn htt hA hG hn1 hn2 hbl hr5 hgood hB4 c4 => ?_⟩
    have nAb := hB3.ne hAn
    have nGb := hB3.ne hGn
    have nrb : ∀ r ∈ rs, r.1 ≠ b := fun r hr => (hB3.ne (hrn r hr)).1
    have hal4 := hal.ch c4
    have hlow : ∀ y ∈ dat rs, ∀ z ∈ y, Low z := fun y hy z hz => (hgood y hy z hz).2
    have hrg : ∀ y ∈ dat rs, RowG (45 :: x) rs.length y := fun y hy z hz => (hgood y hy z hz).1
    have hnice : Nice 5 (dat rs) := ⟨fun y hy => by
      obtain ⟨r, hr, e⟩ := List.mem_map.mp hy
      rw [← e, List.length_map]
      exact hr5 r hr, hlow⟩
    have hfew : Few rs := hnice.few (by decide) (by omega)
    have hrne : rs ≠ [] := fun e => by rw [e] at hn1; simp at hn1
    clear hB3 hAn hGn hrn hal hgood
    walk_at "nrm"
    walk_at "go"
    refine ⟨A, rs, rfl, hA, hfew, fun A2 rs2 H5 hA2n hr2n hnd2 hA2 hm2 s5 => ?_⟩
    have hdt2 : dat rs2 = dat rs := by rw [dat_snd, hm2, ← dat_snd]
    have hln2 : rs2.length = rs.length := by rw [← dat_len, ← dat_len, hdt2]
    have hG5 := s5 _ _ hG
    walk_at "nrm"
    walk_at "go"
    rename_i G2 hG2n
    have s6 : Same H5 (L2.upd H5 G2 (.lst (bs.map V.bl))) := TL.new hG2n
    have hG26 : (L2.upd H5 G2 (.lst (bs.map V.bl))) G2 = some (.lst (bs.map V.bl)) := upd_same
    have hA26 := hA2.same s6
    generalize (L2.upd H5 G2 (.lst (bs.map V.bl))) = H6 at s6 hG26 hA26 ⊢
    have s46 := TL.tr s5 s6
    walk_at "nrm"
    walk_at "go"
    intro mm dx hmm hdx hnx
    have s7 : Same H6 (upd (upd H6 dx (.own mm)) mm (.ins a.cMachine dx [])) := fun c o hc => by
      rw [upd_ne (fun z => by rw [z, hmm] at hc; cases hc), upd_ne (fun z => by rw [z, hdx] at hc; cases hc)]
      exact hc
    have hm7 : (upd (upd H6 dx (.own mm)) mm (.ins a.cMachine dx [])) mm = some (.ins a.cMachine dx []) := upd_same
    show spMInit a [.ref mm, .ref al, .ref A2, .ref G2] (upd (upd H6 dx (.own mm)) mm (.ins a.cMachine dx [])) _ _
    generalize (upd (upd H6 dx (.own mm)) mm (.ins a.cMachine dx [])) = H7 at s7 hm7 ⊢
    have hnice2 : Nice 5 (dat rs2) := by rw [hdt2]; exact hnice
    have hl2 : rs2.length = bs.length := by omega
    have hne2 : rs2 ≠ [] := fun e => by rw [e] at hln2; simp at hln2; omega
    have hrg2 : ∀ y ∈ dat rs2, RowG (45 :: x) rs2.length y := by rw [hdt2, hln2]; exact hrg
    refine ⟨mm, al, A2, G2, dx, 45 :: x, v, rs2, bs, rfl, hm7, (hal4.same s46).same s7, hA26.same s7, hnice2.few (by decide) (by omega), s7 _ _ hG26, hnice2.w, fun _ _ _ A3 G3 rs3 H8 hA3n hG3n hAG3 hr3n kp hm8 hA3 hdt3 hG3 => ⟨rfl, ?_⟩, fun hx _ _ _ _ _ => by
      rcases hx with h | h
      · exact hne2 h
      · exact h hl2, fun _ _ i y hy hnb _ _ _ _ _ _ => hnb (hrg2 y (List.mem_of_getElem? hy))⟩
    have s68 : Same H6 H8 := fun c o hc => kp c o (fun z => by rw [z, hmm] at hc; cases hc) (s7 c o hc)
    have s48 := TL.tr s46 s68
    have hbs : Bs a H8 mm al A3 G3 A G b l x v rs3 rs bs 898000 := ⟨⟨⟨dx, hm8⟩, hal4.same s48, hA3, hG3⟩, hA.same s48, s48 _ _ hG, hB4.same s48⟩
    have hdt3' : dat rs3 = dat rs := hdt3.trans hdt2
    have hln3 : rs3.length = rs.length := by rw [← dat_len, ← dat_len, hdt3']
    have fA3 : H6 A3 = none := same_nn s7 hA3n
    have fG3 : H6 G3 = none := same_nn s7 hG3n
    have fr3 : ∀ r ∈ rs3, H6 r.1 = none := fun r hr => same_nn s7 (hr3n r hr)
    have nA3 := (hB4.same s46).ne fA3
    have nG3 := (hB4.same s46).ne fG3
    have n3 : ∀ r ∈ rs3, r.1 ≠ b := fun r hr => ((hB4.same s46).ne (fr3 r hr)).1
    have nA2 := hB4.ne hA2n
    have n2 : ∀ r ∈ rs2, r.1 ≠ b ∧ r.1 ≠ l := fun r hr => hB4.ne (hr2n r hr)
    have nG2 := (hB4.same s5).ne hG2n
    have offb : Off [b] A3 G3 A G rs3 rs := ⟨by simpa using nA3.1, by simpa using nG3.1, by simpa using nAb.1, by simpa using nGb.1, fun r hr => by simpa using n3 r hr, fun r hr => by simpa using nrb r hr⟩
    have off2 : ∀ z ∈ rs2, Off [z.1, A2, G2] A3 G3 A G rs3 rs := fun z hz => by
      have hz6 := (hA26.r z hz).l
      have hz4 := hr2n z hz
      have g : ∀ {p : Addr} {o : HO}, H4 p = some o → p ∉ [z.1, A2, G2] := fun {p o} hp m => by
        rcases List.mem_cons.mp m with e | m
        · rw [e, hz4] at hp; cases hp
        · rcases List.mem_cons.mp m with e | m
          · rw [e, hA2n] at hp; cases hp
          · have := s5 _ _ hp
            rw [List.mem_singleton.mp m, hG2n] at this
            cases this
      have g6 : ∀ {p : Addr}, H6 p = none → p ∉ [z.1, A2, G2] := fun {p} hp m => by
        rcases List.mem_cons.mp m with e | m
        · rw [e, hz6] at hp; cases hp
        · rcases List.mem_cons.mp m with e | m
          · rw [e, hA26.l] at hp; cases hp
          · rw [List.mem_singleton.mp m, hG26] at hp; cases hp
      exact ⟨g6 fA3, g6 fG3, g hA.l, g hG, fun r hr => g6 (fr3 r hr), fun r hr => g (hA.r r hr).l⟩
    have hA28 := hA26.same s68
    have hG28 := s68 _ _ hG26
    clear hm7 hm8 hA3 hG3 hA3n hG3n hr3n hal4 hB4 kp
    walk_at "nrm"
    walk_at "go"
    refine iNeRows hA28 hbs.r hnice2.w hlow ?_
    rw [decide_eq_true hdt2]
    walk_at "go"
    refine iNeB hG28 hbs.g ?_
    walk_at "go"
    refine ⟨mm, al, A3, G3, A, G, x, v, rs3, rs, bs, rfl, hbs.m, hbs.r, hdt3', hbs.g, by omega, by rw [hdt3']; exact hlow, by omega, ?_⟩
    obtain ⟨z, hz⟩ : ∃ z, rs2[0]? = some z := ⟨_, List.getElem?_eq_getElem (by omega)⟩
    obtain ⟨g0, hg0⟩ : ∃ g, bs[0]? = some g := ⟨_, List.getElem?_eq_getElem (by omega)⟩
    obtain ⟨c1, hc1⟩ : ∃ c, x[0]? = some c := ⟨_, List.getElem?_eq_getElem (by omega)⟩
    have hzm := List.mem_of_getElem? hz
    have hzv : atI (rs2.map fun r => V.ref r.1) 0 = some (V.ref z.1) := atI_nat (j := 0) (by rw [List.getElem?_map, hz]; rfl)
    have hs0 : atI (45 :: x) 0 = some 45 := atI_nat (j := 0) rfl
    have hs1 : atI (45 :: x) 1 = some c1 := atI_nat (j := 1) hc1
    have hsl : (45 :: x).length ≤ 100000 := by rw [List.length_cons]; omega
    have hA28l := hA28.l
    have hz8 := (hA28.r z hzm).l
    have hzn := hnice2.l (z.2.map (·.2)) (List.mem_map.mpr ⟨z, hzm, rfl⟩)
    rw [List.length_map] at hzn
    walk_at "nrm"
    walk_at "go"
    rename_i tp htp
    have s9 : Same H8 (L2.upd H8 tp (.tup [.str (S [45]), .str (S [c1]), .int 0])) := TL.new htp
    have hz9 := s9 _ _ hz8
    have hA29 := s9 _ _ hA28l
    have hG29 := s9 _ _ hG28
    have hbs9 := hbs.same s9
    generalize (L2.upd H8 tp (.tup [.str (S [45]), .str (S [c1]), .int 0])) = H9 at s9 hz9 hA29 hG29 hbs9 ⊢
    have nd2 := List.nodup_cons.mp hnd2
    have hA2l0 := hA2.l
    have nzA : z.1 ≠ A2 := fun e => nd2.1 (by rw [← e]; exact List.mem_map.mpr ⟨z, hzm, rfl⟩)
    have nzG : z.1 ≠ G2 := fun e => by rw [e, hG29] at hz9; exact absurd (Option.some.inj hz9) (by
      intro e2
      injection e2 with e3
      rcases bs with _ | ⟨b0, bs⟩
      · simp at hg0
      · rcases hq : z.2 with _ | ⟨q, qs⟩
        · rw [hq] at e3; cases e3
        · rw [hq] at e3
          injection e3 with e4
          cases e4)
    have nAG2 : A2 ≠ G2 := ne_of_none (hA2.l) hG2n
    refine ⟨_, _, _, rfl, rfl, hz9, by rw [List.length_map, sizeLine_eq]; omega, ?_⟩
    have c10 : Ch [z.1, A2, G2] H9 (L2.upd H9 z.1 (.lst ((z.2.map fun q => V.ref q.1) ++ [V.ref tp]))) := Ch.mono (.upd hz9) (by simp)
    have hA210 : (L2.upd H9 z.1 (.lst ((z.2.map fun q => V.ref q.1) ++ [V.ref tp]))) A2 = _ := (upd_ne nzA.symm).trans hA29
    have hG210 : (L2.upd H9 z.1 (.lst ((z.2.map fun q => V.ref q.1) ++ [V.ref tp]))) G2 = _ := (upd_ne nzG.symm).trans hG29
    generalize (L2.upd H9 z.1 (.lst ((z.2.map fun q => V.ref q.1) ++ [V.ref tp]))) = H10 at c10 hA210 hG210 ⊢
    walk_at "nrm"
    walk_at "go"
    refine TL.cLst (by simp) fun e0 H11 he0 s11 _ => ?_
    have c11 : Ch [z.1, A2, G2] H9 H11 := c10.tr (.of s11)
    have hA211 := s11 _ _ hA210
    have hG211 := s11 _ _ hG210
    walk_at "go"
    refine ⟨_, _, _, rfl, rfl, hA211, by rw [List.length_map, sizeLine_eq]; omega, ?_⟩
    have c12 : Ch [z.1, A2, G2] H9 (L2.upd H11 A2 (.lst ((rs2.map fun r => V.ref r.1) ++ [V.ref e0]))) := c11.tr (Ch.mono (.upd hA211) (by simp))
    have hG212 : (L2.upd H11 A2 (.lst ((rs2.map fun r => V.ref r.1) ++ [V.ref e0]))) G2 = _ := (upd_ne nAG2.symm).trans hG211
    generalize (L2.upd H11 A2 (.lst ((rs2.map fun r => V.ref r.1) ++ [V.ref e0]))) = H12 at c12 hG212 ⊢
    obtain ⟨b0, bs0, hbs0⟩ : ∃ b0 bs0, bs = b0 :: bs0 := by
      rcases bs with _ | ⟨b0, bs⟩
      · simp at hg0
      · exact ⟨b0, bs, rfl⟩
    have hG212' : H12 G2 = some (.lst (V.bl b0 :: bs0.map V.bl)) := by rw [hG212, hbs0]; rfl
    have hb0 : atI (V.bl b0 :: bs0.map V.bl) 0 = some (V.bl b0) := atI_nat (j := 0) rfl
    walk_at "nrm"
    walk_at "go"
    refine iSetL (j := 0) (ys := V.bl (!b0) :: bs0.map V.bl) hG212' ix0 rfl ?_
    have c13 : Ch [z.1, A2, G2] H9 (L2.upd H12 G2 (.lst (V.bl (!b0) :: bs0.map V.bl))) := c12.tr (Ch.mono (.upd hG212) (by simp))
    have hG213 : (L2.upd H12 G2 (.lst (V.bl (!b0) :: bs0.map V.bl))) G2 = some (.lst (V.bl (!b0) :: bs0.map V.bl)) := upd_same
    generalize (L2.upd H12 G2 (.lst (V.bl (!b0) :: bs0.map V.bl))) = H13 at c13 hG213 ⊢
    have hbsn : bs0.length + 1 = bs.length := by rw [hbs0]; rfl
    walk_at "nrm"
    walk_at "go"
    refine ⟨_, _, _, rfl, rfl, hG213, by rw [List.length_cons, List.length_map, sizeLine_eq]; omega, ?_⟩
    have c14 : Ch [z.1, A2, G2] H9 (L2.upd H13 G2 (.lst ((V.bl (!b0) :: bs0.map V.bl) ++ [V.bl true]))) := c13.tr (Ch.mono (.upd hG213) (by simp))
    generalize (L2.upd H13 G2 (.lst ((V.bl (!b0) :: bs0.map V.bl) ++ [V.bl true]))) = H14 at c14 ⊢
    have hbs14 := hbs9.ch (off2 z hzm) c14 (hbs9.w.ch c14 (by simp only [List.mem_cons, List.not_mem_nil, or_false, not_or]; exact ⟨(n2 z hzm).1.symm, nA2.1.symm, nG2.1.symm⟩) (by simp only [List.mem_cons, List.not_mem_nil, or_false, not_or]; exact ⟨(n2 z hzm).2.symm, nA2.2.symm, nG2.2.symm⟩))
    clear hbs hbs9 c10 c11 c12 c13 c14 hA29 hG29 hA210 hG210 hA211 hG211 hG212 hG212' hG213 hz9 hz8 hA28l hA28 hG28 hA26 hG26 hA2 hG5 hA hG
    walk_at "nrm"
    walk_at "go"
    refine ⟨mm, al, A3, G3, A, G, x, v, rs3, rs, bs, rfl, hbs14.m, hbs14.r, hdt3', hbs14.g, by omega, by rw [hdt3']; exact hlow, by omega, ?_⟩
    have hA14l := hbs14.r.l
    walk_at "nrm"
    walk_at "go"
    refine ⟨b, l, rs.length, 890000, by rw [List.length_map], hbs14.w.less (by decide), by omega, by omega, fun i H15 hi hB15 f15 => ?_⟩
    have hbs15 := hbs14.ch offb (Ch.well f15 hbs14.w) hB15
    walk_at "nrm"
    walk_at "go"
    refine ⟨b, l, rs.length - i, 880000, by rw [List.length_map]; exact congrArg (fun z => [V.ref b, V.int z]) (by omega), hbs15.w.less (by decide), by omega, by omega, fun i2 H16 hi2 hB16 f16 => ?_⟩
    have hbs16 := hbs15.ch offb (Ch.well f16 hbs15.w) hB16
    clear hbs14 hbs15
    walk_at "nrm"
    walk_at "go"
    refine ⟨b, l, 45 :: x, rs.length, 870000, by rw [List.length_map]; rfl, hbs16.w.less (by decide), hsg, hn1, by omega, fun tw xw H17 htwn htw hbad hlw hB17 c17 => ?_⟩
    have hbs17 := hbs16.ch offb c17 hB17
    walk_at "go"
    refine ⟨b, l, A, tw, rs, xw, i, 860000, rfl, hbs17.w.less (by decide), hbs17.r, hfew, hi, htw, nAb.1, nrb, fun Ab rsb kb ys H18 hAbn hrbn hAb hys hkl hdtb hB18 c18 => ?_⟩
    have nAbb := hB17.ne hAbn
    have nrbb : ∀ r ∈ rsb, r.1 ≠ b := fun r hr => (hB17.ne (hrbn r hr)).1
    have hbs18 := hbs17.ch offb c18 hB18
    have hlnb : rsb.length = rs.length := by rw [← dat_len, hdtb, List.length_set, dat_len]
    have hbadb : Bad1 (45 :: x) rs.length (dat rsb) i := by rw [hdtb]; exact bad_put hrg hys hbad
    have hnb : Nice 6 (dat rsb) := by rw [hdtb]; exact hnice.put hys hlw
    clear hbs16 hbs17
    walk_at "nrm"
    walk_at "go"
    refine ⟨b, l, 45 :: x, rs.length, 850000, by rw [List.length_map]; rfl, hbs18.w.less (by decide), hsg, hn1, by omega, fun tw2 xw2 H19 htwn2 htw2 _ hlw2 hB19 c19 => ?_⟩
    have hbs19 := hbs18.ch offb c19 hB19
    have hAb19 := hAb.ch c19 (by simpa using nAbb.1) (fun r hr => by simpa using nrbb r hr)
    walk_at "go"
    refine ⟨b, l, Ab, tw2, rsb, xw2, i + i2, 840000, rfl, hbs19.w.less (by decide), hAb19, hnb.few (by decide) (by omega), by omega, htw2, nAbb.1, nrbb, fun At rst kt ys2 H20 hAtn hrtn hAt hys2 _ hdtt hB20 c20 => ?_⟩
    have hbs20 := hbs19.ch offb c20 hB20
    have hAb20 := hAb19.ch c20 (by simpa using nAbb.1) (fun r hr => by simpa using nrbb r hr)
    have hlnt : rst.length = rs.length := by rw [← dat_len, hdtt, List.length_set, dat_len, hlnb]
    have hbadt : Bad1 (45 :: x) rs.length (dat rst) i := by rw [hdtt]; exact bad_put2 hbadb (by omega) hys2
    have hnt : Nice 7 (dat rst) := by rw [hdtt]; exact hnb.put hys2 hlw2
    clear hbs18 hbs19 hAb hAb19
    walk_at "nrm"
    walk_at "go"
    refine ⟨al, Ab, G, 45 :: x, v, rsb, bs, .int (i : Nat), rfl, hbs20.m.al, hAb20, hnb.few (by decide) (by omega), hbs20.g, hnb.w, Bad1.due (by rw [hlnb]; exact hbadb) (by omega), fun H21 s21 => ?_⟩
    have hbs21 := hbs20.same s21
    walk_at "go"
    refine ⟨al, At, G, 45 :: x, v, rst, bs, .int (i : Nat), rfl, hbs21.m.al, hAt.same s21, hnt.few (by decide) (by omega), hbs21.g, hnt.w, Bad1.due (by rw [hlnt]; exact hbadt) (by omega), fun H22 s22 => ?_⟩
    have hbs22 := hbs21.same s22
    have hAb22 := hAb20.same (TL.tr s21 s22)
    have hG22 := hbs22.g
    walk_at "go"
    rename_i gp hgp
    have sg1 : Same H22 (L2.upd H22 gp (.lst (cutV (bs.map V.bl) (some 1) none))) := TL.new hgp
    have hgv : (L2.upd H22 gp (.lst (cutV (bs.map V.bl) (some 1) none))) gp = some (.lst ((bs.drop 1).map V.bl)) := by
      rw [upd_same, List.map_drop]
      exact congrArg (fun l => some (HO.lst l)) (TL.cut_from (bs.map V.bl) 1)
    generalize (L2.upd H22 gp (.lst (cutV (bs.map V.bl) (some 1) none))) = H23 at sg1 hgv ⊢
    have hbs23 := hbs22.same sg1
    refine ⟨al, Ab, gp, 45 :: x, v, rsb, bs.drop 1, .int (-1), rfl, hbs23.m.al, hAb22.same sg1, hnb.few (by decide) (by omega), hgv, hnb.w, .inr (.inl ⟨.inr (by rw [List.length_drop]; omega), rfl⟩), fun H24 s24 => ?_⟩
    have hbs24 := hbs23.same s24
    walk_at "go"
    refine TL.cLst (by simp) fun f1 H25 _ s25 hf1 => ?_
    have hbs25 := hbs24.same s25
    refine TL.iCatS hbs25.g hf1 (by rw [List.length_map]; simp; omega) fun gq H26 _ s26 hgq => ?_
    have hbs26 := hbs25.same s26
    have hgq : H26 gq = some (.lst ((bs ++ [false]).map V.bl)) := by rw [hgq, List.map_append]; rfl
    walk_at "go"
    refine ⟨al, A, gq, 45 :: x, v, rs, bs ++ [false], .int (-1), rfl, hbs26.m.al, hbs26.r, hfew, hgq, hlow, .inr (.inl ⟨.inr (by rw [List.length_append, List.length_singleton]; omega), rfl⟩), fun H27 s27 => ?_⟩
    have hbs27 := hbs26.same s27
    walk_at "go"
    refine TL.cLst (by simp) fun e1 H28 _ s28 he1 => ?_
    have hbs28 := hbs27.same s28
    walk_at "go"
    refine TL.cLst (by simp) fun e2 H29 _ s29 he2 => ?_
    have hbs29 := hbs28.same s29
    have nice0 : Nice 0 (dat []) := ⟨(fun y h => nomatch h), (fun y h => nomatch h)⟩
    walk_at "go"
    refine ⟨al, e1, e2, 45 :: x, v, [], [], .int (-1), rfl, hbs29.m.al, ⟨s29 _ _ he1, fun r h => nomatch h⟩, nice0.few (by decide) (by decide), he2, nice0.w, .inr (.inl ⟨.inl rfl, rfl⟩), fun H30 s30 => ?_⟩
    have hbs30 := hbs29.same s30
    walk_at "go"
    refine TL.cLst (by simp) fun e3 H31 _ s31 he3 => ?_
    have hbs31 := hbs30.same s31
    walk_at "go"
    refine TL.cLst (by simp) fun e4 H32 _ s32 he4 => ?_
    have hbs32 := hbs31.same s32
    walk_at "go"
    refine ⟨al, e3, e4, 45 :: x, v, [], [true], .int (-1), rfl, hbs32.m.al, ⟨s32 _ _ he3, fun r h => nomatch h⟩, nice0.few (by decide) (by decide), he4, nice0.w, .inr (.inl ⟨.inl rfl, rfl⟩), fun H33 s33 => ?_⟩
    have hbs33 := hbs32.same s33
    clear hbs20 hbs21 hbs22 hbs23 hbs24 hbs25 hbs26 hbs27 hbs28 hbs29 hbs30 hbs31 hbs32
    walk_at "go"
    refine ⟨al, A, G, 45 :: x, v, rs, bs, .non, rfl, hbs33.m.al, hbs33.r, hfew, hbs33.g, hlow, .inl ⟨hrne, by omega, hrg, rfl⟩, fun H34 s34 => ?_⟩
    have hbs34 := hbs33.same s34
    walk_at "nrm"
    walk_at "go"
    refine TL.cLst (by simp) fun i1 H35 _ s35 hi1 => ?_
    walk_at "go"
    refine TL.cLst (by simp) fun o1 H36 _ s36 ho1 => ?_
    walk_at "go"
    refine TL.cLst (by simp) fun q1 H37 _ s37 hq1 => ?_
    have s3437 := TL.tr s35 (TL.tr s36 s37)
    have hbs37 := hbs34.same s3437
    have hR37 : RowsA H37 o1 [(i1, [])] := ⟨s37 _ _ ho1, fun r hr => by
      rw [List.mem_singleton.mp hr]
      exact ⟨s37 _ _ (s36 _ _ hi1), fun q h => nomatch h⟩⟩
    have nice1 : Nice 0 (dat [(i1, [])]) := ⟨fun y h => by
      have : y = [] := by simpa [dat] using h
      rw [this]; exact Nat.le_refl _, fun y h z hz => by
      have : y = [] := by simpa [dat] using h
      rw [this] at hz; cases hz⟩
    have hrg1 : ∀ y ∈ dat [(i1, [])], RowG (45 :: x) ([(i1, [])] : Rws).length y := fun y h z hz => by
      have : y = [] := by simpa [dat] using h
      rw [this] at hz; cases hz
    clear hbs33 hbs34
    walk_at "go"
    intro m2 dx2 hm2n hdx2 hnx2
    have s38 : Same H37 (upd (upd H37 dx2 (.own m2)) m2 (.ins a.cMachine dx2 [])) := fun c o hc => by
      rw [upd_ne (fun z => by rw [z, hm2n] at hc; cases hc), upd_ne (fun z => by rw [z, hdx2] at hc; cases hc)]
      exact hc
    have hm38 : (upd (upd H37 dx2 (.own m2)) m2 (.ins a.cMachine dx2 [])) m2 = some (.ins a.cMachine dx2 []) := upd_same
    show spMInit a [.ref m2, .ref al, .ref o1, .ref q1] (upd (upd H37 dx2 (.own m2)) m2 (.ins a.cMachine dx2 [])) _ _
    generalize (upd (upd H37 dx2 (.own m2)) m2 (.ins a.cMachine dx2 [])) = H38 at s38 hm38 ⊢
    refine ⟨m2, al, o1, q1, dx2, 45 :: x, v, [(i1, [])], [true], rfl, hm38, hbs37.m.al.same s38, hR37.same s38, nice1.few (by decide) (by simp), s38 _ _ hq1, nice1.w, fun _ _ _ A4 G4 rs4 H39 _ _ _ _ kp hm39 hA4 hdt4 hG4 => ⟨rfl, ?_⟩, fun hx _ _ _ _ _ => by
      rcases hx with h | h
      · cases h
      · exact h rfl, fun _ _ i y hy hnb _ _ _ _ _ _ => hnb (hrg1 y (List.mem_of_getElem? hy))⟩
    have s39 : Same H37 H39 := fun c o hc => kp c o (fun z => by rw [z, hm2n] at hc; cases hc) (s38 c o hc)
    have hbs39 := hbs37.same s39
    have hM2 : MachB a H39 m2 al A4 G4 (45 :: x) v rs4 [true] := ⟨⟨dx2, hm39⟩, hbs39.m.al, hA4, hG4⟩
    have hln4 : rs4.length = 1 := by
      have := congrArg List.length hdt4
      rw [dat_len] at this
      exact this
    clear hbs37 kp
    walk_at "nrm"
    walk_at "go"
    refine TL.cLst (by simp) fun i3 H40 _ s40 hi3 => ?_
    walk_at "go"
    refine TL.cLst (by simp) fun o3 H41 _ s41 ho3 => ?_
    walk_at "go"
    refine TL.cLst (by simp) fun q3 H42 _ s42 hq3 => ?_
    have s4042 := TL.tr s40 (TL.tr s41 s42)
    have hbs42 := hbs39.same s4042
    have hR42 : RowsA H42 o3 [(i3, [])] := ⟨s42 _ _ ho3, fun r hr => by
      rw [List.mem_singleton.mp hr]
      exact ⟨s42 _ _ (s41 _ _ hi3), fun q h => nomatch h⟩⟩
    walk_at "go"
    refine ⟨m2, al, A4, G4, o3, q3, x, v, rs4, [(i3, [])], [true], rfl, hM2.same s4042, hR42, hdt4, hq3, by rw [hln4]; rfl, by rw [hdt4]; exact nice1.w, by omega, ?_⟩
    walk_at "go"
    refine ⟨mm, al, A3, G3, A, G, x, v, rs3, rs, bs, rfl, hbs42.m, hbs42.r, hdt3', hbs42.g, by omega, by rw [hdt3']; exact hlow, by omega, ?_⟩
    walk_at "go"
    exact k H42
end
end
section
set_option Elab.async false
set_option linter.all false
set_option maxRecDepth 100000
set_option maxHeartbeats 8000000
open PySem PySem.Spec PyProof.Rows L2
theorem find_of_cls {K : PySem.W.Frag} {C : Addr} {cd : ClassData} {name : Str} (h : PySem.W.clsIn K C = some cd) : PySem.W.findIn K (.ref C) name = PySem.W.alongIn K name cd.mro := by
  unfold PySem.W.clsIn at h
  split at h
  · rename_i ho
    cases h
    unfold PySem.W.findIn
    simp only [ho]
  · cases h
theorem kit_of {K : PySem.W.Frag} {t c : Addr} {b : Bool} (hc : PySem.W.isClsIn K c = true) (ht : PySem.W.typeIn K (.ref c) = some (.type "type")) (hs : PySem.W.subIn K (.ref t) (.ref c) = some b) (hcc : PySem.W.subIn K (.ref c) (.ref c) = some true) : PySem.W.kitOne K (.ref t) (.ref c) = some b := by
  have h1 : (PySem.W.clsIn K c).isSome = true := hc
  unfold PySem.W.kitOne
  by_cases e : (Value.ref t == Value.ref c) = true
  · rw [if_pos e]
    have e2 : Value.ref t = Value.ref c := eq_of_beq e
    rw [e2, hcc] at hs
    exact hs
  · rw [if_neg e]
    show (if ((PySem.W.clsIn K c).isSome && PySem.W.typeIn K (.ref c) == some (.type "type")) = true then PySem.W.subIn K (.ref t) (.ref c) else none) = _
    rw [h1, ht, if_pos (by rfl), hs]
theorem kit_own {K : PySem.W.Frag} {C : Addr} : PySem.W.kitOne K (.ref C) (.ref C) = some true := by
  unfold PySem.W.kitOne
  rw [if_pos (beq_self_eq_true _)]
theorem kit_any2 {K : PySem.W.Frag} {t c1 c2 : Addr} (h1 : PySem.W.kitOne K (.ref t) (.ref c1) = some false) (h2 : PySem.W.kitOne K (.ref t) (.ref c2) = some false) : PySem.W.kitAny K (.ref t) [.ref c1, .ref c2] = some false := by
  simp [PySem.W.kitAny, h1, h2]
theorem all_mk {l : PySem.W.OpenLaw} {w : World} {K : PySem.W.Frag} {h : Heap} {mg : Str → Option Value} {fa : Addr} (X : K.In h) (G : h.Ns mainGlobals mg) (hfa : mg "law" = some (.ref fa))
    {fDiff fCkLen fIsLabel fIsArc fWell fTake fLetters fStrange fCopy fTable fWrong fPut fKept fRefused fLaw C MC fIsSign fMInit fMLen TDA fA TE BA fBA ccBA cdaBA BB fBB ccBB cdaBB MI BT : Addr} {odDiff anDiff odCkLen anCkLen odIsLabel anIsLabel odIsArc anIsArc odWell anWell odTake anTake odLetters anLetters odStrange anStrange odCopy anCopy odTable anTable odWrong anWrong odPut anPut odKept anKept odRefused anRefused odLaw anLaw odIsSign anIsSign odMInit anMInit odMLen anMLen odA anA odBA anBA ddccBA ddcdBA odBB anBB ddccBB ddcdBB : Option Addr} {slDiff slCkLen slIsLabel slIsArc slWell slTake slLetters slStrange slCopy slTable slWrong slPut slKept slRefused slLaw slIsSign slMInit slMLen slA slBA slccBA slcdBA slBB slccBB slcdBB : Array (Option Value)} {ocDiff kVDiff dcDiff pmDiff cdDiff ctDiff ocCkLen kVCkLen dcCkLen pmCkLen cdCkLen ctCkLen ocIsLabel kVIsLabel dcIsLabel pmIsLabel cdIsLabel ctIsLabel ocIsArc kVIsArc dcIsArc pmIsArc cdIsArc ctIsArc ocWell kVWell dcWell pmWell cdWell ctWell ocTake kVTake dcTake pmTake cdTake ctTake ocLetters kVLetters dcLetters pmLetters cdLetters ctLetters ocStrange kVStrange dcStrange pmStrange cdStrange ctStrange ocCopy kVCopy dcCopy pmCopy cdCopy ctCopy ocTable kVTable dcTable pmTable cdTable ctTable ocWrong kVWrong dcWrong pmWrong cdWrong ctWrong ocPut kVPut dcPut pmPut cdPut ctPut ocKept kVKept dcKept pmKept cdKept ctKept ocRefused kVRefused dcRefused pmRefused cdRefused ctRefused ocLaw kVLaw dcLaw pmLaw cdLaw ctLaw ocIsSign kVIsSign dcIsSign pmIsSign cdIsSign ctIsSign ocMInit kVMInit dcMInit pmMInit cdMInit ctMInit ocMLen kVMLen dcMLen pmMLen cdMLen ctMLen ocA kVA dcA pmA cdA ctA ocBA kVBA dcBA pmBA ctBA clccBA clcdBA ocBB kVBB dcBB pmBB ctBB clccBB clcdBB : Value} {tM tJ tl tj2 : Tok} {nDA : Nat} {odDA : Option Addr} {slDA : Array (Option Value)} {ocDA : Value} {tDA : Tok} {vsCBA : Array Value} {flBA : Str} {tfBA : Tok} {vsCBB : Array Value} {flBB : Str} {tfBB : Tok}
    {nmTE qTE : Str} {NTE : Addr} {bsTE : List Value} {snTE : List Str} {subTE : List Value} {abTE : Bool} {colTE : Option Bool} {ddTE : Option Addr} {m0TE m1TE m2TE m3TE m5TE : Option Value}
    {nmBA qBA : Str} {NBA : Addr} {bsBA : List Value} {snBA : List Str} {subBA : List Value} {abBA : Bool} {colBA : Option Bool} {ddBA : Option Addr} {m0BA m1BA m2BA m3BA m5BA : Option Value}
    {nmBB qBB : Str} {NBB : Addr} {bsBB : List Value} {snBB : List Str} {subBB : List Value} {abBB : Bool} {colBB : Option Bool} {ddBB : Option Addr} {m0BB m1BB m2BB m3BB m5BB : Option Value}
    {nmMI qMI : Str} {NMI : Addr} {bsMI : List Value} {snMI : List Str} {subMI : List Value} {abMI : Bool} {colMI : Option Bool} {ddMI : Option Addr} {m0MI m1MI m2MI m3MI m5MI : Option Value}
    {nmBT qBT : Str} {NBT : Addr} {bsBT : List Value} {snBT : List Str} {subBT : List Value} {abBT : Bool} {colBT : Option Bool} {ddBT : Option Addr} {m0BT m1BT m2BT m3BT m5BT : Option Value}
    (lDiff : K.lookup fDiff = some ⟨ocDiff, odDiff, .func (PySem.W.fnOf "differ_within" "differ_within" (defArgs sDiff) (defBody sDiff) (defScope sDiff) .none kVDiff dcDiff pmDiff anDiff cdDiff ctDiff), slDiff⟩)
    (cDiff : PySem.W.codeIn K cdDiff "differ_within" = true)
    (aDiff : PySem.W.nsIn K mainGlobals "differ_within" = some (some (.ref fDiff)))
    (kDiff : PySem.W.keepIn K (.ref fDiff) = true)
    (lCkLen : K.lookup fCkLen = some ⟨ocCkLen, odCkLen, .func (PySem.W.fnOf "check_lengths" "check_lengths" (defArgs sCkLen) (defBody sCkLen) (defScope sCkLen) .none kVCkLen dcCkLen pmCkLen anCkLen cdCkLen ctCkLen), slCkLen⟩)
    (cCkLen : PySem.W.codeIn K cdCkLen "check_lengths" = true)
    (aCkLen : PySem.W.nsIn K mainGlobals "check_lengths" = some (some (.ref fCkLen)))
    (kCkLen : PySem.W.keepIn K (.ref fCkLen) = true)
    (lIsLabel : K.lookup fIsLabel = some ⟨ocIsLabel, odIsLabel, .func (PySem.W.fnOf "is_label" "is_label" (defArgs sIsLabel) (defBody sIsLabel) (defScope sIsLabel) .none kVIsLabel dcIsLabel pmIsLabel anIsLabel cdIsLabel ctIsLabel), slIsLabel⟩)
    (cIsLabel : PySem.W.codeIn K cdIsLabel "is_label" = true)
    (aIsLabel : PySem.W.nsIn K mainGlobals "is_label" = some (some (.ref fIsLabel)))
    (kIsLabel : PySem.W.keepIn K (.ref fIsLabel) = true)
    (lIsArc : K.lookup fIsArc = some ⟨ocIsArc, odIsArc, .func (PySem.W.fnOf "is_arc" "is_arc" (defArgs sIsArc) (defBody sIsArc) (defScope sIsArc) .none kVIsArc dcIsArc pmIsArc anIsArc cdIsArc ctIsArc), slIsArc⟩)
    (cIsArc : PySem.W.codeIn K cdIsArc "is_arc" = true)
    (aIsArc : PySem.W.nsIn K mainGlobals "is_arc" = some (some (.ref fIsArc)))
    (kIsArc : PySem.W.keepIn K (.ref fIsArc) = true)
    (lWell : K.lookup fWell = some ⟨ocWell, odWell, .func (PySem.W.fnOf "_law_well" "_law_well" (defArgs sWell) (defBody sWell) (defScope sWell) .none kVWell dcWell pmWell anWell cdWell ctWell), slWell⟩)
    (cWell : PySem.W.codeIn K cdWell "_law_well" = true)
    (aWell : PySem.W.nsIn K mainGlobals "_law_well" = some (some (.ref fWell)))
    (kWell : PySem.W.keepIn K (.ref fWell) = true)
    (lTake : K.lookup fTake = some ⟨ocTake, odTake, .func (PySem.W.fnOf "_law_take" "_law_take" (defArgs sTake) (defBody sTake) (defScope sTake) .none kVTake dcTake pmTake anTake cdTake ctTake), slTake⟩)
    (cTake : PySem.W.codeIn K cdTake "_law_take" = true)
    (aTake : PySem.W.nsIn K mainGlobals "_law_take" = some (some (.ref fTake)))
    (kTake : PySem.W.keepIn K (.ref fTake) = true)
    (lLetters : K.lookup fLetters = some ⟨ocLetters, odLetters, .func (PySem.W.fnOf "_law_letters" "_law_letters" (defArgs sLetters) (defBody sLetters) (defScope sLetters) .none kVLetters dcLetters pmLetters anLetters cdLetters ctLetters), slLetters⟩)
    (cLetters : PySem.W.codeIn K cdLetters "_law_letters" = true)
    (aLetters : PySem.W.nsIn K mainGlobals "_law_letters" = some (some (.ref fLetters)))
    (kLetters : PySem.W.keepIn K (.ref fLetters) = true)
    (lStrange : K.lookup fStrange = some ⟨ocStrange, odStrange, .func (PySem.W.fnOf "_law_strange" "_law_strange" (defArgs sStrange) (defBody sStrange) (defScope sStrange) .none kVStrange dcStrange pmStrange anStrange cdStrange ctStrange), slStrange⟩)
    (cStrange : PySem.W.codeIn K cdStrange "_law_strange" = true)
    (aStrange : PySem.W.nsIn K mainGlobals "_law_strange" = some (some (.ref fStrange)))
    (kStrange : PySem.W.keepIn K (.ref fStrange) = true)
    (lCopy : K.lookup fCopy = some ⟨ocCopy, odCopy, .func (PySem.W.fnOf "_law_copy" "_law_copy" (defArgs sCopy) (defBody sCopy) (defScope sCopy) .none kVCopy dcCopy pmCopy anCopy cdCopy ctCopy), slCopy⟩)
    (cCopy : PySem.W.codeIn K cdCopy "_law_copy" = true)
    (aCopy : PySem.W.nsIn K mainGlobals "_law_copy" = some (some (.ref fCopy)))
    (kCopy : PySem.W.keepIn K (.ref fCopy) = true)
    (lTable : K.lookup fTable = some ⟨ocTable, odTable, .func (PySem.W.fnOf "_law_table" "_law_table" (defArgs sTable) (defBody sTable) (defScope sTable) .none kVTable dcTable pmTable anTable cdTable ctTable), slTable⟩)
    (cTable : PySem.W.codeIn K cdTable "_law_table" = true)
    (aTable : PySem.W.nsIn K mainGlobals "_law_table" = some (some (.ref fTable)))
    (kTable : PySem.W.keepIn K (.ref fTable) = true)
    (lWrong : K.lookup fWrong = some ⟨ocWrong, odWrong, .func (PySem.W.fnOf "_law_wrong" "_law_wrong" (defArgs sWrong) (defBody sWrong) (defScope sWrong) .none kVWrong dcWrong pmWrong anWrong cdWrong ctWrong), slWrong⟩)
    (cWrong : PySem.W.codeIn K cdWrong "_law_wrong" = true)
    (aWrong : PySem.W.nsIn K mainGlobals "_law_wrong" = some (some (.ref fWrong)))
    (kWrong : PySem.W.keepIn K (.ref fWrong) = true)
    (lPut : K.lookup fPut = some ⟨ocPut, odPut, .func (PySem.W.fnOf "_law_put" "_law_put" (defArgs sPut) (defBody sPut) (defScope sPut) .none kVPut dcPut pmPut anPut cdPut ctPut), slPut⟩)
    (cPut : PySem.W.codeIn K cdPut "_law_put" = true)
    (aPut : PySem.W.nsIn K mainGlobals "_law_put" = some (some (.ref fPut)))
    (kPut : PySem.W.keepIn K (.ref fPut) = true)
    (lKept : K.lookup fKept = some ⟨ocKept, odKept, .func (PySem.W.fnOf "_law_kept" "_law_kept" (defArgs sKept) (defBody sKept) (defScope sKept) .none kVKept dcKept pmKept anKept cdKept ctKept), slKept⟩)
    (cKept : PySem.W.codeIn K cdKept "_law_kept" = true)
    (aKept : PySem.W.nsIn K mainGlobals "_law_kept" = some (some (.ref fKept)))
    (kKept : PySem.W.keepIn K (.ref fKept) = true)
    (lRefused : K.lookup fRefused = some ⟨ocRefused, odRefused, .func (PySem.W.fnOf "_law_refused" "_law_refused" (defArgs sRefused) (defBody sRefused) (defScope sRefused) .none kVRefused dcRefused pmRefused anRefused cdRefused ctRefused), slRefused⟩)
    (cRefused : PySem.W.codeIn K cdRefused "_law_refused" = true)
    (aRefused : PySem.W.nsIn K mainGlobals "_law_refused" = some (some (.ref fRefused)))
    (kRefused : PySem.W.keepIn K (.ref fRefused) = true)
    (lLaw : K.lookup fLaw = some ⟨ocLaw, odLaw, .func (PySem.W.fnOf "law" "law" (defArgs sLaw) (defBody sLaw) (defScope sLaw) .none kVLaw dcLaw pmLaw anLaw cdLaw ctLaw), slLaw⟩)
    (cLaw : PySem.W.codeIn K cdLaw "law" = true)
    (aLaw : PySem.W.nsIn K mainGlobals "law" = some (some (.ref fLaw)))
    (kLaw : PySem.W.keepIn K (.ref fLaw) = true)
    (z_len : PySem.W.nsIn K mainGlobals "len" = some none)
    (z_set : PySem.W.nsIn K mainGlobals "set" = some none)
    (z_all : PySem.W.nsIn K mainGlobals "all" = some none)
    (z_abs : PySem.W.nsIn K mainGlobals "abs" = some none)
    (z_int : PySem.W.nsIn K mainGlobals "int" = some none)
    (z_range : PySem.W.nsIn K mainGlobals "range" = some none)
    (z_sorted : PySem.W.nsIn K mainGlobals "sorted" = some none)
    (z_isinstance : PySem.W.nsIn K mainGlobals "isinstance" = some none)
    (z_str : PySem.W.nsIn K mainGlobals "str" = some none)
    (z_bool : PySem.W.nsIn K mainGlobals "bool" = some none)
    (z_list : PySem.W.nsIn K mainGlobals "list" = some none)
    (z_tuple : PySem.W.nsIn K mainGlobals "tuple" = some none)
    (z_any : PySem.W.nsIn K mainGlobals "any" = some none)
    (z_enumerate : PySem.W.nsIn K mainGlobals "enumerate" = some none)
    (z_min : PySem.W.nsIn K mainGlobals "min" = some none)
    (z_max : PySem.W.nsIn K mainGlobals "max" = some none)
    (z_ValueError : PySem.W.nsIn K mainGlobals "ValueError" = some none)
    (z_zip : PySem.W.nsIn K mainGlobals "zip" = some none)
    (z_dict : PySem.W.nsIn K mainGlobals "dict" = some none)
    (aC : PySem.W.nsIn K mainGlobals "Alphabet" = some (some (.ref C)))
    (pgC : PySem.W.plainGet K C Str.empty = true)
    (hdC : PySem.W.hasDictIn K C = true)
    (poC : PySem.W.plainOver K C = true)
    (saC : PySem.W.findIn K (.ref C) "__setattr__" = some (some (.builtin "object.__setattr__")))
    (mkC : PySem.W.makesIn K C = true)
    (kC : PySem.W.keepIn K (.ref C) = true)
    (nC_letters : PySem.W.findIn K (.ref C) "letters" = some none)
    (nC_vowels : PySem.W.findIn K (.ref C) "vowels" = some none)
    (nC_consonants : PySem.W.findIn K (.ref C) "consonants" = some none)
    (nC_signs : PySem.W.findIn K (.ref C) "signs" = some none)
    (ig : PySem.W.specialIn K (.builtin "object.__class__") "__get__" = some (some (.builtin "getset_descriptor.__get__")))
    (it : PySem.W.takesIn K (.builtin "object.__class__") = some true)
    (icC : PySem.W.findIn K (.ref C) "__class__" = some (some (.builtin "object.__class__")))
    (imC : PySem.W.mroIn K C (.type "object") = some true)
    (rdC : PySem.W.readsIn K C (.type "type") = true)
    (gaC : PySem.W.specialIn K (.ref C) "__getattribute__" = some (some (.builtin "type.__getattribute__")))
    (vM : PySem.W.findCls K (.ref C) (.type "type") "MOST" = some (.val (.int 4 tM)))
    (vJ : PySem.W.findCls K (.ref C) (.type "type") "JOINT" = some (.val (.str "-" tJ)))
    (aJ : PySem.W.findIn K (.ref C) "JOINT" = some (some (.str "-" tj2)))
    (aSL : PySem.W.nsIn K mainGlobals "SMALL_LETTERS" = some (some (.str "abcdefghijklmnopqrstuvwxyz" tl)))
    (aMC : PySem.W.nsIn K mainGlobals "Machine" = some (some (.ref MC)))
    (pgMC : PySem.W.plainGet K MC Str.empty = true)
    (hdMC : PySem.W.hasDictIn K MC = true)
    (poMC : PySem.W.plainOver K MC = true)
    (saMC : PySem.W.findIn K (.ref MC) "__setattr__" = some (some (.builtin "object.__setattr__")))
    (mkMC : PySem.W.makesIn K MC = true)
    (kMC : PySem.W.keepIn K (.ref MC) = true)
    (nMC_alphabet : PySem.W.findIn K (.ref MC) "alphabet" = some none)
    (nMC_arcs : PySem.W.findIn K (.ref MC) "arcs" = some none)
    (nMC_goods : PySem.W.findIn K (.ref MC) "goods" = some none)
    (lIsSign : K.lookup fIsSign = some ⟨ocIsSign, odIsSign, .func (PySem.W.fnOf "is_sign" "Alphabet.is_sign" (defArgs sIsSign) (defBody sIsSign) (defScope sIsSign) .none kVIsSign dcIsSign pmIsSign anIsSign cdIsSign ctIsSign), slIsSign⟩)
    (cIsSign : PySem.W.codeIn K cdIsSign "Alphabet.is_sign" = true)
    (aIsSign : PySem.W.findIn K (.ref C) "is_sign" = some (some (.ref fIsSign)))
    (kIsSign : PySem.W.keepIn K (.ref fIsSign) = true)
    (iIsSign : PySem.W.isFn K (.ref fIsSign) = true)
    (lMInit : K.lookup fMInit = some ⟨ocMInit, odMInit, .func (PySem.W.fnOf "__init__" "Machine.__init__" (defArgs sMInit) (defBody sMInit) (defScope sMInit) .none kVMInit dcMInit pmMInit anMInit cdMInit ctMInit), slMInit⟩)
    (cMInit : PySem.W.codeIn K cdMInit "Machine.__init__" = true)
    (aMInit : PySem.W.findIn K (.ref MC) "__init__" = some (some (.ref fMInit)))
    (kMInit : PySem.W.keepIn K (.ref fMInit) = true)
    (iMInit : PySem.W.isFn K (.ref fMInit) = true)
    (lMLen : K.lookup fMLen = some ⟨ocMLen, odMLen, .func (PySem.W.fnOf "__len__" "Machine.__len__" (defArgs sMLen) (defBody sMLen) (defScope sMLen) .none kVMLen dcMLen pmMLen anMLen cdMLen ctMLen), slMLen⟩)
    (cMLen : PySem.W.codeIn K cdMLen "Machine.__len__" = true)
    (aMLen : PySem.W.findIn K (.ref MC) "__len__" = some (some (.ref fMLen)))
    (kMLen : PySem.W.keepIn K (.ref fMLen) = true)
    (iMLen : PySem.W.isFn K (.ref fMLen) = true)
    (lA : K.lookup fA = some ⟨ocA, odA, .func (PySem.W.fnOf "__init__" "Alphabet.__init__" (defArgs sAI) (defBody sAI) (defScope sAI) (.ref TDA) kVA dcA pmA anA cdA ctA), slA⟩)
    (cA : PySem.W.codeIn K cdA "Alphabet.__init__" = true)
    (aA : PySem.W.findIn K (.ref C) "__init__" = some (some (.ref fA)))
    (lDA : K.lookup TDA = some ⟨ocDA, odDA, .seq [Value.str "" tDA].toArray nDA, slDA⟩)
    (kA : PySem.W.keepIn K (.ref fA) = true)
    (iA : PySem.W.isFn K (.ref fA) = true)
    (xTE : K.lookup TE = some (excClassObj nmTE qTE TE NTE bsTE [.type "ValueError", .type "Exception", .type "BaseException", .type "object"] true snTE subTE abTE colTE ddTE m0TE m1TE m2TE m3TE m5TE "ValueError.__new__"))
    (aTE : PySem.W.nsIn K mainGlobals "TaleError" = some (some (.ref TE)))
    (eTE : PySem.W.subIn K (.ref TE) (.type "BaseException") = some true)
    (tTE : PySem.W.typeIn K (.ref TE) = some (.type "type"))
    (hTE : PySem.W.hasDictIn K TE = true)
    (iTE : PySem.W.findIn K (.ref TE) "__init__" = some (some (.builtin "ValueError.__init__")))
    (noT : (l.prog.main.scope.names.lookup ("super" : Str)).isSome = false)
    (noM : PySem.W.nsIn K mainGlobals "super" = some none)
    (anyS : PySem.W.nsIn K cStatics "thirdparty.any" = some none)
    (xBA : K.lookup BA = some (excClassObj nmBA qBA BA NBA bsBA [.ref TE, .type "ValueError", .type "Exception", .type "BaseException", .type "object"] true snBA subBA abBA colBA ddBA m0BA m1BA m2BA m3BA m5BA "ValueError.__new__"))
    (aBA : PySem.W.nsIn K mainGlobals "BadAlphabet" = some (some (.ref BA)))
    (eBA : PySem.W.subIn K (.ref BA) (.type "BaseException") = some true)
    (tBA : PySem.W.typeIn K (.ref BA) = some (.type "type"))
    (hBA : PySem.W.hasDictIn K BA = true)
    (nBA_part : PySem.W.findIn K (.ref BA) "part" = some none)
    (saBA : PySem.W.findIn K (.ref BA) "__setattr__" = some (some (.builtin "object.__setattr__")))
    (gaBA : PySem.W.findIn K (.ref BA) "__getattribute__" = some (some (.builtin "BaseException.__getattribute__")))
    (ggBA : PySem.W.findIn K (.ref BA) "__getattr__" = some none)
    (aFBA : PySem.W.findIn K (.ref BA) "__init__" = some (some (.ref fBA)))
    (tFBA : PySem.W.typeIn K (.ref fBA) = some (.type "function"))
    (lBA : K.lookup fBA = some ⟨ocBA, odBA, .func (PySem.W.ksFn "__init__" "BadAlphabet.__init__" (defArgs sBA) (defBody sBA) (defScope sBA) .none kVBA dcBA pmBA anBA (.ref cdaBA) ctBA ccBA), slBA⟩)
    (cBA : PySem.W.codeIn K (.ref cdaBA) "BadAlphabet.__init__" = true)
    (kBA : PySem.W.keepIn K (.ref BA) = true)
    (lccBA : K.lookup ccBA = some ⟨clccBA, ddccBA, .cell (some (.ref BA)), slccBA⟩)
    (lcdBA : K.lookup cdaBA = some ⟨clcdBA, ddcdBA, .fields vsCBA, slcdBA⟩)
    (hvBA : vsCBA[2]? = some (.str flBA tfBA))
    (hflBA : ((l.prog.main.file : Str) == flBA) = true)
    (mmBA : PySem.W.mroIn K BA (.ref BA) = some true)
    (vBA : PySem.W.subIn K (.ref BA) (.type "ValueError") = some true)
    (xBB : K.lookup BB = some (excClassObj nmBB qBB BB NBB bsBB [.ref TE, .type "ValueError", .type "Exception", .type "BaseException", .type "object"] true snBB subBB abBB colBB ddBB m0BB m1BB m2BB m3BB m5BB "ValueError.__new__"))
    (aBB : PySem.W.nsIn K mainGlobals "BadTable" = some (some (.ref BB)))
    (eBB : PySem.W.subIn K (.ref BB) (.type "BaseException") = some true)
    (tBB : PySem.W.typeIn K (.ref BB) = some (.type "type"))
    (hBB : PySem.W.hasDictIn K BB = true)
    (nBB_place : PySem.W.findIn K (.ref BB) "place" = some none)
    (saBB : PySem.W.findIn K (.ref BB) "__setattr__" = some (some (.builtin "object.__setattr__")))
    (gaBB : PySem.W.findIn K (.ref BB) "__getattribute__" = some (some (.builtin "BaseException.__getattribute__")))
    (ggBB : PySem.W.findIn K (.ref BB) "__getattr__" = some none)
    (aFBB : PySem.W.findIn K (.ref BB) "__init__" = some (some (.ref fBB)))
    (tFBB : PySem.W.typeIn K (.ref fBB) = some (.type "function"))
    (lBB : K.lookup fBB = some ⟨ocBB, odBB, .func (PySem.W.ksFn "__init__" "BadTable.__init__" (defArgs sEBadTable) (defBody sEBadTable) (defScope sEBadTable) .none kVBB dcBB pmBB anBB (.ref cdaBB) ctBB ccBB), slBB⟩)
    (cBB : PySem.W.codeIn K (.ref cdaBB) "BadTable.__init__" = true)
    (kBB : PySem.W.keepIn K (.ref BB) = true)
    (lccBB : K.lookup ccBB = some ⟨clccBB, ddccBB, .cell (some (.ref BB)), slccBB⟩)
    (lcdBB : K.lookup cdaBB = some ⟨clcdBB, ddcdBB, .fields vsCBB, slcdBB⟩)
    (hvBB : vsCBB[2]? = some (.str flBB tfBB))
    (hflBB : ((l.prog.main.file : Str) == flBB) = true)
    (mmBB : PySem.W.mroIn K BB (.ref BB) = some true)
    (vBB : PySem.W.subIn K (.ref BB) (.type "ValueError") = some true)
    (xMI : K.lookup MI = some (excClassObj nmMI qMI MI NMI bsMI [.ref TE, .type "ValueError", .type "Exception", .type "BaseException", .type "object"] true snMI subMI abMI colMI ddMI m0MI m1MI m2MI m3MI m5MI "ValueError.__new__"))
    (aMI : PySem.W.nsIn K mainGlobals "Mixed" = some (some (.ref MI)))
    (eMI : PySem.W.subIn K (.ref MI) (.type "BaseException") = some true)
    (tMI : PySem.W.typeIn K (.ref MI) = some (.type "type"))
    (hMI : PySem.W.hasDictIn K MI = true)
    (xBT : K.lookup BT = some (excClassObj nmBT qBT BT NBT bsBT [.ref TE, .type "ValueError", .type "Exception", .type "BaseException", .type "object"] true snBT subBT abBT colBT ddBT m0BT m1BT m2BT m3BT m5BT "ValueError.__new__"))
    (aBT : PySem.W.nsIn K mainGlobals "BadText" = some (some (.ref BT)))
    (eBT : PySem.W.subIn K (.ref BT) (.type "BaseException") = some true)
    (tBT : PySem.W.typeIn K (.ref BT) = some (.type "type"))
    (hBT : PySem.W.hasDictIn K BT = true)
    (sTE_TE : PySem.W.subIn K (.ref TE) (.ref TE) = some true)
    (clTE : PySem.W.isClsIn K TE = true)
    (sBB_TE : PySem.W.subIn K (.ref BB) (.ref TE) = some true)
    (sBB_BB : PySem.W.subIn K (.ref BB) (.ref BB) = some true)
    (clBB : PySem.W.isClsIn K BB = true)
    (sMI_MI : PySem.W.subIn K (.ref MI) (.ref MI) = some true)
    (clMI : PySem.W.isClsIn K MI = true)
    (sBT_BT : PySem.W.subIn K (.ref BT) (.ref BT) = some true)
    (clBT : PySem.W.isClsIn K BT = true)
    (sBB_MI : PySem.W.subIn K (.ref BB) (.ref MI) = some false)
    (sBB_BT : PySem.W.subIn K (.ref BB) (.ref BT) = some false)
    (icBB : PySem.W.findIn K (.ref BB) "__class__" = some (some (.builtin "object.__class__")))
    (imBB : PySem.W.mroIn K BB (.type "object") = some true) :
    ∃ fd : FuncData, (∀ (s : Shared) (v : Value), BindsTo s fd ⟨[v], []⟩ [("_law_script", v)]) ∧ ∀ base : Heap, K.In base → base.Ns mainGlobals mg → FnOk l.prog w K mg base CX0 10 fa fd ["_law_script"] (spLaw K) := by
  have e := hfa.symm.trans (PySem.W.mg_of X G aLaw)
  cases e
  have gm : ∀ {n : Str} {v : Value}, PySem.W.nsIn K mainGlobals n = some (some v) → mg n = some v := fun e => PySem.W.mg_of X G e
  have gn : ∀ {n : Str}, PySem.W.nsIn K mainGlobals n = some none → mg n = none := fun e => PySem.W.mg_none_of X G e
  have FDiff := fun_mk (st := sDiff) lDiff cDiff kDiff
  have bDiff := FDiff.binds (ps := ["text", "allowed"]) fun _ _ _ _ _ _ us hl => match us, hl with | [_, _], _ => rfl
  have FCkLen := fun_mk (st := sCkLen) lCkLen cCkLen kCkLen
  have bCkLen := FCkLen.binds (ps := ["rows", "goods"]) fun _ _ _ _ _ _ us hl => match us, hl with | [_, _], _ => rfl
  have FIsLabel := fun_mk (st := sIsLabel) lIsLabel cIsLabel kIsLabel
  have bIsLabel := FIsLabel.binds (ps := ["alphabet", "sign"]) fun _ _ _ _ _ _ us hl => match us, hl with | [_, _], _ => rfl
  have FIsArc := fun_mk (st := sIsArc) lIsArc cIsArc kIsArc
  have bIsArc := FIsArc.binds (ps := ["alphabet", "arc", "many"]) fun _ _ _ _ _ _ us hl => match us, hl with | [_, _, _], _ => rfl
  have FWell := fun_mk (st := sWell) lWell cWell kWell
  have bWell := FWell.binds (ps := ["_law_script"]) fun _ _ _ _ _ _ us hl => match us, hl with | [_], _ => rfl
  have FTake := fun_mk (st := sTake) lTake cTake kTake
  have bTake := FTake.binds (ps := ["_law_well_here", "_law_size"]) fun _ _ _ _ _ _ us hl => match us, hl with | [_, _], _ => rfl
  have FLetters := fun_mk (st := sLetters) lLetters cLetters kLetters
  have bLetters := FLetters.binds (ps := ["_law_well_here", "_law_most"]) fun _ _ _ _ _ _ us hl => match us, hl with | [_, _], _ => rfl
  have FStrange := fun_mk (st := sStrange) lStrange cStrange kStrange
  have bStrange := FStrange.binds (ps := ["_law_well_here", "_law_signs"]) fun _ _ _ _ _ _ us hl => match us, hl with | [_, _], _ => rfl
  have FCopy := fun_mk (st := sCopy) lCopy cCopy kCopy
  have bCopy := FCopy.binds (ps := ["_law_rows"]) fun _ _ _ _ _ _ us hl => match us, hl with | [_], _ => rfl
  have FTable := fun_mk (st := sTable) lTable cTable kTable
  have bTable := FTable.binds (ps := ["_law_well_here", "_law_signs"]) fun _ _ _ _ _ _ us hl => match us, hl with | [_, _], _ => rfl
  have FWrong := fun_mk (st := sWrong) lWrong cWrong kWrong
  have bWrong := FWrong.binds (ps := ["_law_well_here", "_law_signs", "_law_places"]) fun _ _ _ _ _ _ us hl => match us, hl with | [_, _, _], _ => rfl
  have FPut := fun_mk (st := sPut) lPut cPut kPut
  have bPut := FPut.binds (ps := ["_law_well_here", "_law_arcs", "_law_place", "_law_arc"]) fun _ _ _ _ _ _ us hl => match us, hl with | [_, _, _, _], _ => rfl
  have FKept := fun_mk (st := sKept) lKept cKept kKept
  have bKept := FKept.binds (ps := ["_law_machine", "_law_arcs", "_law_goods", "_law_letters_here", "_law_vowels"]) fun _ _ _ _ _ _ us hl => match us, hl with | [_, _, _, _, _], _ => rfl
  have FRefused := fun_mk (st := sRefused) lRefused cRefused kRefused
  have bRefused := FRefused.binds (ps := ["_law_alphabet", "_law_arcs", "_law_goods"]) fun _ _ _ _ _ _ us hl => match us, hl with | [_, _, _], _ => rfl
  have FLaw := fun_mk (st := sLaw) lLaw cLaw kLaw
  have bLaw := FLaw.binds (ps := ["_law_script"]) fun _ _ _ _ _ _ us hl => match us, hl with | [_], _ => rfl
  have FIsSign := fun_mk (st := sIsSign) lIsSign cIsSign kIsSign
  have bIsSign := FIsSign.binds (ps := ["self", "text"]) fun _ _ _ _ _ _ us hl => match us, hl with | [_, _], _ => rfl
  have FMInit := fun_mk (st := sMInit) lMInit cMInit kMInit
  have bMInit := FMInit.binds (ps := ["self", "alphabet", "arcs", "goods"]) fun _ _ _ _ _ _ us hl => match us, hl with | [_, _, _, _], _ => rfl
  have FMLen := fun_mk (st := sMLen) lMLen cMLen kMLen
  have bMLen := FMLen.binds (ps := ["self"]) fun _ _ _ _ _ _ us hl => match us, hl with | [_], _ => rfl
  have FA : FunD K "__init__" "Alphabet.__init__" (defArgs sAI) (defBody sAI) (defScope sAI) [.str ""] [] fA (PySem.W.fnOf "__init__" "Alphabet.__init__" (defArgs sAI) (defBody sAI) (defScope sAI) (.ref TDA) kVA dcA pmA anA cdA ctA) :=
    ⟨⟨_, _, _, _, _, _, _, _, _, _, rfl, lA, cA, .inr ⟨by simp, TDA, _, [Value.str "" tDA], nDA, rfl, lDA, rfl, .cons ⟨_, rfl⟩ .nil⟩, .inl rfl⟩, kA⟩
  obtain ⟨d0A, v0A, bA⟩ := FA.binds1 (ps := ["self", "letters", "vowels"]) 3 1 (by simp) rfl fun T kV doc pm an cdv ct us its h1 h2 => match us, its, h1, h2 with | [_, _, _], [_], _, _ => ⟨_, rfl, rfl⟩
  have ed0A : d0A = [] := by
    cases v0A
    rfl
  subst ed0A
  have OXBA : OexC K BA := ⟨⟨_, _, _, _, _, _, _, _, _, _, _, _, _, _, _, xBA, rfl⟩, saBA, eBA, tBA, kBA⟩
  have supBA : PySem.W.ks_superIn K BA BA "__init__" = some (some (.builtin "ValueError.__init__")) := by
    have hcl : PySem.W.clsIn K BA = some { name := nmBA, bases := bsBA, mro := .ref BA :: [.ref TE, .type "ValueError", .type "Exception", .type "BaseException", .type "object"], ns := NBA, qualname := qBA, hasDict := true, slotNames := snBA, subclasses := subBA, abstract := abBA, collection := colBA, hasDel := false } := by
      unfold PySem.W.clsIn
      rw [xBA] <;> rfl
    unfold PySem.W.ks_superIn
    rw [hcl]
    have e1 : PySem.W.findIn K (.ref TE) "__init__" = PySem.W.alongIn K "__init__" [.ref TE, .type "ValueError", .type "Exception", .type "BaseException", .type "object"] := by
      unfold PySem.W.findIn
      simp only [xTE]
    rw [← iTE, e1]
    show PySem.W.alongIn K "__init__" (((Value.ref BA :: [.ref TE, .type "ValueError", .type "Exception", .type "BaseException", .type "object"]).dropWhile (· != .ref BA)).drop 1) = _
    have hb : (Value.ref BA != .ref BA) = false := by simp
    rw [List.dropWhile_cons, hb]
    rfl
  have SCBA : SupC l.prog K mg BA ccBA cdaBA := ⟨OXBA, ⟨_, _, _, lccBA⟩, ⟨_, _, _, _, _, _, lcdBA, hvBA, hflBA⟩, mmBA, supBA, vBA, noT, gn noM, anyS⟩
  have bBA : Binds K (PySem.W.ksFn "__init__" "BadAlphabet.__init__" (defArgs sBA) (defBody sBA) (defScope sBA) .none kVBA dcBA pmBA anBA (.ref cdaBA) ctBA ccBA) ["self", "part"] [] := Binds.all fun us hl => match us, hl with | [_, _], _ => rfl
  have OXBB : OexC K BB := ⟨⟨_, _, _, _, _, _, _, _, _, _, _, _, _, _, _, xBB, rfl⟩, saBB, eBB, tBB, kBB⟩
  have supBB : PySem.W.ks_superIn K BB BB "__init__" = some (some (.builtin "ValueError.__init__")) := by
    have hcl : PySem.W.clsIn K BB = some { name := nmBB, bases := bsBB, mro := .ref BB :: [.ref TE, .type "ValueError", .type "Exception", .type "BaseException", .type "object"], ns := NBB, qualname := qBB, hasDict := true, slotNames := snBB, subclasses := subBB, abstract := abBB, collection := colBB, hasDel := false } := by
      unfold PySem.W.clsIn
      rw [xBB] <;> rfl
    unfold PySem.W.ks_superIn
    rw [hcl]
    have e1 : PySem.W.findIn K (.ref TE) "__init__" = PySem.W.alongIn K "__init__" [.ref TE, .type "ValueError", .type "Exception", .type "BaseException", .type "object"] := by
      unfold PySem.W.findIn
      simp only [xTE]
    rw [← iTE, e1]
    show PySem.W.alongIn K "__init__" (((Value.ref BB :: [.ref TE, .type "ValueError", .type "Exception", .type "BaseException", .type "object"]).dropWhile (· != .ref BB)).drop 1) = _
    have hb : (Value.ref BB != .ref BB) = false := by simp
    rw [List.dropWhile_cons, hb]
    rfl
  have SCBB : SupC l.prog K mg BB ccBB cdaBB := ⟨OXBB, ⟨_, _, _, lccBB⟩, ⟨_, _, _, _, _, _, lcdBB, hvBB, hflBB⟩, mmBB, supBB, vBB, noT, gn noM, anyS⟩
  have bBB : Binds K (PySem.W.ksFn "__init__" "BadTable.__init__" (defArgs sEBadTable) (defBody sEBadTable) (defScope sEBadTable) .none kVBB dcBB pmBB anBB (.ref cdaBB) ctBB ccBB) ["self", "place"] [] := Binds.all fun us hl => match us, hl with | [_, _], _ => rfl
  have EBB : EF K mg "BadTable" BB fBB (PySem.W.ksFn "__init__" "BadTable.__init__" (defArgs sEBadTable) (defBody sEBadTable) (defScope sEBadTable) .none kVBB dcBB pmBB anBB (.ref cdaBB) ctBB ccBB) ["self", "place"] := ⟨OXBB, aFBB, tFBB, gm aBB, bBB⟩
  have T : Fns K mg ⟨fDiff, fIsSign, fMInit, fMLen, fCkLen, fIsLabel, fIsArc, fWell, fTake, fLetters, fStrange, fCopy, fTable, fWrong, fPut, fKept, fRefused, fa, C, MC, TE, MI, BT, BB, fBB, tj2⟩
      ⟨(PySem.W.fnOf "differ_within" "differ_within" (defArgs sDiff) (defBody sDiff) (defScope sDiff) .none kVDiff dcDiff pmDiff anDiff cdDiff ctDiff), (PySem.W.fnOf "is_sign" "Alphabet.is_sign" (defArgs sIsSign) (defBody sIsSign) (defScope sIsSign) .none kVIsSign dcIsSign pmIsSign anIsSign cdIsSign ctIsSign), (PySem.W.fnOf "__init__" "Machine.__init__" (defArgs sMInit) (defBody sMInit) (defScope sMInit) .none kVMInit dcMInit pmMInit anMInit cdMInit ctMInit), (PySem.W.fnOf "__len__" "Machine.__len__" (defArgs sMLen) (defBody sMLen) (defScope sMLen) .none kVMLen dcMLen pmMLen anMLen cdMLen ctMLen), (PySem.W.fnOf "check_lengths" "check_lengths" (defArgs sCkLen) (defBody sCkLen) (defScope sCkLen) .none kVCkLen dcCkLen pmCkLen anCkLen cdCkLen ctCkLen), (PySem.W.fnOf "is_label" "is_label" (defArgs sIsLabel) (defBody sIsLabel) (defScope sIsLabel) .none kVIsLabel dcIsLabel pmIsLabel anIsLabel cdIsLabel ctIsLabel), (PySem.W.fnOf "is_arc" "is_arc" (defArgs sIsArc) (defBody sIsArc) (defScope sIsArc) .none kVIsArc dcIsArc pmIsArc anIsArc cdIsArc ctIsArc), (PySem.W.fnOf "_law_well" "_law_well" (defArgs sWell) (defBody sWell) (defScope sWell) .none kVWell dcWell pmWell anWell cdWell ctWell), (PySem.W.fnOf "_law_take" "_law_take" (defArgs sTake) (defBody sTake) (defScope sTake) .none kVTake dcTake pmTake anTake cdTake ctTake), (PySem.W.fnOf "_law_letters" "_law_letters" (defArgs sLetters) (defBody sLetters) (defScope sLetters) .none kVLetters dcLetters pmLetters anLetters cdLetters ctLetters), (PySem.W.fnOf "_law_strange" "_law_strange" (defArgs sStrange) (defBody sStrange) (defScope sStrange) .none kVStrange dcStrange pmStrange anStrange cdStrange ctStrange), (PySem.W.fnOf "_law_copy" "_law_copy" (defArgs sCopy) (defBody sCopy) (defScope sCopy) .none kVCopy dcCopy pmCopy anCopy cdCopy ctCopy), (PySem.W.fnOf "_law_table" "_law_table" (defArgs sTable) (defBody sTable) (defScope sTable) .none kVTable dcTable pmTable anTable cdTable ctTable), (PySem.W.fnOf "_law_wrong" "_law_wrong" (defArgs sWrong) (defBody sWrong) (defScope sWrong) .none kVWrong dcWrong pmWrong anWrong cdWrong ctWrong), (PySem.W.fnOf "_law_put" "_law_put" (defArgs sPut) (defBody sPut) (defScope sPut) .none kVPut dcPut pmPut anPut cdPut ctPut), (PySem.W.fnOf "_law_kept" "_law_kept" (defArgs sKept) (defBody sKept) (defScope sKept) .none kVKept dcKept pmKept anKept cdKept ctKept), (PySem.W.fnOf "_law_refused" "_law_refused" (defArgs sRefused) (defBody sRefused) (defScope sRefused) .none kVRefused dcRefused pmRefused anRefused cdRefused ctRefused), (PySem.W.fnOf "law" "law" (defArgs sLaw) (defBody sLaw) (defScope sLaw) .none kVLaw dcLaw pmLaw anLaw cdLaw ctLaw), (PySem.W.ksFn "__init__" "BadTable.__init__" (defArgs sEBadTable) (defBody sEBadTable) (defScope sEBadTable) .none kVBB dcBB pmBB anBB (.ref cdaBB) ctBB ccBB)⟩ :=
    { z_len := gn z_len, z_set := gn z_set, z_all := gn z_all, z_abs := gn z_abs, z_int := gn z_int, z_range := gn z_range, z_sorted := gn z_sorted, z_isinstance := gn z_isinstance, z_str := gn z_str, z_bool := gn z_bool, z_list := gn z_list, z_tuple := gn z_tuple, z_any := gn z_any, z_enum := gn z_enumerate, z_min := gn z_min, z_max := gn z_max, z_VE := gn z_ValueError, z_zip := gn z_zip, z_dict := gn z_dict,
      gDiff := gm aDiff, FDiff := FDiff, bDiff := bDiff,
      mIsSign := ⟨aIsSign, iIsSign, kIsSign⟩, FIsSign := FIsSign, bIsSign := bIsSign,
      mMInit := ⟨aMInit, iMInit, kMInit⟩, FMInit := FMInit, bMInit := bMInit,
      mMLen := ⟨aMLen, iMLen, kMLen⟩, FMLen := FMLen, bMLen := bMLen,
      gCkLen := gm aCkLen, FCkLen := FCkLen, bCkLen := bCkLen,
      gIsLabel := gm aIsLabel, FIsLabel := FIsLabel, bIsLabel := bIsLabel,
      gIsArc := gm aIsArc, FIsArc := FIsArc, bIsArc := bIsArc,
      gWell := gm aWell, FWell := FWell, bWell := bWell,
      gTake := gm aTake, FTake := FTake, bTake := bTake,
      gLetters := gm aLetters, FLetters := FLetters, bLetters := bLetters,
      gStrange := gm aStrange, FStrange := FStrange, bStrange := bStrange,
      gCopy := gm aCopy, FCopy := FCopy, bCopy := bCopy,
      gTable := gm aTable, FTable := FTable, bTable := bTable,
      gWrong := gm aWrong, FWrong := FWrong, bWrong := bWrong,
      gPut := gm aPut, FPut := FPut, bPut := bPut,
      gKept := gm aKept, FKept := FKept, bKept := bKept,
      gRefused := gm aRefused, FRefused := FRefused, bRefused := bRefused,
      gLaw := gm aLaw, FLaw := FLaw, bLaw := bLaw,
      gcTaleError := gm aTE,
      gcMixed := gm aMI,
      gcBadText := gm aBT,
      gcBadTable := gm aBB,
      xBadTable := EBB,
      clA := ⟨pgC, hdC, poC, saC⟩,
      clM := ⟨pgMC, hdMC, poMC, saMC⟩,
      nL := nC_letters,
      nV := nC_vowels,
      nC := nC_consonants,
      nS := nC_signs,
      nMa := nMC_alphabet,
      nMr := nMC_arcs,
      nMg := nMC_goods }
  have A : AlF K C := ⟨⟨pgC, hdC, poC, saC⟩, nC_letters, nC_vowels, nC_consonants, nC_signs, icC, ig, it, imC⟩
  have AV : AlV K mg C (.type "type") tM tJ tl := ⟨gm aC, by rw [← az_S]; exact gm aSL, ⟨rdC, gaC⟩, ⟨vM, ⟨_, rfl⟩⟩, ⟨vJ, ⟨_, rfl⟩⟩⟩
  have BA' : BaF l.prog K mg BA fBA := ⟨OXBA, aFBA, tFBA, gm aBA⟩
  have XeBB : ErrX K (⟨fDiff, fIsSign, fMInit, fMLen, fCkLen, fIsLabel, fIsArc, fWell, fTake, fLetters, fStrange, fCopy, fTable, fWrong, fPut, fKept, fRefused, fa, C, MC, TE, MI, BT, BB, fBB, tj2⟩ : Ad) := ⟨⟨gaBB, ggBB, eBB, hBB⟩, nBB_place, ⟨gaBB, ggBB, eBB, hBB, icBB, ig, it, imBB⟩, PySem.W.exm_ref eTE hTE tTE sBB_TE, kit_own, kit_of clBT tBT sBB_BT sBT_BT, kit_of clMI tMI sBB_MI sMI_MI, by
        unfold PySem.W.kitOne
        have hne : (Value.ref BB == Value.type "ValueError") = false := beq_eq_false_iff_ne.mpr fun e => by cases e
        rw [hne, if_neg Bool.false_ne_true]
        show (if PySem.W.kitMeta "ValueError" = true then PySem.W.subIn K (.ref BB) (.type "ValueError") else none) = _
        rw [if_pos (by decide +kernel), vBB]⟩
  refine ⟨PySem.W.fnOf "law" "law" (defArgs sLaw) (defBody sLaw) (defScope sLaw) .none kVLaw dcLaw pmLaw anLaw cdLaw ctLaw, fun s v => .of_eq rfl, fun base _ _ => ?_⟩
  have GA := ok_alph (P := l.prog) (w := w) (base := base) FA T.toTxA A AV BA' FDiff bDiff (ok_ba SCBA nBA_part lBA cBA) bBA
  exact ok_law T ⟨mkMC, aMInit, iMInit, kMC⟩ (gm aMC) XeBB (ok_eBadTable SCBB nBB_place lBB cBB) AV ⟨mkC, aA, iA, kC⟩ GA bA
theorem walk {l : PySem.W.OpenLaw} {q : Program} {loose : List Str} {XP : (Str → Option Value) → Heap → Prop} {YP : World → Heap → Prop} {d : DefRec} {K : Params → PySem.W.Frag} (hn : l.most = some 63) (hdf : d.params.defaults = [])
    (hY : ∀ (w : World) (h : Heap), YP w h → (K w.params).In h)
    (F : ∀ (w : World) (mg : Str → Option Value) (fa : Addr) (h : Heap), (K w.params).In h → h.Ns mainGlobals mg → mg d.name = some (.ref fa) →
      ∃ fd : FuncData, (∀ (s : Shared) (u : Value), BindsTo s fd ⟨[u], []⟩ [("_law_script", u)]) ∧ ∀ base : Heap, (K w.params).In base → base.Ns mainGlobals mg → FnOk l.prog w (K w.params) mg base CX0 10 fa fd ["_law_script"] (spLaw (K w.params))) :
    PySem.W.WalkO q loose XP YP l.row.toRowW d [] (fun f vs => PySem.call f vs) :=
  L2.walk_of (n := 63) (k := 10) (x := "_law_script") (CX := fun _ => CX0) (sp := fun w => spLaw (K w.params)) hn (by decide) hdf ⟨rfl, by decide, by decide⟩ hY F (fun _ _ a ns hl _ hS => ⟨a, ns, rfl, hS, hl, fun _ => rfl⟩) fun _ _ _ _ _ z => z
end
end Vk
set_option Elab.async false
open PySem PySem.W PyProof.Rows
set_option maxRecDepth 100000 in
set_option maxHeartbeats 0 in
theorem PySem.Challenge.cw_talepost_k08_machine_tables_holds : PySem.Challenge.rw_talepost_k08_machine_tables.Holds := by
  w_on; o_law; k_head; (case hw => w_witness2)
  k_fill
  refine Vk.walk (l := PySem.Challenge.rw_talepost_k08_machine_tables) rfl rfl (fun w h Y => PySem.W.kIn_of Y) ?F
  case F =>
    intro w mg fa h KX G hmg
    refine' Vk.all_mk KX G hmg ?lDiff ?cDiff ?aDiff ?kDiff ?lCkLen ?cCkLen ?aCkLen ?kCkLen ?lIsLabel ?cIsLabel ?aIsLabel ?kIsLabel ?lIsArc ?cIsArc ?aIsArc ?kIsArc ?lWell ?cWell ?aWell ?kWell ?lTake ?cTake ?aTake ?kTake ?lLetters ?cLetters ?aLetters ?kLetters ?lStrange ?cStrange ?aStrange ?kStrange ?lCopy ?cCopy ?aCopy ?kCopy ?lTable ?cTable ?aTable ?kTable ?lWrong ?cWrong ?aWrong ?kWrong ?lPut ?cPut ?aPut ?kPut ?lKept ?cKept ?aKept ?kKept ?lRefused ?cRefused ?aRefused ?kRefused ?lLaw ?cLaw ?aLaw ?kLaw ?z_len ?z_set ?z_all ?z_abs ?z_int ?z_range ?z_sorted ?z_isinstance ?z_str ?z_bool ?z_list ?z_tuple ?z_any ?z_enumerate ?z_min ?z_max ?z_ValueError ?z_zip ?z_dict ?aC ?pgC ?hdC ?poC ?saC ?mkC ?kC ?nC_letters ?nC_vowels ?nC_consonants ?nC_signs ?ig ?it ?icC ?imC ?rdC ?gaC ?vM ?vJ ?aJ ?aSL ?aMC ?pgMC ?hdMC ?poMC ?saMC ?mkMC ?kMC ?nMC_alphabet ?nMC_arcs ?nMC_goods ?lIsSign ?cIsSign ?aIsSign ?kIsSign ?iIsSign ?lMInit ?cMInit ?aMInit ?kMInit ?iMInit ?lMLen ?cMLen ?aMLen ?kMLen ?iMLen ?lA ?cA ?aA ?lDA ?kA ?iA ?xTE ?aTE ?eTE ?tTE ?hTE ?iTE ?noT ?noM ?anyS ?xBA ?aBA ?eBA ?tBA ?hBA ?nBA_part ?saBA ?gaBA ?ggBA ?aFBA ?tFBA ?lBA ?cBA ?kBA ?lccBA ?lcdBA ?hvBA ?hflBA ?mmBA ?vBA ?xBB ?aBB ?eBB ?tBB ?hBB ?nBB_place ?saBB ?gaBB ?ggBB ?aFBB ?tFBB ?lBB ?cBB ?kBB ?lccBB ?lcdBB ?hvBB ?hflBB ?mmBB ?vBB ?xMI ?aMI ?eMI ?tMI ?hMI ?xBT ?aBT ?eBT ?tBT ?hBT ?sTE_TE ?clTE ?sBB_TE ?sBB_BB ?clBB ?sMI_MI ?clMI ?sBT_BT ?clBT ?sBB_MI ?sBB_BT ?icBB ?imBB
    (case aDiff => k_is)
    (case aCkLen => k_is)
    (case aIsLabel => k_is)
    (case aIsArc => k_is)
    (case aWell => k_is)
    (case aTake => k_is)
    (case aLetters => k_is)
    (case aStrange => k_is)
    (case aCopy => k_is)
    (case aTable => k_is)
    (case aWrong => k_is)
    (case aPut => k_is)
    (case aKept => k_is)
    (case aRefused => k_is)
    (case aLaw => k_is)
    (case z_len => k_is)
    (case z_set => k_is)
    (case z_all => k_is)
    (case z_abs => k_is)
    (case z_int => k_is)
    (case z_range => k_is)
    (case z_sorted => k_is)
    (case z_isinstance => k_is)
    (case z_str => k_is)
    (case z_bool => k_is)
    (case z_list => k_is)
    (case z_tuple => k_is)
    (case z_any => k_is)
    (case z_enumerate => k_is)
    (case z_min => k_is)
    (case z_max => k_is)
    (case z_ValueError => k_is)
    (case z_zip => k_is)
    (case z_dict => k_is)
    (case aC => k_is)
    (case aSL => k_is)
    (case aMC => k_is)
    (case aTE => k_is)
    (case noM => k_is)
    (case aBA => k_is)
    (case aBB => k_is)
    (case aMI => k_is)
    (case aBT => k_is)
    (case aIsSign => k_is)
    (case aMInit => k_is)
    (case aMLen => k_is)
    (case aA => k_is)
    (case aFBA => k_is)
    (case aFBB => k_is)
    (case lDiff => k_is)
    (case cDiff => k_is)
    (case kDiff => k_is)
    (case lCkLen => k_is)
    (case cCkLen => k_is)
    (case kCkLen => k_is)
    (case lIsLabel => k_is)
    (case cIsLabel => k_is)
    (case kIsLabel => k_is)
    (case lIsArc => k_is)
    (case cIsArc => k_is)
    (case kIsArc => k_is)
    (case lWell => k_is)
    (case cWell => k_is)
    (case kWell => k_is)
    (case lTake => k_is)
    (case cTake => k_is)
    (case kTake => k_is)
    (case lLetters => k_is)
    (case cLetters => k_is)
    (case kLetters => k_is)
    (case lStrange => k_is)
    (case cStrange => k_is)
    (case kStrange => k_is)
    (case lCopy => k_is)
    (case cCopy => k_is)
    (case kCopy => k_is)
    (case lTable => k_is)
    (case cTable => k_is)
    (case kTable => k_is)
    (case lWrong => k_is)
    (case cWrong => k_is)
    (case kWrong => k_is)
    (case lPut => k_is)
    (case cPut => k_is)
    (case kPut => k_is)
    (case lKept => k_is)
    (case cKept => k_is)
    (case kKept => k_is)
    (case lRefused => k_is)
    (case cRefused => k_is)
    (case kRefused => k_is)
    (case lLaw => k_is)
    (case cLaw => k_is)
    (case kLaw => k_is)
    (case pgC => k_is)
    (case hdC => k_is)
    (case poC => k_is)
    (case saC => k_is)
    (case mkC => k_is)
    (case kC => k_is)
    (case nC_letters => k_is)
    (case nC_vowels => k_is)
    (case nC_consonants => k_is)
    (case nC_signs => k_is)
    (case ig => k_is)
    (case it => k_is)
    (case icC => k_is)
    (case imC => k_is)
    (case rdC => k_is)
    (case gaC => k_is)
    (case vM => k_is)
    (case vJ => k_is)
    (case aJ => k_is)
    (case pgMC => k_is)
    (case hdMC => k_is)
    (case poMC => k_is)
    (case saMC => k_is)
    (case mkMC => k_is)
    (case kMC => k_is)
    (case nMC_alphabet => k_is)
    (case nMC_arcs => k_is)
    (case nMC_goods => k_is)
    (case lIsSign => k_is)
    (case cIsSign => k_is)
    (case kIsSign => k_is)
    (case iIsSign => k_is)
    (case lMInit => k_is)
    (case cMInit => k_is)
    (case kMInit => k_is)
    (case iMInit => k_is)
    (case lMLen => k_is)
    (case cMLen => k_is)
    (case kMLen => k_is)
    (case iMLen => k_is)
    (case lA => k_is)
    (case cA => k_is)
    (case lDA => k_is)
    (case kA => k_is)
    (case iA => k_is)
    (case xTE => k_is)
    (case eTE => k_is)
    (case tTE => k_is)
    (case hTE => k_is)
    (case iTE => k_is)
    (case noT => first | rfl | decide +kernel)
    (case anyS => k_is)
    (case xBA => k_is)
    (case eBA => k_is)
    (case tBA => k_is)
    (case hBA => k_is)
    (case nBA_part => k_is)
    (case saBA => k_is)
    (case gaBA => k_is)
    (case ggBA => k_is)
    (case tFBA => k_is)
    (case lBA => k_is)
    (case cBA => k_is)
    (case kBA => k_is)
    (case lccBA => k_is)
    (case lcdBA => k_is)
    (case hvBA => rfl)
    (case hflBA => first | rfl | decide +kernel)
    (case mmBA => k_is)
    (case vBA => k_is)
    (case xBB => k_is)
    (case eBB => k_is)
    (case tBB => k_is)
    (case hBB => k_is)
    (case nBB_place => k_is)
    (case saBB => k_is)
    (case gaBB => k_is)
    (case ggBB => k_is)
    (case tFBB => k_is)
    (case lBB => k_is)
    (case cBB => k_is)
    (case kBB => k_is)
    (case lccBB => k_is)
    (case lcdBB => k_is)
    (case hvBB => rfl)
    (case hflBB => first | rfl | decide +kernel)
    (case mmBB => k_is)
    (case vBB => k_is)
    (case xMI => k_is)
    (case eMI => k_is)
    (case tMI => k_is)
    (case hMI => k_is)
    (case xBT => k_is)
    (case eBT => k_is)
    (case tBT => k_is)
    (case hBT => k_is)
    (case sTE_TE => k_is)
    (case clTE => k_is)
    (case sBB_TE => k_is)
    (case sBB_BB => k_is)
    (case clBB => k_is)
    (case sMI_MI => k_is)
    (case clMI => k_is)
    (case sBT_BT => k_is)
    (case clBT => k_is)
    (case sBB_MI => k_is)
    (case sBB_BT => k_is)
    (case icBB => k_is)
    (case imBB => k_is)
